/- Several texts together: EntA. -/
import Derived.Test.YtkbaafgaaiekpaaGreatPeriodRestoresZ2
import Derived.Test.YtkbaafgaaiekpaaGreatPeriodRestoresZ3
import Derived.Test.YtkbaafgaaiekpaaGreatPeriodRestoresZ4
import Derived.Sort.Grow
import Derived.Deep.RegionHeld3
import Derived.Deep.DrawnRows
import Derived.Deep.QuietTactic
import Derived.BigQuiet
open Go.Lib (hid)
namespace Go.Proofs.YtkbaafgaaiekpaaGreat.entw
open Go.RowKit mem entm
set_option linter.unusedVariables false
def Grew (w w' : World) : Prop := ∃ q os, w' = Go.Sort.grow (w.drewN q) os
theorem Grew.refl (w : World) : Grew w w := ⟨0, #[], by rw [Go.Sort.grow_empty]; rfl⟩
theorem Grew.alloc {w w' : World} (h : Grew w w') (o : Obj) : Grew w (w'.alloc o) := by
  obtain ⟨q, os, rfl⟩ := h; exact ⟨q, os ++ #[o], by rw [Go.Sort.alloc_eq_grow, Go.Sort.grow_grow]⟩
theorem Grew.drew {w w' : World} (h : Grew w w') : Grew w w'.drew := by
  obtain ⟨q, os, rfl⟩ := h; exact ⟨q + 1, os, rfl⟩
theorem Grew.trans {a b c : World} (h : Grew a b) (k : Grew b c) : Grew a c := by
  obtain ⟨q, os, rfl⟩ := h; obtain ⟨q2, os2, rfl⟩ := k; refine ⟨q + q2, os ++ os2, ?_⟩; rw [← Go.Sort.grow_grow]; show Go.Sort.grow (Go.Sort.grow ((a.drewN q).drewN q2) os) os2 = _; rw [World.drewN_drewN]
theorem Grew.only {w w' : World} (h : Grew w w') : Only (fun _ => False) w w' := by
  obtain ⟨q, os, rfl⟩ := h; exact ⟨rfl, rfl, rfl, by rw [Go.Sort.size_grow]; exact Nat.le_add_right _ _, fun k hk _ => Go.Sort.heap_grow_old _ _ hk⟩
theorem compare_ints (x y : Int) (w : World) : Calls Tryz.prog 111 #[.int .i64 x, .int .i64 y] w fun e w' => e = .returned (.int .i64 (Lib.compareInt x y)) ∧ w = w' :=
  (Tryz.cmp_Compare_int x y w).mono fun _ _ ⟨a, b⟩ => ⟨a, b.symm⟩
def orL (l : List Int) : Int := (l.find? fun x => !(x == 0)).getD 0
theorem orL_cons (x : Int) (l : List Int) : orL (x :: l) = if x = 0 then orL l else x := by
  unfold orL
  by_cases h : x = 0
  · subst h; simp
  · rw [if_neg h, List.find?_cons_of_pos (by simpa using h)]; rfl
theorem drop_get (l : List Int) (k : Nat) (h : k < l.length) : l.drop k = l.getD k 0 :: l.drop (k + 1) := by
  rw [List.drop_eq_getElem_cons h]; simp [List.getD, h]
theorem or_any (a : Option Addr) (len cap : Nat) (l : List Int) (w : World) (h : ReadsI w a len l) :
    Calls Tryz.prog 110 #[.slice a len cap] w fun e w' => e = .returned (.int .i64 (orL l)) ∧ w = w' := by
  have hm := h.2.1; unfold maxLen at hm; have H := hid h; clear h; go_enter Tryz.func110, Tryz.ntmps110
  go_wp2_with fail
  go_loop [8] (fun i => ∃ k : Nat, k ≤ len ∧ i = .int .i64 k ∧ Hid (orL (l.drop k) = orL l)) (fun i => len - (intOf i).toNat)
  case atStart => exact ⟨0, by omega, rfl, hid rfl⟩
  case round =>
    obtain ⟨k, hk, rfl, HP⟩ := hrel
    by_cases h8 : k < len
    · obtain ⟨b, off, rfl, hcell⟩ := H.out.2.2.2.resolve_left (by omega); have hcl := hcell k h8; clear hcell; have hd := HP.out; rw [drop_get l k (by rw [H.out.1]; exact h8), orL_cons] at hd; generalize l.getD k 0 = x at *
      by_cases hx : x = 0
      · rw [if_pos hx] at hd; have HD := hid hd; subst hx; clear hd; go_wp2_with fail
        go_round
        case rel => exact ⟨k + 1, by omega, by go_num, HD⟩
        case measure => simp [intOf]; omega
      · rw [if_neg hx] at hd; have HD := hid hd; have hx1 : (x == 0) = false := (by simpa using hx); have hx2 : (x != 0) = true := (by simpa using hx); clear hd hx; (go_wp2_with fail); rw [← HD.out]; go_ret
        exact ⟨rfl, rfl⟩
    · obtain rfl : k = len := (by omega); have HR : Hid (orL l = 0) := hid (by
        have := HP.out; rw [List.drop_eq_nil_of_le (by rw [H.out.1]; omega)] at this; rw [← this]; rfl)
      (go_wp2_with fail); rw [HR.out]; go_ret
      exact ⟨rfl, rfl⟩
theorem kind_any (k : Int) (w : World) : Calls Tryz.prog 96 #[.int .i64 k] w fun e w' => e = .returned (.bool (kindB k)) ∧ w = w' := by
  have h : kindB k = (decide (1 ≤ k) && decide (k ≤ 6)) := rfl; rw [h]; clear h
  by_cases h1 : 1 ≤ k
  · go_enter Tryz.func96, Tryz.ntmps96
    (go_wp2_with fail); go_ret
    exact ⟨by simp [h1], rfl⟩
  · have hd : decide (1 ≤ k) = false := (by simpa using h1); go_enter Tryz.func96, Tryz.ntmps96
    (go_wp2_with fail); go_ret
    exact ⟨by simp, rfl⟩
theorem amount_any (a : Int) (w : World) : Calls Tryz.prog 100 #[.int .i64 a] w fun e w' => e = .returned (.bool (amtB a)) ∧ w = w' := by
  have h : amtB a = (!(a == 0) && (decide (-9007199254740992 ≤ a) && decide (a ≤ 9007199254740992))) := rfl; rw [h]; clear h
  by_cases h0 : a = 0
  · subst h0; go_enter Tryz.func100, Tryz.ntmps100
    (go_wp2_with fail); go_ret
    exact ⟨rfl, rfl⟩
  · have h0' : (a == 0) = false := (by simpa using h0); have h0'' : (a != 0) = true := by simpa using h0
    by_cases h1 : -9007199254740992 ≤ a
    · go_enter Tryz.func100, Tryz.ntmps100
      (go_wp2_with fail); go_ret
      exact ⟨by simp [h0', h1], rfl⟩
    · have hd : decide (-9007199254740992 ≤ a) = false := (by simpa using h1); go_enter Tryz.func100, Tryz.ntmps100
      (go_wp2_with fail); go_ret
      exact ⟨by simp, rfl⟩
set_option maxHeartbeats 8000000 in
theorem account_any (k n g : Int) (w : World) : Calls Tryz.prog 99 #[.agg #[.int .i64 k, .int .i64 n, .int .i64 g]] w fun e w' => e = .returned (.bool (accB ⟨k, n, g, 0⟩)) ∧ Only (fun _ => False) w w' := by
  have ho : ∀ o, Only (fun _ => False) w (w.alloc o) := fun o => (Only.refl _ w).alloc o
  by_cases hk : k = 1
  · subst hk
    by_cases hn : n = 0
    · subst hn; go_enter Tryz.func99, Tryz.ntmps99
      (go_wp2_with fail); go_ret
      exact ⟨by simp [accB], ho _⟩
    · have hn' : (n == 0) = false := (by simpa using hn); go_enter Tryz.func99, Tryz.ntmps99
      (go_wp2_with fail); go_ret
      exact ⟨by simp [accB, hn], ho _⟩
  · by_cases hk2 : k = 2 ∨ k = 3 ∨ k = 5
    · by_cases hn1 : 1 ≤ n
      · by_cases hn2 : n ≤ 32
        · rcases hk2 with rfl | rfl | rfl
          all_goals
            go_enter Tryz.func99, Tryz.ntmps99
            (go_wp2_with fail); go_ret
            exact ⟨by first | (simp [accB, nodeB]; done) | (simp [accB, nodeB]; omega) | (simp [accB, nodeB]; intros; omega), ho _⟩
        · have hd : decide (n ≤ 32) = false := (by simpa using hn2); rcases hk2 with rfl | rfl | rfl
          all_goals
            go_enter Tryz.func99, Tryz.ntmps99
            (go_wp2_with fail); go_ret
            exact ⟨by first | (simp [accB, nodeB]; done) | (simp [accB, nodeB]; omega) | (simp [accB, nodeB]; intros; omega), ho _⟩
      · have hd : decide (1 ≤ n) = false := (by simpa using hn1); rcases hk2 with rfl | rfl | rfl
        all_goals
          go_enter Tryz.func99, Tryz.ntmps99
          (go_wp2_with fail); go_ret
          exact ⟨by first | (simp [accB, nodeB]; done) | (simp [accB, nodeB]; omega) | (simp [accB, nodeB]; intros; omega), ho _⟩
    · by_cases hk4 : k = 4
      · subst hk4
        by_cases hn1 : 1 ≤ n
        · by_cases hn2 : n ≤ 32
          · by_cases hg1 : 1 ≤ g
            · go_enter Tryz.func99, Tryz.ntmps99
              (go_wp2_with fail); go_ret
              exact ⟨by simp [accB, nodeB, hn1, hn2, hg1], ho _⟩
            · have hd : decide (1 ≤ g) = false := (by simpa using hg1); go_enter Tryz.func99, Tryz.ntmps99
              (go_wp2_with fail); go_ret
              exact ⟨by first | (simp [accB, nodeB]; done) | (simp [accB, nodeB]; omega) | (simp [accB, nodeB]; intros; omega), ho _⟩
          · have hd : decide (n ≤ 32) = false := (by simpa using hn2); go_enter Tryz.func99, Tryz.ntmps99
            (go_wp2_with fail); go_ret
            exact ⟨by first | (simp [accB, nodeB]; done) | (simp [accB, nodeB]; omega) | (simp [accB, nodeB]; intros; omega), ho _⟩
        · have hd : decide (1 ≤ n) = false := (by simpa using hn1); go_enter Tryz.func99, Tryz.ntmps99
          (go_wp2_with fail); go_ret
          exact ⟨by first | (simp [accB, nodeB]; done) | (simp [accB, nodeB]; omega) | (simp [accB, nodeB]; intros; omega), ho _⟩
      · have e1 : (k == 1) = false := (by simpa using hk); have e2 : (k == 2) = false := (by simpa using (fun e => hk2 (.inl e))); have e3 : (k == 3) = false := (by simpa using (fun e => hk2 (.inr (.inl e)))); have e4 : (k == 4) = false := (by simpa using hk4); have e5 : (k == 5) = false := (by simpa using (fun e => hk2 (.inr (.inr e)))); have HA : Hid (accB ⟨k, n, g, 0⟩ = false) := hid (by unfold accB; rw [if_neg hk, if_neg hk2, if_neg hk4]); clear hk hk2 hk4; go_enter Tryz.func99, Tryz.ntmps99
        (go_wp2_with fail); rw [HA.out]; go_ret
        exact ⟨rfl, ho _⟩
theorem cmpA_or (x y : Lg) : orL [Lib.compareInt x.k y.k, Lib.compareInt x.n y.n, Lib.compareInt x.g y.g] = cmpA x y := by
  rw [orL_cons, orL_cons, orL_cons]; unfold cmpA Lib.compareInt
  repeat' split
  all_goals first | rfl | omega | (exfalso; omega)
theorem alloc_new (W : World) (cs : Array Value) (t : TypeId) (g i : Nat) (v : Value) (hg : g = W.heap.size) (h : cs[i]? = some v) : (W.alloc (.cells cs t)).cell? ⟨g, i, none⟩ = some v := by
  subst hg; rw [Go.Joins.cell_of_block (cs := cs) (t := t) (fr := (0, 0)) (by rw [heap_alloc, if_pos rfl]), h]
theorem drew_new (W : World) (cs : Array Value) (t : TypeId) (g i : Nat) (v : Value) (hg : g = W.heap.size) (h : cs[i]? = some v) : (W.alloc (.cells cs t)).drew.cell? ⟨g, i, none⟩ = some v :=
  alloc_new W cs t g i v hg h
theorem or_three (g : Nat) (a b c : Int) (w : World) (ha : -9223372036854775808 ≤ a ∧ a ≤ 9223372036854775807) (hb : -9223372036854775808 ≤ b ∧ b ≤ 9223372036854775807) (hc : -9223372036854775808 ≤ c ∧ c ≤ 9223372036854775807)
    (c0 : w.cell? ⟨g, 0, none⟩ = some (.int .i64 a)) (c1 : w.cell? ⟨g, 1, none⟩ = some (.int .i64 b)) (c2 : w.cell? ⟨g, 2, none⟩ = some (.int .i64 c)) :
    Calls Tryz.prog 110 #[.slice (some ⟨g, 0, none⟩) 3 3] w fun e w' => e = .returned (.int .i64 (orL [a, b, c])) ∧ w = w' := by
  refine or_any _ _ _ _ _ ⟨rfl, by unfold maxLen; omega, ?_, .inr ⟨g, 0, rfl, ?_⟩⟩
  · intro x hx; simp at hx; rcases hx with rfl | rfl | rfl <;> assumption
  · intro i hi
    match i, hi with
    | 0, _ => exact c0
    | 1, _ => exact c1
    | 2, _ => exact c2
theorem cmpInt_in (x y : Int) : -9223372036854775808 ≤ Lib.compareInt x y ∧ Lib.compareInt x y ≤ 9223372036854775807 := by
  unfold Lib.compareInt
  repeat' split
  all_goals omega
set_option maxHeartbeats 9000000 in
attribute [local go_sem ↓] Go.wp_at_zero Go.wp_at_succ in
theorem compare_any (x y : Lg) (w : World) : Calls Tryz.prog 101 #[.agg #[.int .i64 x.k, .int .i64 x.n, .int .i64 x.g], .agg #[.int .i64 y.k, .int .i64 y.n, .int .i64 y.g]] w fun e w' => e = .returned (.int .i64 (cmpA x y)) ∧ Grew w w' := by
  rw [← cmpA_or]; have hb1 := cmpInt_in x.k y.k; have hb2 := cmpInt_in x.n y.n; have hb3 := cmpInt_in x.g y.g; obtain ⟨xk, xn, xg, xa⟩ := x; obtain ⟨yk, yn, yg, ya⟩ := y; dsimp only at *; have HB := hid (And.intro hb1 (And.intro hb2 hb3)); clear hb1 hb2 hb3; have HG : Hid (∀ o1 o2, Grew w ((w.alloc o1).alloc o2)) := hid (fun o1 o2 => ((Grew.refl w).alloc o1).alloc o2); go_enter Tryz.func101, Tryz.ntmps101
  go_wp2_with fail
  go_region_held3 (fun w' => w'.cell? ⟨w.heap.size, 0, none⟩ = some (.int .i64 xk) ∧ w'.cell? ⟨w.heap.size, 1, none⟩ = some (.int .i64 xn) ∧ w'.cell? ⟨w.heap.size, 2, none⟩ = some (.int .i64 xg) ∧ w'.cell? ⟨w.heap.size + 1, 0, none⟩ = some (.int .i64 yk) ∧ w'.cell? ⟨w.heap.size + 1, 1, none⟩ = some (.int .i64 yn) ∧ w'.cell? ⟨w.heap.size + 1, 2, none⟩ = some (.int .i64 yg)) (go_keep)
    (first | (go_at_call 111; refine (compare_ints _ _ _).mono ?_; rintro _ _ ⟨rfl, rfl⟩) | (go_at_call 110; refine (or_three _ _ _ _ _ HB.out.1 HB.out.2.1 HB.out.2.2 (drew_new _ _ _ _ _ _ (by simp) rfl) (drew_new _ _ _ _ _ _ (by simp) rfl) (drew_new _ _ _ _ _ _ (by simp) rfl)).mono ?_; rintro _ _ ⟨rfl, rfl⟩))
  (go_wp2_with fail); go_ret
  exact ⟨rfl, ((HG.out _ _).alloc _).drew⟩
end Go.Proofs.YtkbaafgaaiekpaaGreat.entw
