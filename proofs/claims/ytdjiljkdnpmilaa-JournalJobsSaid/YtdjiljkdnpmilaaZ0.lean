/- Several texts together: JnL, JnM, JnN. -/
import Derived.Test.YtdjiljkdnpmilaaJnI
import Derived.Test.YtdjiljkdnpmilaaJnK
import Derived.Test.YtdjiljkdnpmilaaAcP
namespace Go.Proofs.Ytdjiljkdnpmilaa.jnw
open Go.RowKit mem accm accn entw entm bigw intm
set_option linter.unusedVariables false

def leg1 : List Lg := [⟨1, 0, 0, 5⟩, ⟨2, 1, 0, -5⟩]
theorem leg1_of {ls : List Lg} (hp : ls.Perm (rawL 1 5 0 [1])) (hs : Sorted ls) : ls = leg1 := by
  have e : (rawL 1 5 0 [1]) = leg1 := rfl
  rw [e] at hp
  refine sorted_one hp hs ?_ ?_
  · unfold Sorted leg1
    simp [ltA]
  · intro x hx y hy
    simp [leg1] at hx hy
    rcases hx with rfl | rfl <;> rcases hy with rfl | rfl <;> simp
theorem one_readsI (w : World) : ReadsI (w.alloc (.cells #[.int .i64 1] 3)) (some ⟨w.heap.size, 0, none⟩) 1 [1] := by
  refine ⟨rfl, by unfold maxLen; omega, by simp, .inr ⟨_, 0, rfl, ?_⟩⟩
  intro i hi
  match i, hi with
  | 0, _ => exact alloc_new _ _ _ _ _ _ rfl rfl
def leg2 : List Lg := [⟨1, 0, 0, 9007199254740992⟩, ⟨2, 1, 0, -4503599627370496⟩, ⟨2, 2, 0, -4503599627370496⟩]
theorem leg2_of {ls : List Lg} (hp : ls.Perm (rawL 1 4503599627370496 0 [1, 2])) (hs : Sorted ls) : ls = leg2 := by
  have e : (rawL 1 4503599627370496 0 [1, 2]) = leg2 := rfl
  rw [e] at hp
  refine sorted_one hp hs ?_ ?_
  · unfold Sorted leg2
    simp [ltA]
  · intro x hx y hy
    simp [leg2] at hx hy
    rcases hx with rfl | rfl | rfl <;> rcases hy with rfl | rfl | rfl <;> simp
theorem two_reads1 (w : World) : ReadsI (w.alloc (.cells #[.int .i64 1, .int .i64 2] 3)) (some ⟨w.heap.size, 0, none⟩) 2 [1, 2] := by
  refine ⟨rfl, by unfold maxLen; omega, by simp, .inr ⟨_, 0, rfl, ?_⟩⟩
  intro i hi
  match i, hi with
  | 0, _ => exact alloc_new _ _ _ _ _ _ rfl rfl
  | 1, _ => exact alloc_new _ _ _ _ _ _ rfl rfl

theorem rep_set (x : Int) : ∀ (n k : Nat), k < n → ((List.replicate n (0 : Int)).set k x).sum = x := by
  intro n
  induction n with
  | zero => intro k h; omega
  | succ n ih =>
    intro k h
    cases k with
    | zero => simp [List.replicate_succ]
    | succ k => rw [List.replicate_succ, List.set_cons_succ, List.sum_cons, ih k (by omega)]; omega
theorem rep_set0 : ∀ (n k : Nat), (List.replicate n (0 : Int)).set k 0 = List.replicate n 0 := by
  intro n
  induction n with
  | zero => intro k; rfl
  | succ n ih =>
    intro k
    cases k with
    | zero => rfl
    | succ k => rw [List.replicate_succ, List.set_cons_succ, ih k]
def rowX (op : Nat) (x : Int) : List Int := noughts.set op x
theorem rowX_sum {op : Nat} (h : op < 32) (x : Int) : (rowX op x).sum = x := rep_set x 32 op h
theorem rowX_0 (op : Nat) : rowX op 0 = noughts := rep_set0 32 op
theorem rowX_add {op : Nat} (h : op < 32) (x y : Int) : rowAdd (rowX op x) op y = rowX op (wrap64 (x + y)) := by
  unfold rowAdd rowX
  have e : (noughts.set op x).getD op 0 = x := by simp [List.getD, noughts, h]
  rw [e, List.set_set]
theorem noughts_sum : noughts.sum = 0 := by rw [← rowX_0 0, rowX_sum (by omega)]
theorem over_new (l : Lg) : overL (fun _ => none) l ↔ (1152921504606846976 < wrap64 (wrap64 0 + l.a) ∨ wrap64 (wrap64 0 + l.a) < -1152921504606846976) := by
  have e : (((fun _ => none : Ac → Option (List Int)) (lgA l)).getD noughts).sum = 0 := noughts_sum
  unfold overL
  rw [e]
theorem leg1_bal : wrap64 (((addC (fun _ => none) 0 leg1 ⟨2, 1, 0⟩).getD noughts).sum) = -5 := by
  have e : (addC (fun _ => none) 0 leg1 ⟨2, 1, 0⟩).getD noughts = rowX 0 (-5) := by
    have e1 : rowAdd (rowX 0 0) 0 (-5) = rowX 0 (-5) := by rw [rowX_add (by omega)]; congr 1; unfold wrap64; omega
    rw [← e1, rowX_0]
    simp [addC, leg1, updA, lgA]
  rw [e, rowX_sum (by omega)]
  unfold wrap64; omega
set_option maxRecDepth 100000 in
set_option maxHeartbeats 2000000 in
theorem journals_any (w : World) : Calls Try.prog 17 #[] w fun e w' => e = .returned (.bool true) ∧ Only (fun _ => False) w w' := by
  have HM := Lib.hid (fun w' => make_yes 1 5 0 rfl ⟨by omega, by omega⟩ ⟨by omega, by omega⟩ (some ⟨w'.heap.size, 0, none⟩) 1 1 [1] (path_yes ⟨by simp, by simp, by simp⟩) _ (one_readsI w') (by omega) (by omega))
  obtain ⟨p, hp⟩ : ∃ x, x = w.heap.size := ⟨_, rfl⟩
  have HP := Lib.hid hp
  go_enter Try.func17, Try.ntmps17
  go_wp2_with fail
  refine (new_any w).mono ?_
  rintro _ w1 ⟨rfl, hj, ho⟩
  rw [← hp] at hj ⊢
  have HJ1 := Lib.hid hj
  have HO1 := Lib.hid ho
  have hpl : p < w1.heap.size := World.block_lt_of_cell? w1 _ hj.c0
  have HPL := Lib.hid hpl
  clear hj ho hp hpl
  go_wp2_with fail
  refine (HM.out w1).mono ?_
  rintro e w2 ⟨g, cp, ls, hperm, hsort, hgw, ho, hrd, h⟩
  obtain rfl := leg1_of hperm hsort
  have h2 : e = .returned (.tuple #[.agg #[.int .i64 1, .slice (some ⟨g, 0, none⟩) 2 cp], .int .i64 0]) := by
    rcases h with ⟨_, h⟩ | ⟨h, _⟩
    · exact h
    · exact absurd rfl h
  subst h2
  have ho12 : Only (fun _ => False) w1 w2 := ((Only.refl _ w1).alloc _).trans ho
  have hgp : ¬ g = p := by have := HPL.out; have := (Only.refl (fun _ => False) w1).alloc (.cells #[.int .i64 1] 3) |>.size; omega
  have hgl : g < w2.heap.size := readsL_lt hrd (by show 0 < 2; omega)
  obtain ⟨w3, hw3⟩ : ∃ x, x = w2.alloc (.cells #[.int .i64 1, .slice (some ⟨g, 0, none⟩) 2 cp] 25) := ⟨_, rfl⟩
  obtain ⟨q, hq⟩ : ∃ x, x = w2.heap.size := ⟨_, rfl⟩
  have ho3 : Only (fun _ => False) w2 w3 := by rw [hw3]; exact (Only.refl _ _).alloc _
  have hsz3 : w3.heap.size = w2.heap.size + 1 := by rw [hw3]; exact size_alloc _ _
  have HAT : Hid (JnAt (fun x => x = p ∨ w3.heap.size ≤ x) w3 p (.slice none 0 0) 0 none 0 (fun _ => none) []) := Lib.hid (JnAt.new (HJ1.out.only (ho12.trans ho3) (fun f => f)) (.inl rfl))
  have HPO := Lib.hid (post_yes p 0 (.slice none 0 0) none 0 (fun _ => none) [] 1 (some ⟨g, 0, none⟩) 2 cp leg1 w3 HAT.out (hrd.only ho3 (fun _ _ f => f)) rfl (by decide) (fun j hj => by
    have : j = 0 ∨ j = 1 := by omega
    rcases this with rfl | rfl
    · show ¬ overL _ (⟨1, 0, 0, 5⟩ : Lg); rw [over_new]; dsimp only; unfold wrap64; omega
    · show ¬ overL _ (⟨2, 1, 0, -5⟩ : Lg); rw [over_new]; dsimp only; unfold wrap64; omega) (fun y e f => by
    cases e
    have f : g = p ∨ w3.heap.size ≤ g := f
    omega))
  have c0 : w3.cell? ⟨q, 0, none⟩ = some (.int .i64 1) := by rw [hw3]; exact alloc_new _ _ _ _ _ _ hq rfl
  have c1 : w3.cell? ⟨q, 1, none⟩ = some (.slice (some ⟨g, 0, none⟩) 2 cp) := by rw [hw3]; exact alloc_new _ _ _ _ _ _ hq rfl
  have HO3 : Hid (Only (fun _ => False) w w3) := Lib.hid (HO1.out.trans (ho12.trans ho3))
  have HS3 : Hid (∀ x, (x = p ∨ w3.heap.size ≤ x) → w.heap.size ≤ x) := Lib.hid (fun x e => by have := HO3.out.size; have := HP.out; omega)
  clear hperm hsort hgw ho hrd h ho12 hgp hgl ho3 hsz3 HM HJ1 HO1
  go_upto_region 3 with fail
  simp only [← hw3, ← hq]
  clear hw3 hq
  go_wp2_with fail
  refine HPO.out.mono ?_
  rintro _ w4 ⟨rfl, v4, m4, nn4, g4, cp4, hat, ho⟩
  have HTR := Lib.hid (trial_any p 0 v4 m4 nn4 _ _ 0 w4 hat)
  have HAT4 := Lib.hid hat
  have HO4 : Hid (Only (fun _ => False) w w4) := Lib.hid (HO3.out.then ho (fun k hk e => by have := HS3.out k e; omega))
  have e1 : triE 0 [⟨1, g4, 2, cp4, 0, leg1⟩] 0 = 0 := rfl
  have e2 : triO 0 [⟨1, g4, 2, cp4, 0, leg1⟩] 0 = (5, 5) := rfl
  rw [List.nil_append, e1, e2] at HTR
  clear hat ho c0 c1 HPO HAT e1 e2
  go_wp2_with fail
  refine HTR.out.mono ?_
  rintro _ w5 ⟨rfl, ho⟩
  have HBA := Lib.hid (bal_any p 0 v4 m4 nn4 _ 2 1 0 (by unfold InA I64; dsimp only; omega) w5 (HAT4.out.quiet ho).jc (HAT4.out.quiet ho).mp)
  have e3 : wrap64 (((addC (fun _ => none) 0 leg1 ⟨2, 1, 0⟩).getD noughts).sum) = -5 := leg1_bal
  rw [e3] at HBA
  have HO5 := Lib.hid (HO4.out.trans ho)
  clear ho HTR HAT4 e3
  go_wp2_with fail
  refine HBA.out.mono ?_
  rintro _ w6 ⟨rfl, ho⟩
  have HO6 := Lib.hid (HO5.out.trans ho)
  clear ho HBA
  go_wp2_with fail
  go_ret
  exact ⟨rfl, HO6.out⟩

/-- the same entry, so many times -/
def addN (op : Nat) : Nat → Ac → Option (List Int)
  | 0 => fun _ => none
  | r + 1 => addC (addN op r) op leg2
theorem addN_at {op : Nat} (h : op < 32) : ∀ r : Nat, r ≤ 200 → ((addN op r) ⟨1, 0, 0⟩).getD noughts = rowX op (r * 9007199254740992) ∧ ((addN op r) ⟨2, 1, 0⟩).getD noughts = rowX op (r * -4503599627370496) ∧ ((addN op r) ⟨2, 2, 0⟩).getD noughts = rowX op (r * -4503599627370496) := by
  intro r
  induction r with
  | zero =>
    intro _
    have e : ((0 : Nat) : Int) * 9007199254740992 = 0 ∧ ((0 : Nat) : Int) * -4503599627370496 = 0 := by omega
    rw [e.1, e.2, rowX_0]
    exact ⟨rfl, rfl, rfl⟩
  | succ r ih =>
    intro hr
    obtain ⟨h1, h2, h3⟩ := ih (by omega)
    have e1 : wrap64 ((r : Int) * 9007199254740992 + 9007199254740992) = ((r + 1 : Nat) : Int) * 9007199254740992 := by unfold wrap64; omega
    have e2 : wrap64 ((r : Int) * -4503599627370496 + -4503599627370496) = ((r + 1 : Nat) : Int) * -4503599627370496 := by unfold wrap64; omega
    refine ⟨?_, ?_, ?_⟩
    · rw [← e1, ← rowX_add h, ← h1]
      simp [addN, addC, leg2, updA, lgA]
    · rw [← e2, ← rowX_add h, ← h2]
      simp [addN, addC, leg2, updA, lgA]
    · rw [← e2, ← rowX_add h, ← h3]
      simp [addN, addC, leg2, updA, lgA]
theorem not_over {op : Nat} (h : op < 32) {r : Nat} (hr : r < 128) (j : Nat) (hj : j < 3) : ¬ overL (addN op r) (leg2.getD j default) := by
  obtain ⟨h1, h2, h3⟩ := addN_at h r (by omega)
  have : j = 0 ∨ j = 1 ∨ j = 2 := by omega
  rcases this with rfl | rfl | rfl
  · show ¬ overL _ (⟨1, 0, 0, 9007199254740992⟩ : Lg)
    unfold overL lgA
    rw [h1, rowX_sum h]
    dsimp only
    unfold wrap64
    omega
  · show ¬ overL _ (⟨2, 1, 0, -4503599627370496⟩ : Lg)
    unfold overL lgA
    rw [h2, rowX_sum h]
    dsimp only
    unfold wrap64
    omega
  · show ¬ overL _ (⟨2, 2, 0, -4503599627370496⟩ : Lg)
    unfold overL lgA
    rw [h3, rowX_sum h]
    dsimp only
    unfold wrap64
    omega
theorem is_over {op : Nat} (h : op < 32) : overL (addN op 128) (leg2.getD 0 default) := by
  obtain ⟨h1, h2, h3⟩ := addN_at h 128 (by omega)
  show overL _ (⟨1, 0, 0, 9007199254740992⟩ : Lg)
  unfold overL lgA
  rw [h1, rowX_sum h]
  dsimp only
  unfold wrap64
  omega
theorem tmod_inJ (y m : Int) (hm : 0 < m) (hm2 : m ≤ 100000000000000000) : 0 ≤ wrap64 ((IntKind.u64.wrap y).tmod m) ∧ wrap64 ((IntKind.u64.wrap y).tmod m) < m := by
  have e : IntKind.u64.wrap y = y % 18446744073709551616 := by rw [IntKind.wrap_u64]
  have h1 : 0 ≤ IntKind.u64.wrap y := by rw [e]; omega
  have h2 := Int.tmod_nonneg m h1
  have h3 := Int.tmod_lt_of_pos (IntKind.u64.wrap y) hm
  have h4 : wrap64 ((IntKind.u64.wrap y).tmod m) = (IntKind.u64.wrap y).tmod m := by unfold wrap64; omega
  rw [h4]
  exact ⟨h2, h3⟩
end Go.Proofs.Ytdjiljkdnpmilaa.jnw

namespace Go.Proofs.Ytdjiljkdnpmilaa.jnw
open Go.RowKit mem accm accn entw entm bigw intm
set_option linter.unusedVariables false

set_option maxRecDepth 100000 in
set_option maxHeartbeats 4000000 in
theorem full_walk (a0 a1 : Int) (w : World) : Calls Try.prog 6 #[.int .i64 a0, .int .i64 a1] w fun e w' => e = .returned (.bool true) ∧ Only (fun _ => False) w w' := by
  have HM := Lib.hid (fun w' => make_yes 1 4503599627370496 0 rfl ⟨by omega, by omega⟩ ⟨by omega, by omega⟩ (some ⟨w'.heap.size, 0, none⟩) 2 2 [1, 2] (path_yes ⟨by simp, by simp, by simp⟩) _ (two_reads1 w') (by omega) (by omega))
  have hz := tmod_inJ a0 40 (by decide) (by decide)
  have hy := tmod_inJ a1 10 (by decide) (by decide)
  generalize hzz : wrap64 ((IntKind.u64.wrap a0).tmod 40) = z at hz
  generalize hyy : wrap64 ((IntKind.u64.wrap a1).tmod 10) = y at hy
  obtain ⟨hz0, hz1⟩ := hz
  obtain ⟨hy0, hy1⟩ := hy
  obtain ⟨n, rfl⟩ : ∃ n : Nat, z = n := ⟨z.toNat, by omega⟩
  obtain ⟨m0, rfl⟩ : ∃ m : Nat, y = m := ⟨y.toNat, by omega⟩
  have HYY := Lib.hid hyy
  clear hyy
  obtain ⟨p, hp⟩ : ∃ x, x = w.heap.size := ⟨_, rfl⟩
  have HP := Lib.hid hp
  go_enter Try.func6, Try.ntmps6
  go_wp2_with fail
  refine (new_any w).mono ?_
  rintro _ w1 ⟨rfl, hj, ho⟩
  rw [← hp] at hj ⊢
  have HJ1 := Lib.hid hj
  have HO1 := Lib.hid ho
  have HPL := Lib.hid (World.block_lt_of_cell? w1 _ hj.c0)
  clear hj ho hp
  go_wp2_with fail
  simp only [hzz]
  clear hzz
  go_loopw [7] (fun i wr => ∃ k : Nat, k ≤ n ∧ i = .int .i64 k ∧ Hid (JnC wr p (.slice none 0 0) (min k 31) none) ∧ Hid (Only (fun q => q = p) w1 wr)) (fun i _ => n - (intOf i).toNat)
  case atStart => exact ⟨0, by omega, rfl, Lib.hid HJ1.out, Lib.hid (Only.refl _ _)⟩
  case round =>
    obtain ⟨k, hk, rfl, HJ, HW⟩ := hrel
    rename World => wr
    by_cases h8 : k < n
    · have hin : (k : Int) < (n : Int) := by omega
      by_cases h31 : k < 31
      · have hk31 : (k : Int) < 31 := by omega
        have HCL := Lib.hid (close_yes p k (.slice none 0 0) none wr (by have := HJ.out; rwa [Nat.min_eq_left (by omega : k ≤ 31)] at this) h31)
        have hkk : ((k + 1 : Nat) : Int) = (k : Int) + 1 := by omega
        rw [hkk] at HCL
        have HKK := Lib.hid hkk
        have hwk : wrap64 ((k : Int) + 1) = (k : Int) + 1 := by unfold wrap64; omega
        clear hkk
        go_wp2_with fail
        refine HCL.out.mono ?_
        rintro _ w2 ⟨rfl, hj, ho⟩
        have HJ2 : Hid (JnC w2 p (.slice none 0 0) (min (k + 1) 31) none) := Lib.hid (by rw [Nat.min_eq_left (by omega : k + 1 ≤ 31)]; exact hj)
        have HO2 := Lib.hid (HW.out.trans ho)
        clear hj ho HCL
        have hkb : ((k : Int) + 1 != (k : Int) + 1) = false := by simp
        go_wp2_with fail
        go_roundw
        case rel => exact ⟨k + 1, by omega, by go_num, HJ2, HO2⟩
        case measure => (simp [intOf]; omega)
      · have hk31 : ¬ (k : Int) < 31 := by omega
        have HCL := Lib.hid (close_full p (min k 31) (.slice none 0 0) none wr HJ.out (by omega))
        go_wp2_with fail
        refine HCL.out.mono ?_
        rintro _ w2 ⟨rfl, rfl⟩
        have HJ2 : Hid (JnC w2 p (.slice none 0 0) (min (k + 1) 31) none) := Lib.hid (by have h := HJ.out; rw [show min k 31 = min (k + 1) 31 by omega] at h; exact h)
        clear HCL
        go_wp2_with fail
        go_roundw
        case rel => exact ⟨k + 1, by omega, by go_num, HJ2, HW⟩
        case measure => (simp [intOf]; omega)
    · have hge : ¬ (k : Int) < (n : Int) := by omega
      obtain rfl : k = n := by omega
      obtain ⟨op, hop⟩ : ∃ op, op = min k 31 := ⟨_, rfl⟩
      have hmin : min (k : Int) 31 = (op : Int) := by omega
      have hop32 : op < 32 := by omega
      rw [← hop] at HJ
      clear hop
      go_wp2_with fail
      refine (HM.out _).mono ?_
      rintro e w2 ⟨g, cp, ls, hperm, hsort, hgw, ho, hrd, h⟩
      obtain rfl := leg2_of hperm hsort
      have h2 : e = .returned (.tuple #[.agg #[.int .i64 1, .slice (some ⟨g, 0, none⟩) 3 cp], .int .i64 0]) := by
        rcases h with ⟨_, h⟩ | ⟨h, _⟩
        · exact h
        · exact absurd rfl h
      subst h2
      have ho12 : Only (fun _ => False) wr w2 := ((Only.refl _ wr).alloc _).trans ho
      have hgp : ¬ g = p := by have := HPL.out; have := HW.out.size; have := ((Only.refl (fun _ => False) wr).alloc (.cells #[.int .i64 1, .int .i64 2] 3)).size; omega
      have hgl : g < w2.heap.size := readsL_lt hrd (by show 0 < 3; omega)
      obtain ⟨w3, hw3⟩ : ∃ x, x = w2.alloc (.cells #[.int .i64 1, .slice (some ⟨g, 0, none⟩) 3 cp] 25) := ⟨_, rfl⟩
      obtain ⟨q, hq⟩ : ∃ x, x = w2.heap.size := ⟨_, rfl⟩
      have ho3 : Only (fun _ => False) w2 w3 := by rw [hw3]; exact (Only.refl _ _).alloc _
      have hsz3 : w3.heap.size = w2.heap.size + 1 := by rw [hw3]; exact size_alloc _ _
      obtain ⟨S, hS⟩ : ∃ S : Nat → Prop, S = fun x => x = p ∨ w3.heap.size ≤ x := ⟨_, rfl⟩
      have HSX : Hid (∀ x, w3.heap.size ≤ x → S x) := Lib.hid (fun x e => by rw [hS]; exact .inr e)
      have HAT : Hid (JnAt S w3 p (.slice none 0 0) op none 0 (addN op 0) []) := Lib.hid (JnAt.new (HJ.out.only (ho12.trans ho3) (fun f => f)) (by rw [hS]; exact .inl rfl))
      have HGS : Hid (¬ S g) := Lib.hid (by rw [hS]; intro f; have f : g = p ∨ w3.heap.size ≤ g := f; omega)
      have HQS : Hid (¬ S q) := Lib.hid (by rw [hS]; intro f; have f : q = p ∨ w3.heap.size ≤ q := f; have := HPL.out; have := HW.out.size; have := ho12.size; omega)
      have HRD : Hid (ReadsL w3 (some ⟨g, 0, none⟩) 3 leg2) := Lib.hid (hrd.only ho3 (fun _ _ f => f))
      have HC0 : Hid (w3.cell? ⟨q, 0, none⟩ = some (.int .i64 1) ∧ w3.cell? ⟨q, 1, none⟩ = some (.slice (some ⟨g, 0, none⟩) 3 cp)) := Lib.hid ⟨by rw [hw3]; exact alloc_new _ _ _ _ _ _ hq rfl, by rw [hw3]; exact alloc_new _ _ _ _ _ _ hq rfl⟩
      have HO3 : Hid (Only (fun x => x = p) w1 w3) := Lib.hid (HW.out.trans ((ho12.trans ho3).mono (fun _ _ f => f.elim)))
      have HSP : Hid (∀ x, x < w.heap.size → ¬ S x) := Lib.hid (fun x hx => by rw [hS]; intro f; have f : x = p ∨ w3.heap.size ≤ x := f; have := HP.out; have := HO1.out.size; have := HO3.out.size; omega)
      clear hperm hsort hgw ho hrd h ho12 hgp hgl ho3 hsz3 HM HJ HW hS
      go_upto_region 10 with fail
      simp only [← hw3, ← hq]
      clear hw3 hq
      go_wp2_with fail
      refine (journals_any w3).mono ?_
      rintro _ w4 ⟨rfl, ho⟩
      have HO4 := Lib.hid ho
      clear ho
      go_wp2_with fail
      refine (period_any p op (.slice none 0 0) none w4 (HAT.out.quiet HO4.out).jc).mono ?_
      rintro _ w5 ⟨rfl, rfl⟩
      have hyy := HYY.out
      have hopb : ((op : Int) != (op : Int)) = false := by simp
      obtain ⟨M, hM⟩ : ∃ M : Nat, M = 122 + m0 := ⟨_, rfl⟩
      have hM2 : M ≤ 131 ∧ 122 ≤ M := by omega
      have hMw : 122 + (m0 : Int) = (M : Int) := by omega
      clear hM
      go_wp2_with fail
      simp only [hyy]
      clear hyy hmin hopb hMw
      go_loopw [13] (fun i wx => ∃ (k : Nat) (v : Value) (m : Option Nat) (nn : Nat) (L : List Ps), k ≤ M ∧ i = .int .i64 k ∧ L.length = min k 128 ∧ Hid (JnAt S wx p v op m nn (addN op (min k 128)) L) ∧ Hid (Only S w3 wx)) (fun i _ => M - (intOf i).toNat)
      case atStart => exact ⟨0, _, _, _, [], by omega, rfl, rfl, Lib.hid (HAT.out.quiet HO4.out), Lib.hid (HO4.out.mono (fun _ _ f => f.elim))⟩
      case round =>
        obtain ⟨k2, v, m, nn, L, hk2, rfl, hL, HJ, HW⟩ := hrel
        have HLN := Lib.hid hL
        clear hL
        rename World => wx
        have c0 := HW.out.cell' HC0.out.1 HQS.out
        have c1 := HW.out.cell' HC0.out.2 HQS.out
        by_cases h8 : k2 < M
        · have hin : (k2 : Int) < (M : Int) := by omega
          by_cases h128 : k2 < 128
          · have hk31 : (k2 : Int) < 128 := by omega
            have HPO := Lib.hid (post_yes p op v m nn (addN op k2) L 1 (some ⟨g, 0, none⟩) 3 cp leg2 wx (by have h := HJ.out; rwa [Nat.min_eq_left (by omega : k2 ≤ 128)] at h) (HRD.out.only HW.out (fun y e f => by cases e; exact HGS.out f)) rfl (by have := HLN.out; omega) (fun j hj => not_over hop32 h128 j hj) (fun y e f => by cases e; exact HGS.out f))
            have e : (L.length : Int) = (k2 : Int) := by have := HLN.out; omega
            rw [e] at HPO
            clear e
            go_wp2_with fail
            refine HPO.out.mono ?_
            rintro _ w6 ⟨rfl, v', m', nn', g', cp', hat, ho⟩
            have HJ2 : Hid (JnAt S w6 p v' op m' nn' (addN op (min (k2 + 1) 128)) (L ++ [⟨1, g', 3, cp', op, leg2⟩])) := Lib.hid (by
              rw [Nat.min_eq_left (by omega : k2 + 1 ≤ 128)]
              exact hat.mono (fun x _ e => e.elim (fun e => e) (fun e => HSX.out x (Nat.le_trans HW.out.size e))))
            have HO2 := Lib.hid (HW.out.trans ho)
            have HL2 : Hid ((L ++ [(⟨1, g', 3, cp', op, leg2⟩ : Ps)]).length = min (k2 + 1) 128) := Lib.hid (by have := HLN.out; simp; omega)
            clear hat ho HPO c0 c1
            have hkb : ((k2 : Int) != (k2 : Int)) = false := by simp
            go_wp2_with fail
            go_roundw
            case rel => exact ⟨k2 + 1, v', m', nn', _, by omega, by go_num, HL2.out, HJ2, HO2⟩
            case measure => (simp [intOf]; omega)
          · have hk31 : ¬ (k2 : Int) < 128 := by omega
            have HPO0 : Hid (∃ a9 c9, v = .slice a9 L.length c9) := Lib.hid (by obtain ⟨a9, c9, h9, -⟩ := HJ.out.own.reads; exact ⟨a9, c9, h9⟩)
            obtain ⟨a9, c9, rfl⟩ := HPO0.out
            have h128e : min k2 128 = 128 := by omega
            have HPO := Lib.hid (post_over p op a9 L.length c9 m nn (addN op 128) 1 (some ⟨g, 0, none⟩) 3 cp leg2 wx HJ.out.jc (by have h := HJ.out.mp; rwa [h128e] at h) (HRD.out.only HW.out (fun y e f => by cases e; exact HGS.out f)) rfl (by have := HLN.out; omega) ⟨0, by omega, is_over hop32⟩)
            clear HPO0 h128e
            go_wp2_with fail
            refine HPO.out.mono ?_
            rintro _ w6 ⟨rfl, ho⟩
            have HJ2 : Hid (JnAt S w6 p (.slice a9 L.length c9) op m nn (addN op (min (k2 + 1) 128)) L) := Lib.hid (by have h := HJ.out.quiet ho; rw [show min k2 128 = min (k2 + 1) 128 by omega] at h; exact h)
            have HO2 := Lib.hid (HW.out.trans (ho.mono (fun _ _ f => f.elim)))
            have HL2 : Hid (L.length = min (k2 + 1) 128) := Lib.hid (by have := HLN.out; omega)
            clear ho HPO c0 c1
            go_wp2_with fail
            go_roundw
            case rel => exact ⟨k2 + 1, _, _, _, _, by omega, by go_num, HL2.out, HJ2, HO2⟩
            case measure => (simp [intOf]; omega)
        · have hge2 : ¬ (k2 : Int) < (M : Int) := by omega
          obtain rfl : k2 = M := by omega
          obtain ⟨r, hr⟩ : ∃ r, r = min k2 128 := ⟨_, rfl⟩
          have hmin2 : min (k2 : Int) 128 = (r : Int) := by omega
          have hr1 : r ≤ 128 := by omega
          rw [← hr] at HJ HLN
          have HSM : Hid (wrap64 (((addN op r ⟨1, 0, 0⟩).getD noughts).sum) = (r : Int) * 9007199254740992) := Lib.hid (by rw [(addN_at hop32 r (by omega)).1, rowX_sum hop32]; unfold wrap64; omega)
          have HBA := Lib.hid (bal_any p op v m nn (addN op r) 1 0 0 (by unfold InA I64; dsimp only; omega) wx HJ.out.jc HJ.out.mp)
          rw [HSM.out] at HBA
          clear hr c0 c1
          go_wp2_with fail
          refine HBA.out.mono ?_
          rintro _ w6 ⟨rfl, ho⟩
          have HO6 : Hid (Only (fun _ => False) w w6) := Lib.hid (((HO1.out.then HO3.out (fun x hx e => by have := HP.out; have e : x = p := e; omega)).then HW.out (fun x hx e => HSP.out x hx e)).trans ho)
          obtain ⟨a9, c9, h9, -⟩ := HJ.out.own.reads
          subst h9
          have HLE := Lib.hid (len_any p op a9 L.length c9 m w6 (HJ.out.quiet ho).jc)
          have hll : (L.length : Int) = (r : Int) := by have := HLN.out; omega
          rw [hll] at HLE
          clear hll ho HBA
          go_wp2_with fail
          refine HLE.out.mono ?_
          rintro _ w7 ⟨rfl, rfl⟩
          go_wp2_with fail
          go_ret
          exact ⟨rfl, HO6.out⟩
theorem full_below (a0 a1 : Int) (w : World) : Calls Try.prog 6 #[.int .i64 a0, .int .i64 a1] w fun e w' => e = .returned (.bool true) ∧ Below w.heap.size w w' := (full_walk a0 a1 w).mono (fun e w' h => ⟨h.1, h.2.none⟩)
end Go.Proofs.Ytdjiljkdnpmilaa.jnw

namespace Go.Proofs.Ytdjiljkdnpmilaa.jnw
open Go.RowKit mem accm accn entw entm acck
set_option linter.unusedVariables false

/-- what an account was moved in a period -/
def movV (C : Ac → Option (List Int)) (op : Nat) (a : Ac) (per : Int) : Int := if per < 0 ∨ (op : Int) < per then 0 else ((C a).getD noughts).getD per.toNat 0
set_option maxRecDepth 100000 in
set_option maxHeartbeats 2000000 in
theorem moved_any (p op : Nat) (v : Value) (m : Option Nat) (nn : Nat) (C : Ac → Option (List Int)) (k n g : Int) (ha : InA ⟨k, n, g⟩) (per : Int) (w : World) (h : JnC w p v op m) (hm : MapN w m nn C) :
    Calls Try.prog 21 #[.pointer (some ⟨p, 0, none⟩), .agg #[.int .i64 k, .int .i64 n, .int .i64 g], .int .i64 per] w fun e w' => e = .returned (.int .i64 (movV C op ⟨k, n, g⟩ per)) ∧ Only (fun _ => False) w w' := by
  have HRW := Lib.hid (hm.row ⟨k, n, g⟩)
  obtain ⟨w1, hw1⟩ : ∃ x, x = w.alloc (.cells #[.int .i64 k, .int .i64 n, .int .i64 g] 38) := ⟨_, rfl⟩
  obtain ⟨q, hq⟩ : ∃ x, x = w.heap.size := ⟨_, rfl⟩
  have ho1 : Only (fun _ => False) w w1 := by rw [hw1]; exact (Only.refl _ w).alloc _
  have c1 : w1.cell? ⟨p, 1, none⟩ = some (.int .i64 (op : Int)) := ho1.cell' h.c1 (fun f => f)
  have HF : Hid (∀ w', Only (fun _ => False) w1 w' → w'.cell? ⟨p, 2, none⟩ = some (.map m) ∧ w'.cell? ⟨q, 0, none⟩ = some (.int .i64 k) ∧ w'.cell? ⟨q, 1, none⟩ = some (.int .i64 n) ∧ w'.cell? ⟨q, 2, none⟩ = some (.int .i64 g)) := Lib.hid (fun w' ho =>
    ⟨(ho1.trans ho).cell' h.c2 (fun f => f), ho.cell' (by rw [hw1]; exact alloc_new _ _ _ _ _ _ hq rfl) (fun f => f), ho.cell' (by rw [hw1]; exact alloc_new _ _ _ _ _ _ hq rfl) (fun f => f), ho.cell' (by rw [hw1]; exact alloc_new _ _ _ _ _ _ hq rfl) (fun f => f)⟩)
  have HLK : Hid (∀ w', Only (fun _ => False) w1 w' → (Instr.lookup 81 (.map m) (.agg #[.int .i64 k, .int .i64 n, .int .i64 g]) false).run Try.prog w' = .ok (sec ((C ⟨k, n, g⟩).getD noughts)) w') := Lib.hid (fun w' ho => by
    have h := (hm.only (ho1.trans ho) (fun _ _ f => f)).look ha
    unfold acc accm.accV at h
    exact h)
  have HO1 := Lib.hid ho1
  have hop := h.le
  clear h hm ha ho1
  by_cases hlo : per < 0
  · have hr : movV C op ⟨k, n, g⟩ per = 0 := by unfold movV; rw [if_pos (.inl hlo)]
    rw [hr]
    clear hr
    go_enter Try.func21, Try.ntmps21
    go_upto_region 1 with fail
    simp only [← hw1, ← hq]
    clear hw1 hq
    go_wp2_with fail
    go_ret
    exact ⟨rfl, HO1.out⟩
  · by_cases hhi : (op : Int) < per
    · have hr : movV C op ⟨k, n, g⟩ per = 0 := by unfold movV; rw [if_pos (.inr hhi)]
      rw [hr]
      clear hr
      go_enter Try.func21, Try.ntmps21
      go_upto_region 1 with fail
      simp only [← hw1, ← hq]
      clear hw1 hq
      go_wp2_with fail
      go_ret
      exact ⟨rfl, HO1.out⟩
    · obtain ⟨j, rfl⟩ : ∃ j : Nat, per = j := ⟨per.toNat, by omega⟩
      have hj : j < 32 := by omega
      have hr : movV C op ⟨k, n, g⟩ (j : Int) = ((C ⟨k, n, g⟩).getD noughts).getD j 0 := by unfold movV; rw [if_neg (by omega)]; rfl
      rw [hr]
      have HIX : Hid (∀ w, _) := Lib.hid (fun w => run_index_row ((C ⟨k, n, g⟩).getD noughts) j HRW.out.1 hj w)
      generalize (C ⟨k, n, g⟩).getD noughts = l at *
      unfold sec at HLK HIX
      clear hr hlo
      have hlo : ¬ (j : Int) < 0 := by omega
      go_enter Try.func21, Try.ntmps21
      go_upto_region 1 with fail
      simp only [← hw1, ← hq]
      clear hw1 hq
      go_upto_region 3 with fail
      clear c1 hlo hhi
      refine wp_region_noPanic ?_
      refine late.region (fun w' => w'.cell? ⟨p, 2, none⟩ = some (.map m) ∧ w'.cell? ⟨q, 0, none⟩ = some (.int .i64 k) ∧ w'.cell? ⟨q, 1, none⟩ = some (.int .i64 n) ∧ w'.cell? ⟨q, 2, none⟩ = some (.int .i64 g)) (fun j => [].contains j) (by kernel_rfl) (HF.out _ (Only.refl _ _).drew) (fun hHeld => ?_)
      obtain ⟨z0, hz0⟩ : ∃ x, x = w1.drew := ⟨_, rfl⟩
      rw [← hz0] at hHeld ⊢
      have hot : Hid (Only (fun _ => False) w1 z0) := Lib.hid (by rw [hz0]; exact (Only.refl _ _).drew)
      clear hz0
      refine late.take (i := 0) [1, 2, 3, 5, 7, 8] (v := ?_) rfl (by kernel_rfl) (by kernel_rfl) (by kernel_rfl) (by kernel_rfl) (fun _ _ _ h => h) (Or.inl ⟨by rfl, ?_⟩) (by assumption) ?_
      rotate_left 1
      · intro w' hSw
        try dsimp only at hSw
        go_simp
        try with_reducible rfl
      try simp only [List.getElem_toArray, List.getElem_cons_zero, Act.put, List.setIfInBounds_toArray, List.set_cons_zero, List.set_cons_succ]
      refine late.take (i := 1) [2, 3, 5, 7, 8] (v := ?_) rfl (by kernel_rfl) (by kernel_rfl) (by kernel_rfl) (by kernel_rfl) (fun _ _ _ h => h) (Or.inl ⟨by rfl, ?_⟩) (by assumption) ?_
      rotate_left 1
      · intro w' hSw
        try dsimp only at hSw
        go_simp
        try with_reducible rfl
      try simp only [List.getElem_toArray, List.getElem_cons_zero, List.getElem_cons_succ, Act.put, List.setIfInBounds_toArray, List.set_cons_zero, List.set_cons_succ]
      refine late.take (i := 2) [3, 5, 7, 8] (v := ?_) rfl (by kernel_rfl) (by kernel_rfl) (by kernel_rfl) (by kernel_rfl) (fun _ _ _ h => h) (Or.inl ⟨by rfl, ?_⟩) (by assumption) ?_
      rotate_left 1
      · intro w' hSw
        try dsimp only at hSw
        go_simp
        try with_reducible rfl
      try simp only [List.getElem_toArray, List.getElem_cons_zero, List.getElem_cons_succ, Act.put, List.setIfInBounds_toArray, List.set_cons_zero, List.set_cons_succ]
      refine late.take (i := 3) [5, 7, 8] (v := ?_) rfl (by kernel_rfl) (by kernel_rfl) (by kernel_rfl) (by kernel_rfl) (fun _ _ _ h => h) (Or.inl ⟨by rfl, ?_⟩) (by assumption) ?_
      rotate_left 1
      · intro w' hSw
        try dsimp only at hSw
        go_simp
        try with_reducible rfl
      try simp only [List.getElem_toArray, List.getElem_cons_zero, List.getElem_cons_succ, Act.put, List.setIfInBounds_toArray, List.set_cons_zero, List.set_cons_succ]
      refine late.take (i := 4) [5, 7, 8] (v := ?_) rfl (by kernel_rfl) (by kernel_rfl) (by kernel_rfl) (by kernel_rfl) (fun _ _ _ h => h) (Or.inl ⟨by rfl, ?_⟩) (by assumption) ?_
      rotate_left 1
      · intro w' hSw
        try dsimp only at hSw
        go_simp
        try with_reducible rfl
      try simp only [List.getElem_toArray, List.getElem_cons_zero, List.getElem_cons_succ, Act.put, List.setIfInBounds_toArray, List.set_cons_zero, List.set_cons_succ]
      refine late.take (i := 6) [7, 8] (v := ?_) rfl (by kernel_rfl) (by kernel_rfl) (by kernel_rfl) (by kernel_rfl) (fun _ _ _ h => h) (Or.inl ⟨by rfl, ?_⟩) (by assumption) ?_
      rotate_left 1
      · intro w' hSw
        try dsimp only at hSw
        go_simp
        try with_reducible rfl
      try simp only [List.getElem_toArray, List.getElem_cons_zero, List.getElem_cons_succ, Act.put, List.setIfInBounds_toArray, List.set_cons_zero, List.set_cons_succ]
      refine late.ready (rs := [5]) (by kernel_rfl) (by simp) ?_
      refine late.Each.cons rfl (fun K hK => ?_) late.Each.nil
      have hlk := HLK.out z0 hot.out
      try simp only [List.getElem_toArray, List.getElem_cons_zero, List.getElem_cons_succ]
      go_simp
      refine hK.out _ _ (fun _ => HF.out _ hot.out) (fun hHeld1 => ?_)
      replace hHeld1 := hHeld1 rfl
      clear hK K
      clear hlk
      have hix := HIX.out
      try simp only [List.getElem_toArray, List.getElem_cons_zero, List.getElem_cons_succ, Act.put, List.setIfInBounds_toArray, List.set_cons_zero, List.set_cons_succ]
      refine late.take (i := 7) [8] (v := ?_) rfl (by kernel_rfl) (by kernel_rfl) (by kernel_rfl) (by kernel_rfl) (fun _ _ _ h => h) (Or.inl ⟨by rfl, ?_⟩) (by assumption) ?_
      rotate_left 1
      · intro w' hSw
        try dsimp only at hSw
        go_simp
        try with_reducible rfl
      try simp only [List.getElem_toArray, List.getElem_cons_zero, List.getElem_cons_succ, Act.put, List.setIfInBounds_toArray, List.set_cons_zero, List.set_cons_succ]
      refine late.take (i := 8) [] (v := ?_) rfl (by kernel_rfl) (by kernel_rfl) (by kernel_rfl) (by kernel_rfl) (fun _ _ _ h => h) (Or.inl ⟨by rfl, ?_⟩) (by assumption) ?_
      rotate_left 1
      · intro w' hSw
        try dsimp only at hSw
        go_simp
        try with_reducible rfl
      try simp only [List.getElem_toArray, List.getElem_cons_zero, List.getElem_cons_succ, Act.put, List.setIfInBounds_toArray, List.set_cons_zero, List.set_cons_succ]
      refine late.done (by kernel_rfl) ?_ _
      refine NoPanic.normal ?_
      have HO2 := Lib.hid (HO1.out.trans hot.out)
      go_wp2_with fail
      go_ret
      exact ⟨rfl, HO2.out⟩

open Classical in
/-- why an entry isn't posted; nought: it is -/
noncomputable def pErr (C : Ac → Option (List Int)) (kind : Int) (ls : List Lg) : Int := if chk kind ls ≠ 0 then chk kind ls else if ∃ j, j < ls.length ∧ overL C (ls.getD j default) then 6 else 0
def PostAt (S : Nat → Prop) (p op : Nat) (v : Value) (m : Option Nat) (nn : Nat) (C : Ac → Option (List Int)) (L : List Ps) (kind : Int) (n : Nat) (ls : List Lg) (w : World) (e : Ending) (w' : World) : Prop :=
  (pErr C kind ls ≠ 0 ∧ e = .returned (.tuple #[.int .i64 0, .int .i64 (pErr C kind ls)]) ∧ Only (fun _ => False) w w') ∨
  (pErr C kind ls = 0 ∧ chk kind ls = 0 ∧ e = .returned (.tuple #[.int .i64 (L.length : Int), .int .i64 0]) ∧ (∃ v' m' nn' g cp, JnAt (fun q => S q ∨ w.heap.size ≤ q) w' p v' op m' nn' (addC C op ls) (L ++ [⟨kind, g, n, cp, op, ls⟩])) ∧ Only S w w')
theorem post_any {S : Nat → Prop} (p op : Nat) (v : Value) (m : Option Nat) (nn : Nat) (C : Ac → Option (List Int)) (L : List Ps) (kind : Int) (a : Option Addr) (n cap : Nat) (ls : List Lg) (w : World) (h : JnAt S w p v op m nn C L) (hr : ReadsL w a n ls) (hn0 : L.length < 16384) (ha : ∀ x, a = some x → ¬ S x.block) :
    Calls Try.prog 13 #[.pointer (some ⟨p, 0, none⟩), .agg #[.int .i64 kind, .slice a n cap]] w (PostAt S p op v m nn C L kind n ls w) := by
  by_cases hc : chk kind ls = 0
  · by_cases ho : ∃ j, j < ls.length ∧ overL C (ls.getD j default)
    · have he : pErr C kind ls = 6 := by unfold pErr; rw [if_neg (by simpa using hc), if_pos ho]
      obtain ⟨a0, c0, rfl, -⟩ := h.own.reads
      refine (post_over p op a0 L.length c0 m nn C kind a n cap ls w h.jc h.mp hr hc hn0 (by rw [← hr.1]; exact ho)).mono ?_
      rintro e w' ⟨rfl, ho⟩
      exact .inl ⟨by rw [he]; decide, by rw [he], ho⟩
    · have he : pErr C kind ls = 0 := by unfold pErr; rw [if_neg (by simpa using hc), if_neg ho]
      refine (post_yes p op v m nn C L kind a n cap ls w h hr hc hn0 (fun j hj hov => ho ⟨j, by rw [hr.1]; exact hj, hov⟩) ha).mono ?_
      rintro e w' ⟨rfl, v', m', nn', g, cp, h1, h2⟩
      exact .inr ⟨he, hc, rfl, ⟨v', m', nn', g, cp, h1⟩, h2⟩
  · have he : pErr C kind ls = chk kind ls := by unfold pErr; rw [if_pos hc]
    refine (post_no p kind a n cap ls w hr hc).mono ?_
    rintro e w' ⟨rfl, ho⟩
    exact .inl ⟨by rw [he]; exact hc, by rw [he], ho⟩

theorem sum_set : ∀ (l : List Int) (k : Nat) (y : Int), k < l.length → (l.set k y).sum = l.sum - l.getD k 0 + y := by
  intro l
  induction l with
  | nil => intro k y h; simp at h
  | cons x r ih =>
    intro k y h
    cases k with
    | zero => simp [List.getD]; omega
    | succ k =>
      have := ih k y (by simpa using h)
      rw [List.set_cons_succ, List.sum_cons, this, List.sum_cons]
      simp [List.getD]
      omega
def rsum (C : Ac → Option (List Int)) (a : Ac) : Int := ((C a).getD noughts).sum
def tot (C : Ac → Option (List Int)) (K : List Ac) : Int := (K.map (rsum C)).sum
/-- K is all accounts on which something stands; together they come to s -/
def InvK (C : Ac → Option (List Int)) (K : List Ac) (s : Int) : Prop := K.Nodup ∧ (∀ i, i ∈ K ↔ (C i).isSome = true) ∧ (tot C K - s) % 18446744073709551616 = 0
theorem rowAdd_sum {r : List Int} (hr : r.length = 32) {op : Nat} (h : op < 32) (x : Int) : ((rowAdd r op x).sum - (r.sum + x)) % 18446744073709551616 = 0 := by
  unfold rowAdd
  rw [sum_set r op _ (by omega)]
  unfold wrap64
  omega
theorem tot_ne {C : Ac → Option (List Int)} {a : Ac} {l : List Int} : ∀ {K : List Ac}, a ∉ K → tot (updA C a l) K = tot C K := by
  intro K
  induction K with
  | nil => intro _; rfl
  | cons x r ih =>
    intro h
    rw [List.mem_cons, not_or] at h
    unfold tot at ih ⊢
    rw [List.map_cons, List.map_cons, List.sum_cons, List.sum_cons, ih h.2]
    have : rsum (updA C a l) x = rsum C x := by unfold rsum updA; rw [if_neg (fun e => h.1 e.symm)]
    rw [this]
theorem tot_in {C : Ac → Option (List Int)} {a : Ac} {l : List Int} : ∀ {K : List Ac}, K.Nodup → a ∈ K → tot (updA C a l) K = tot C K - rsum C a + l.sum := by
  intro K
  induction K with
  | nil => intro _ h; cases h
  | cons x r ih =>
    intro hn h
    rw [List.nodup_cons] at hn
    by_cases e : a = x
    · subst e
      have h1 := tot_ne (C := C) (a := a) (l := l) hn.1
      unfold tot at h1 ⊢
      rw [List.map_cons, List.map_cons, List.sum_cons, List.sum_cons, h1]
      have : rsum (updA C a l) a = l.sum := by unfold rsum updA; rw [if_pos rfl]; rfl
      rw [this]
      omega
    · have h1 := ih hn.2 ((List.mem_cons.1 h).resolve_left e)
      unfold tot at h1 ⊢
      rw [List.map_cons, List.map_cons, List.sum_cons, List.sum_cons, h1]
      have : rsum (updA C a l) x = rsum C x := by unfold rsum updA; rw [if_neg (fun e2 => e e2.symm)]
      rw [this]
      omega
theorem InvK.upd {C : Ac → Option (List Int)} {K : List Ac} {s : Int} (h : InvK C K s) (hrow : ∀ a, ((C a).getD noughts).length = 32) {op : Nat} (hop : op < 32) (a : Ac) (x : Int) : ∃ K', InvK (updA C a (rowAdd ((C a).getD noughts) op x)) K' (s + x) := by
  obtain ⟨h1, h2, h3⟩ := h
  have hs := rowAdd_sum (hrow a) hop x
  have hmem : ∀ i, ((updA C a (rowAdd ((C a).getD noughts) op x)) i).isSome = true ↔ i = a ∨ (C i).isSome = true := by
    intro i
    unfold updA
    by_cases e : i = a
    · rw [if_pos e]; simp [e]
    · rw [if_neg e]; simp [e]
  by_cases ha : a ∈ K
  · refine ⟨K, h1, fun i => ?_, ?_⟩
    · rw [hmem, h2]
      constructor
      · exact .inr
      · rintro (e | e)
        · rw [e]; exact (h2 a).1 ha
        · exact e
    · rw [tot_in h1 ha]
      have : rsum C a = ((C a).getD noughts).sum := rfl
      omega
  · refine ⟨a :: K, List.nodup_cons.2 ⟨ha, h1⟩, fun i => ?_, ?_⟩
    · rw [hmem, List.mem_cons, h2]
    · have hn : C a = none := by
        cases hc : C a with
        | none => rfl
        | some l => exact absurd ((h2 a).2 (by rw [hc]; rfl)) ha
      have e1 : tot (updA C a (rowAdd ((C a).getD noughts) op x)) (a :: K) = (rowAdd ((C a).getD noughts) op x).sum + tot C K := by
        have h4 := tot_ne (C := C) (a := a) (l := rowAdd ((C a).getD noughts) op x) ha
        unfold tot at h4 ⊢
        rw [List.map_cons, List.sum_cons, h4]
        have : rsum (updA C a (rowAdd ((C a).getD noughts) op x)) a = (rowAdd ((C a).getD noughts) op x).sum := by unfold rsum; unfold updA; rw [if_pos rfl]; rfl
        rw [this]
      have e2 : ((C a).getD noughts).sum = 0 := by rw [hn]; exact noughts_sum
      rw [e1]
      omega
theorem updA_len {C : Ac → Option (List Int)} (h : ∀ a, ((C a).getD noughts).length = 32) (b : Ac) (op : Nat) (x : Int) : ∀ a, (((updA C b (rowAdd ((C b).getD noughts) op x)) a).getD noughts).length = 32 := by
  intro a
  unfold updA
  by_cases e : a = b
  · rw [if_pos e]; simp [rowAdd, h b]
  · rw [if_neg e]; exact h a
def amts (ls : List Lg) : Int := (ls.map (·.a)).sum
theorem InvK.add {op : Nat} (hop : op < 32) : ∀ (ls : List Lg) {C : Ac → Option (List Int)} {K : List Ac} {s : Int}, InvK C K s → (∀ a, ((C a).getD noughts).length = 32) → ∃ K', InvK (addC C op ls) K' (s + amts ls) := by
  intro ls
  induction ls with
  | nil => intro C K s h _; exact ⟨K, by simpa [amts, addC] using h⟩
  | cons l r ih =>
    intro C K s h hr
    obtain ⟨K1, h1⟩ := h.upd hr hop (lgA l) l.a
    obtain ⟨K2, h2⟩ := ih h1 (updA_len hr (lgA l) op l.a)
    exact ⟨K2, by
      have e : s + amts (l :: r) = s + l.a + amts r := by simp [amts]; omega
      rw [e]; exact h2⟩
theorem InvK.nil : InvK (fun _ => none) [] 0 := ⟨List.nodup_nil, fun i => by simp, by simp [tot]⟩
/-- nothing stands behind the open period -/
def InvR (C : Ac → Option (List Int)) (op : Nat) : Prop := ∀ a p, op < p → ((C a).getD noughts).getD p 0 = 0
theorem rep_get (n p : Nat) : (List.replicate n (0 : Int)).getD p 0 = 0 := by
  simp only [List.getD, List.getElem?_replicate]
  split <;> rfl
theorem InvR.nil (op : Nat) : InvR (fun _ => none) op := fun a p _ => rep_get 32 p
theorem InvR.add {op : Nat} : ∀ (ls : List Lg) {C : Ac → Option (List Int)}, InvR C op → InvR (addC C op ls) op := by
  intro ls
  induction ls with
  | nil => intro C h; exact h
  | cons l r ih =>
    intro C h
    refine ih (fun a p hp => ?_)
    unfold updA
    by_cases e : a = lgA l
    · rw [if_pos e]
      show (rowAdd ((C (lgA l)).getD noughts) op l.a).getD p 0 = 0
      unfold rowAdd
      have := h (lgA l) p hp
      simp only [List.getD] at this ⊢
      rw [List.getElem?_set_ne (by omega)]
      exact this
    · rw [if_neg e]; exact h a p hp
theorem InvR.close {C : Ac → Option (List Int)} {op : Nat} (h : InvR C op) : InvR C (op + 1) := fun a p hp => h a p (by omega)
theorem take_all {r : List Int} {k : Nat} (h : ∀ p, k ≤ p → r.getD p 0 = 0) : (r.take k).sum = r.sum := by
  induction r generalizing k with
  | nil => simp
  | cons x t ih =>
    cases k with
    | zero =>
      have h0 : x = 0 := h 0 (Nat.le_refl _)
      have h1 := ih (k := 0) (fun p _ => by have := h (p + 1) (by omega); simpa [List.getD] using this)
      rw [List.sum_cons, ← h1, h0]; simp
    | succ k =>
      rw [List.take_succ_cons, List.sum_cons, List.sum_cons, ih (fun p hp => by have := h (p + 1) (by omega); simpa [List.getD] using this)]
theorem perm_sum {a b : List Int} (h : a.Perm b) : a.sum = b.sum := by
  induction h with
  | nil => rfl
  | cons x _ ih => rw [List.sum_cons, List.sum_cons, ih]
  | swap x y l => simp only [List.sum_cons]; omega
  | trans _ _ ih1 ih2 => rw [ih1, ih2]
theorem keys_tot {C : Ac → Option (List Int)} {K ss : List Ac} {s : Int} (h : InvK C K s) (hs : KeysOf C ss) : (tot C ss - s) % 18446744073709551616 = 0 := by
  have hp : ss.Perm K := (List.perm_ext_iff_of_nodup hs.1 h.1).2 (fun i => (hs.2.1 i).trans (h.2.1 i).symm)
  have : tot C ss = tot C K := by unfold tot; exact perm_sum (hp.map _)
  rw [this]
  exact h.2.2
/-- the debits are the credits -/
theorem trS_diff {x y : Int × Int} {l : Lg} (h : trS x l = some y) : y.1 - y.2 = x.1 - x.2 + l.a := by
  unfold trS at h
  split at h
  · split at h
    · injection h with h; subst h; show x.1 + l.a - x.2 = _; omega
    · cases h
  · split at h
    · injection h with h; subst h; show x.1 - (x.2 - l.a) = _; omega
    · cases h
theorem trL_diff : ∀ (ls : List Lg) {x y : Int × Int}, trL ls x = some y → y.1 - y.2 = x.1 - x.2 + amts ls := by
  intro ls
  induction ls with
  | nil => intro x y h; injection h with h; subst h; simp [amts]
  | cons l r ih =>
    intro x y h
    have h : (trS x l).bind (trL r) = some y := h
    cases hs : trS x l with
    | none => rw [hs] at h; cases h
    | some z =>
      rw [hs] at h
      have h1 := trS_diff hs
      have h2 := ih h
      have e : amts (l :: r) = l.a + amts r := by simp [amts]
      rw [e]; omega
theorem trP_diff (per : Int) : ∀ (L : List Ps), (∀ x ∈ L, amts x.ls = 0) → ∀ {x y : Int × Int}, trP per L x = some y → y.1 - y.2 = x.1 - x.2 := by
  intro L
  induction L with
  | nil => intro _ x y h; injection h with h; subst h; rfl
  | cons p r ih =>
    intro hz x y h
    have h : (if per ≠ -1 ∧ (p.per : Int) ≠ per then trP per r x else (trL p.ls x).bind (trP per r)) = some y := h
    split at h
    · exact ih (fun x hx => hz x (List.mem_cons_of_mem _ hx)) h
    · cases hs : trL p.ls x with
      | none => rw [hs] at h; cases h
      | some z =>
        rw [hs] at h
        have h1 := trL_diff _ hs
        have h2 := ih (fun x hx => hz x (List.mem_cons_of_mem _ hx)) h
        have h3 := hz p (by simp)
        omega
end Go.Proofs.Ytdjiljkdnpmilaa.jnw

