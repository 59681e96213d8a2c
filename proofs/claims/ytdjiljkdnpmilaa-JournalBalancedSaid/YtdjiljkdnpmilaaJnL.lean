/- The law's fixed journal; JournalFull's walk. -/
import Derived.Test.YtdjiljkdnpmilaaJnI
import Derived.Test.YtdjiljkdnpmilaaJnK
namespace Go.Proofs.Ytdjiljkdnpmilaa.jnw
open Go.RowKit mem accm accn entw entm bigw intm
set_option linter.unusedVariables false

def leg1 : List Lg := [⟨1, 0, 0, 5⟩, ⟨2, 1, 0, -5⟩]
theorem leg1_of {ls : List Lg} (hp : ls.Perm (rawL 1 5 0 [1])) (hs : Sorted ls) : ls = leg1 := by
  have e : (rawL 1 5 0 [1]) = leg1 := rfl
  rw [e] at hp
  refine sorted_one hp hs ?_ ?_
  · unfold Sorted leg1
    simp [ltA]
  · intro x hx y hy
    simp [leg1] at hx hy
    rcases hx with rfl | rfl <;> rcases hy with rfl | rfl <;> simp
theorem one_readsI (w : World) : ReadsI (w.alloc (.cells #[.int .i64 1] 3)) (some ⟨w.heap.size, 0, none⟩) 1 [1] := by
  refine ⟨rfl, by unfold maxLen; omega, by simp, .inr ⟨_, 0, rfl, ?_⟩⟩
  intro i hi
  match i, hi with
  | 0, _ => exact alloc_new _ _ _ _ _ _ rfl rfl
def leg2 : List Lg := [⟨1, 0, 0, 9007199254740992⟩, ⟨2, 1, 0, -4503599627370496⟩, ⟨2, 2, 0, -4503599627370496⟩]
theorem leg2_of {ls : List Lg} (hp : ls.Perm (rawL 1 4503599627370496 0 [1, 2])) (hs : Sorted ls) : ls = leg2 := by
  have e : (rawL 1 4503599627370496 0 [1, 2]) = leg2 := rfl
  rw [e] at hp
  refine sorted_one hp hs ?_ ?_
  · unfold Sorted leg2
    simp [ltA]
  · intro x hx y hy
    simp [leg2] at hx hy
    rcases hx with rfl | rfl | rfl <;> rcases hy with rfl | rfl | rfl <;> simp
theorem two_reads1 (w : World) : ReadsI (w.alloc (.cells #[.int .i64 1, .int .i64 2] 3)) (some ⟨w.heap.size, 0, none⟩) 2 [1, 2] := by
  refine ⟨rfl, by unfold maxLen; omega, by simp, .inr ⟨_, 0, rfl, ?_⟩⟩
  intro i hi
  match i, hi with
  | 0, _ => exact alloc_new _ _ _ _ _ _ rfl rfl
  | 1, _ => exact alloc_new _ _ _ _ _ _ rfl rfl

theorem rep_set (x : Int) : ∀ (n k : Nat), k < n → ((List.replicate n (0 : Int)).set k x).sum = x := by
  intro n
  induction n with
  | zero => intro k h; omega
  | succ n ih =>
    intro k h
    cases k with
    | zero => simp [List.replicate_succ]
    | succ k => rw [List.replicate_succ, List.set_cons_succ, List.sum_cons, ih k (by omega)]; omega
theorem rep_set0 : ∀ (n k : Nat), (List.replicate n (0 : Int)).set k 0 = List.replicate n 0 := by
  intro n
  induction n with
  | zero => intro k; rfl
  | succ n ih =>
    intro k
    cases k with
    | zero => rfl
    | succ k => rw [List.replicate_succ, List.set_cons_succ, ih k]
def rowX (op : Nat) (x : Int) : List Int := noughts.set op x
theorem rowX_sum {op : Nat} (h : op < 32) (x : Int) : (rowX op x).sum = x := rep_set x 32 op h
theorem rowX_0 (op : Nat) : rowX op 0 = noughts := rep_set0 32 op
theorem rowX_add {op : Nat} (h : op < 32) (x y : Int) : rowAdd (rowX op x) op y = rowX op (wrap64 (x + y)) := by
  unfold rowAdd rowX
  have e : (noughts.set op x).getD op 0 = x := by simp [List.getD, noughts, h]
  rw [e, List.set_set]
theorem noughts_sum : noughts.sum = 0 := by rw [← rowX_0 0, rowX_sum (by omega)]
theorem over_new (l : Lg) : overL (fun _ => none) l ↔ (1152921504606846976 < wrap64 (wrap64 0 + l.a) ∨ wrap64 (wrap64 0 + l.a) < -1152921504606846976) := by
  have e : (((fun _ => none : Ac → Option (List Int)) (lgA l)).getD noughts).sum = 0 := noughts_sum
  unfold overL
  rw [e]
theorem leg1_bal : wrap64 (((addC (fun _ => none) 0 leg1 ⟨2, 1, 0⟩).getD noughts).sum) = -5 := by
  have e : (addC (fun _ => none) 0 leg1 ⟨2, 1, 0⟩).getD noughts = rowX 0 (-5) := by
    have e1 : rowAdd (rowX 0 0) 0 (-5) = rowX 0 (-5) := by rw [rowX_add (by omega)]; congr 1; unfold wrap64; omega
    rw [← e1, rowX_0]
    simp [addC, leg1, updA, lgA]
  rw [e, rowX_sum (by omega)]
  unfold wrap64; omega
set_option maxRecDepth 100000 in
set_option maxHeartbeats 2000000 in
theorem journals_any (w : World) : Calls Try.prog 17 #[] w fun e w' => e = .returned (.bool true) ∧ Only (fun _ => False) w w' := by
  have HM := Lib.hid (fun w' => make_yes 1 5 0 rfl ⟨by omega, by omega⟩ ⟨by omega, by omega⟩ (some ⟨w'.heap.size, 0, none⟩) 1 1 [1] (path_yes ⟨by simp, by simp, by simp⟩) _ (one_readsI w') (by omega) (by omega))
  obtain ⟨p, hp⟩ : ∃ x, x = w.heap.size := ⟨_, rfl⟩
  have HP := Lib.hid hp
  go_enter Try.func17, Try.ntmps17
  go_wp2_with fail
  refine (new_any w).mono ?_
  rintro _ w1 ⟨rfl, hj, ho⟩
  rw [← hp] at hj ⊢
  have HJ1 := Lib.hid hj
  have HO1 := Lib.hid ho
  have hpl : p < w1.heap.size := World.block_lt_of_cell? w1 _ hj.c0
  have HPL := Lib.hid hpl
  clear hj ho hp hpl
  go_wp2_with fail
  refine (HM.out w1).mono ?_
  rintro e w2 ⟨g, cp, ls, hperm, hsort, hgw, ho, hrd, h⟩
  obtain rfl := leg1_of hperm hsort
  have h2 : e = .returned (.tuple #[.agg #[.int .i64 1, .slice (some ⟨g, 0, none⟩) 2 cp], .int .i64 0]) := by
    rcases h with ⟨_, h⟩ | ⟨h, _⟩
    · exact h
    · exact absurd rfl h
  subst h2
  have ho12 : Only (fun _ => False) w1 w2 := ((Only.refl _ w1).alloc _).trans ho
  have hgp : ¬ g = p := by have := HPL.out; have := (Only.refl (fun _ => False) w1).alloc (.cells #[.int .i64 1] 3) |>.size; omega
  have hgl : g < w2.heap.size := readsL_lt hrd (by show 0 < 2; omega)
  obtain ⟨w3, hw3⟩ : ∃ x, x = w2.alloc (.cells #[.int .i64 1, .slice (some ⟨g, 0, none⟩) 2 cp] 25) := ⟨_, rfl⟩
  obtain ⟨q, hq⟩ : ∃ x, x = w2.heap.size := ⟨_, rfl⟩
  have ho3 : Only (fun _ => False) w2 w3 := by rw [hw3]; exact (Only.refl _ _).alloc _
  have hsz3 : w3.heap.size = w2.heap.size + 1 := by rw [hw3]; exact size_alloc _ _
  have HAT : Hid (JnAt (fun x => x = p ∨ w3.heap.size ≤ x) w3 p (.slice none 0 0) 0 none 0 (fun _ => none) []) := Lib.hid (JnAt.new (HJ1.out.only (ho12.trans ho3) (fun f => f)) (.inl rfl))
  have HPO := Lib.hid (post_yes p 0 (.slice none 0 0) none 0 (fun _ => none) [] 1 (some ⟨g, 0, none⟩) 2 cp leg1 w3 HAT.out (hrd.only ho3 (fun _ _ f => f)) rfl (by decide) (fun j hj => by
    have : j = 0 ∨ j = 1 := by omega
    rcases this with rfl | rfl
    · show ¬ overL _ (⟨1, 0, 0, 5⟩ : Lg); rw [over_new]; dsimp only; unfold wrap64; omega
    · show ¬ overL _ (⟨2, 1, 0, -5⟩ : Lg); rw [over_new]; dsimp only; unfold wrap64; omega) (fun y e f => by
    cases e
    have f : g = p ∨ w3.heap.size ≤ g := f
    omega))
  have c0 : w3.cell? ⟨q, 0, none⟩ = some (.int .i64 1) := by rw [hw3]; exact alloc_new _ _ _ _ _ _ hq rfl
  have c1 : w3.cell? ⟨q, 1, none⟩ = some (.slice (some ⟨g, 0, none⟩) 2 cp) := by rw [hw3]; exact alloc_new _ _ _ _ _ _ hq rfl
  have HO3 : Hid (Only (fun _ => False) w w3) := Lib.hid (HO1.out.trans (ho12.trans ho3))
  have HS3 : Hid (∀ x, (x = p ∨ w3.heap.size ≤ x) → w.heap.size ≤ x) := Lib.hid (fun x e => by have := HO3.out.size; have := HP.out; omega)
  clear hperm hsort hgw ho hrd h ho12 hgp hgl ho3 hsz3 HM HJ1 HO1
  go_upto_region 3 with fail
  simp only [← hw3, ← hq]
  clear hw3 hq
  go_wp2_with fail
  refine HPO.out.mono ?_
  rintro _ w4 ⟨rfl, v4, m4, nn4, g4, cp4, hat, ho⟩
  have HTR := Lib.hid (trial_any p 0 v4 m4 nn4 _ _ 0 w4 hat)
  have HAT4 := Lib.hid hat
  have HO4 : Hid (Only (fun _ => False) w w4) := Lib.hid (HO3.out.then ho (fun k hk e => by have := HS3.out k e; omega))
  have e1 : triE 0 [⟨1, g4, 2, cp4, 0, leg1⟩] 0 = 0 := rfl
  have e2 : triO 0 [⟨1, g4, 2, cp4, 0, leg1⟩] 0 = (5, 5) := rfl
  rw [List.nil_append, e1, e2] at HTR
  clear hat ho c0 c1 HPO HAT e1 e2
  go_wp2_with fail
  refine HTR.out.mono ?_
  rintro _ w5 ⟨rfl, ho⟩
  have HBA := Lib.hid (bal_any p 0 v4 m4 nn4 _ 2 1 0 (by unfold InA I64; dsimp only; omega) w5 (HAT4.out.quiet ho).jc (HAT4.out.quiet ho).mp)
  have e3 : wrap64 (((addC (fun _ => none) 0 leg1 ⟨2, 1, 0⟩).getD noughts).sum) = -5 := leg1_bal
  rw [e3] at HBA
  have HO5 := Lib.hid (HO4.out.trans ho)
  clear ho HTR HAT4 e3
  go_wp2_with fail
  refine HBA.out.mono ?_
  rintro _ w6 ⟨rfl, ho⟩
  have HO6 := Lib.hid (HO5.out.trans ho)
  clear ho HBA
  go_wp2_with fail
  go_ret
  exact ⟨rfl, HO6.out⟩

/-- the same entry, so many times -/
def addN (op : Nat) : Nat → Ac → Option (List Int)
  | 0 => fun _ => none
  | r + 1 => addC (addN op r) op leg2
theorem addN_at {op : Nat} (h : op < 32) : ∀ r : Nat, r ≤ 200 → ((addN op r) ⟨1, 0, 0⟩).getD noughts = rowX op (r * 9007199254740992) ∧ ((addN op r) ⟨2, 1, 0⟩).getD noughts = rowX op (r * -4503599627370496) ∧ ((addN op r) ⟨2, 2, 0⟩).getD noughts = rowX op (r * -4503599627370496) := by
  intro r
  induction r with
  | zero =>
    intro _
    have e : ((0 : Nat) : Int) * 9007199254740992 = 0 ∧ ((0 : Nat) : Int) * -4503599627370496 = 0 := by omega
    rw [e.1, e.2, rowX_0]
    exact ⟨rfl, rfl, rfl⟩
  | succ r ih =>
    intro hr
    obtain ⟨h1, h2, h3⟩ := ih (by omega)
    have e1 : wrap64 ((r : Int) * 9007199254740992 + 9007199254740992) = ((r + 1 : Nat) : Int) * 9007199254740992 := by unfold wrap64; omega
    have e2 : wrap64 ((r : Int) * -4503599627370496 + -4503599627370496) = ((r + 1 : Nat) : Int) * -4503599627370496 := by unfold wrap64; omega
    refine ⟨?_, ?_, ?_⟩
    · rw [← e1, ← rowX_add h, ← h1]
      simp [addN, addC, leg2, updA, lgA]
    · rw [← e2, ← rowX_add h, ← h2]
      simp [addN, addC, leg2, updA, lgA]
    · rw [← e2, ← rowX_add h, ← h3]
      simp [addN, addC, leg2, updA, lgA]
theorem not_over {op : Nat} (h : op < 32) {r : Nat} (hr : r < 128) (j : Nat) (hj : j < 3) : ¬ overL (addN op r) (leg2.getD j default) := by
  obtain ⟨h1, h2, h3⟩ := addN_at h r (by omega)
  have : j = 0 ∨ j = 1 ∨ j = 2 := by omega
  rcases this with rfl | rfl | rfl
  · show ¬ overL _ (⟨1, 0, 0, 9007199254740992⟩ : Lg)
    unfold overL lgA
    rw [h1, rowX_sum h]
    dsimp only
    unfold wrap64
    omega
  · show ¬ overL _ (⟨2, 1, 0, -4503599627370496⟩ : Lg)
    unfold overL lgA
    rw [h2, rowX_sum h]
    dsimp only
    unfold wrap64
    omega
  · show ¬ overL _ (⟨2, 2, 0, -4503599627370496⟩ : Lg)
    unfold overL lgA
    rw [h3, rowX_sum h]
    dsimp only
    unfold wrap64
    omega
theorem is_over {op : Nat} (h : op < 32) : overL (addN op 128) (leg2.getD 0 default) := by
  obtain ⟨h1, h2, h3⟩ := addN_at h 128 (by omega)
  show overL _ (⟨1, 0, 0, 9007199254740992⟩ : Lg)
  unfold overL lgA
  rw [h1, rowX_sum h]
  dsimp only
  unfold wrap64
  omega
theorem tmod_inJ (y m : Int) (hm : 0 < m) (hm2 : m ≤ 100000000000000000) : 0 ≤ wrap64 ((IntKind.u64.wrap y).tmod m) ∧ wrap64 ((IntKind.u64.wrap y).tmod m) < m := by
  have e : IntKind.u64.wrap y = y % 18446744073709551616 := by rw [IntKind.wrap_u64]
  have h1 : 0 ≤ IntKind.u64.wrap y := by rw [e]; omega
  have h2 := Int.tmod_nonneg m h1
  have h3 := Int.tmod_lt_of_pos (IntKind.u64.wrap y) hm
  have h4 : wrap64 ((IntKind.u64.wrap y).tmod m) = (IntKind.u64.wrap y).tmod m := by unfold wrap64; omega
  rw [h4]
  exact ⟨h2, h3⟩
end Go.Proofs.Ytdjiljkdnpmilaa.jnw
