/- What moves along a path and back, as mathematics. -/
import Derived.Test.YtfpeimihlihphaaFuRm
import Derived.Test.YtfpeimihlihphaaFuJ
namespace Go.Proofs.Ytfpeimihlihphaa.fnd
open Go.RowKit mem tre
set_option linter.unusedVariables false

theorem path_ne {l : List Int} (h : PathOk l) {i j : Nat} (hij : i < j) (hj : j < l.length) : (l.getD j 0).toNat ≠ (l.getD i 0).toNat := by
  obtain ⟨k, hk, _, _, hn⟩ := path_toNat h j hj
  have hi : i < l.length := by omega
  have hm : l.getD i 0 ∈ l.take j := by
    have e : l.getD i 0 = (l.take j)[i]'(by rw [List.length_take]; omega) := by rw [List.getElem_take]; simp [List.getD, hi]
    rw [e]; exact List.getElem_mem _
  rw [hk, Int.toNat_natCast]
  exact fun e => hn _ hm e.symm
theorem shT_append (A : List Ac) (l r : List Int) (dh du : Int) : shT A (l ++ r) dh du = shT (shT A l dh du) r dh du := by unfold shT; rw [List.foldl_append]
theorem mem_drop_get {l : List Int} {j : Nat} {n : Int} (h : n ∈ l.drop j) : ∃ m, j ≤ m ∧ m < l.length ∧ l.getD m 0 = n := by
  obtain ⟨i, hi, e⟩ := List.mem_iff_getElem.1 h
  rw [List.length_drop] at hi
  rw [List.getElem_drop] at e
  exact ⟨j + i, by omega, by omega, by rw [← e]; simp [List.getD, show j + i < l.length by omega]⟩
theorem mem_get {l : List Int} {n : Int} (h : n ∈ l) : ∃ m, m < l.length ∧ l.getD m 0 = n := by
  obtain ⟨i, hi, e⟩ := List.mem_iff_getElem.1 h
  exact ⟨i, hi, by rw [← e]; simp [List.getD, hi]⟩
theorem shT_nd {A : List Ac} {l : List Int} (h : PathOk l) (hA : A.length = 33) (i : Nat) (hi : i < l.length) (dh du : Int) : nd (shT A l dh du) (l.getD i 0) = shB (nd A (l.getD i 0)) dh du := by
  obtain ⟨k, hk, k1, k2, hn⟩ := path_toNat h i hi
  have e : l = l.take (i + 1) ++ l.drop (i + 1) := (List.take_append_drop _ _).symm
  have e2 : shT A l dh du = shT (shT A (l.take (i + 1)) dh du) (l.drop (i + 1)) dh du := by
    rw [← shT_append, List.take_append_drop]
  rw [e2]
  have e3 : nd (shT (shT A (l.take (i + 1)) dh du) (l.drop (i + 1)) dh du) (l.getD i 0) = nd (shT A (l.take (i + 1)) dh du) (l.getD i 0) := by
    unfold nd
    refine shT_other _ _ _ _ _ (fun n hn2 => ?_)
    obtain ⟨m, m1, m2, rfl⟩ := mem_drop_get hn2
    exact path_ne h (by omega) m2
  rw [e3, shT_take A l dh du i hi, shT_at h i hi dh du]
  unfold nd
  rw [hk, Int.toNat_natCast, getA_set _ _ _ _ (by rw [shT_len, hA]; exact k2), if_pos rfl]
theorem ac_ext {X Y : List Ac} (hl : X.length = 33) (hm : Y.length = 33) (h : ∀ k, k < 33 → X.getD k zA = Y.getD k zA) : X = Y := by
  refine List.ext_getElem (by rw [hl, hm]) (fun k h1 h2 => ?_)
  have := h k (by omega)
  simpa [List.getD, h1, h2] using this
theorem shT_k {A : List Ac} {l : List Int} (h : PathOk l) (hA : A.length = 33) (dh du : Int) (k : Nat) : (∃ i, i < l.length ∧ (l.getD i 0).toNat = k ∧ (shT A l dh du).getD k zA = shB (A.getD k zA) dh du) ∨ ((∀ n ∈ l, n.toNat ≠ k) ∧ (shT A l dh du).getD k zA = A.getD k zA) := by
  by_cases q : ∀ n ∈ l, n.toNat ≠ k
  · exact .inr ⟨q, shT_other k l A dh du q⟩
  · refine .inl ?_
    obtain ⟨n, hn, hk⟩ : ∃ n, n ∈ l ∧ n.toNat = k := by
      apply Classical.byContradiction
      intro hh
      exact q (fun n hn e => hh ⟨n, hn, e⟩)
    obtain ⟨i, hi, rfl⟩ := mem_get hn
    have := shT_nd h hA i hi dh du
    unfold nd at this
    rw [hk] at this
    exact ⟨i, hi, hk, this⟩
theorem shB_shB (a : Ac) (p q r s : Int) : shB (shB a p q) r s = shB a (p + r) (q + s) := by
  unfold shB; simp; omega
theorem shB_zero (a : Ac) : shB a 0 0 = a := by unfold shB; simp
theorem shT_shT {A : List Ac} {l : List Int} (h : PathOk l) (hA : A.length = 33) (p q r s : Int) : shT (shT A l p q) l r s = shT A l (p + r) (q + s) := by
  refine ac_ext (by rw [shT_len, shT_len, hA]) (by rw [shT_len, hA]) (fun k _ => ?_)
  have h2 : (shT A l p q).length = 33 := by rw [shT_len, hA]
  rcases shT_k h h2 r s k with ⟨i, hi, hk, e⟩ | ⟨hn, e⟩
  · rw [e]
    rcases shT_k h hA p q k with ⟨_, _, _, e2⟩ | ⟨hn, _⟩
    · rw [e2]
      rcases shT_k h hA (p + r) (q + s) k with ⟨_, _, _, e3⟩ | ⟨hn, _⟩
      · rw [e3, shB_shB]
      · exact absurd hk (hn _ (by simp [List.getD, hi]))
    · exact absurd hk (hn _ (by simp [List.getD, hi]))
  · rw [e, shT_other k l A p q hn, shT_other k l A _ _ hn]
theorem shT_zero {A : List Ac} {l : List Int} (h : PathOk l) (hA : A.length = 33) : shT A l 0 0 = A := by
  refine ac_ext (by rw [shT_len, hA]) hA (fun k _ => ?_)
  rcases shT_k h hA 0 0 k with ⟨_, _, _, e⟩ | ⟨_, e⟩
  · rw [e, shB_zero]
  · exact e
theorem shE_ok {A : List Ac} (hA : Bok A) {l : List Int} (h : PathOk l) {p q r s X : Int} (hX : AmtOk X) (h1 : 0 ≤ p + r) (h2 : 0 ≤ q + s) : shE (shT A l p q) l X r s = 0 ∧ shA (shT A l p q) l X r s = shT A l (p + r) (q + s) := by
  have hb : badB (shT A l p q) r s l = false := by
    unfold badB
    rw [List.any_eq_false]
    intro n hn
    obtain ⟨i, hi, rfl⟩ := mem_get hn
    rw [shT_nd h hA.len i hi]
    obtain ⟨⟨-, -, -, ⟨u1, -⟩, ⟨g1, -⟩⟩, -⟩ := hA.ok (l.getD i 0).toNat
    unfold shB nd
    dsimp only
    simp only [Bool.or_eq_true, decide_eq_true_iff, not_or]
    omega
  have e : shE (shT A l p q) l X r s = 0 := by unfold shE; rw [if_pos ⟨h, hX⟩, hb]; rfl
  exact ⟨e, by unfold shA; rw [if_pos e, shT_shT h hA.len]⟩
/-- a hold, a part of it used, the rest given back, and what was used given back -/
structure Back (A : List Ac) (l : List Int) (x P Q : Int) : Prop where
  b1 : Bok (shT A l x 0)
  b2 : Bok (shT A l Q P)
  b3 : Bok (shT A l 0 P)
  c1 : 1 ≤ P → shE (shT A l x 0) l P (-P) P = 0 ∧ shA (shT A l x 0) l P (-P) P = shT A l Q P
  c2 : 1 ≤ Q → shE (shT A l Q P) l Q (-Q) 0 = 0 ∧ shA (shT A l Q P) l Q (-Q) 0 = shT A l 0 P
  c3 : 1 ≤ P → shE (shT A l 0 P) l P 0 (-P) = 0 ∧ shA (shT A l 0 P) l P 0 (-P) = A
  z1 : P = 0 → shT A l x 0 = shT A l Q P
  z2 : Q = 0 → shT A l Q P = shT A l 0 P
  z3 : P = 0 → shT A l 0 P = A
  g : ∀ i, i < l.length → nd (shT A l 0 P) (l.getD i 0) = shB (nd A (l.getD i 0)) 0 P
theorem back_ok {A : List Ac} (hA : Bok A) {l ls : List Int} {x P Q : Int} (he : holdE A l ls x = 0) (h1 : 0 ≤ P) (h2 : 0 ≤ Q) (h3 : P + Q = x) : PathOk l ∧ AmtOk x ∧ holdA A l ls x = shT A l x 0 ∧ Back A l x P Q := by
  have hq : (PathOk l ∧ ls.length = l.length ∧ LOk ls ls.length) ∧ AmtOk x := by
    apply Classical.byContradiction
    intro hh
    unfold holdE at he
    rw [if_neg hh] at he
    simp at he
  obtain ⟨⟨h, -, -⟩, hx⟩ := hq
  have hT : holdA A l ls x = shT A l x 0 := by unfold holdA; rw [if_pos he]
  have b1 : Bok (shT A l x 0) := by rw [← hT]; exact hA.holdA l ls x
  obtain ⟨x1, x2⟩ := hx
  have e1 : x + -P = Q := by omega
  have e2 : Q + -Q = 0 := by omega
  have e3 : P + -P = 0 := by omega
  have c1 : 1 ≤ P → shE (shT A l x 0) l P (-P) P = 0 ∧ shA (shT A l x 0) l P (-P) P = shT A l Q P := fun hp => by
    have := shE_ok hA h (p := x) (q := 0) (r := -P) (s := P) (X := P) ⟨hp, by omega⟩ (by omega) (by omega)
    rwa [e1, Int.zero_add] at this
  have z1 : P = 0 → shT A l x 0 = shT A l Q P := fun hp => by rw [hp, show Q = x by omega]
  have b2 : Bok (shT A l Q P) := by
    by_cases hp : P = 0
    · rw [← z1 hp]; exact b1
    · rw [← (c1 (by omega)).2]
      exact b1.shA l P (fun _ => by omega)
  have c2 : 1 ≤ Q → shE (shT A l Q P) l Q (-Q) 0 = 0 ∧ shA (shT A l Q P) l Q (-Q) 0 = shT A l 0 P := fun hp => by
    have := shE_ok hA h (p := Q) (q := P) (r := -Q) (s := 0) (X := Q) ⟨hp, by omega⟩ (by omega) (by omega)
    rwa [e2, Int.add_zero] at this
  have z2 : Q = 0 → shT A l Q P = shT A l 0 P := fun hp => by rw [hp]
  have b3 : Bok (shT A l 0 P) := by
    by_cases hp : Q = 0
    · rw [← z2 hp]; exact b2
    · rw [← (c2 (by omega)).2]
      exact b2.shA l Q (fun _ => by omega)
  have c3 : 1 ≤ P → shE (shT A l 0 P) l P 0 (-P) = 0 ∧ shA (shT A l 0 P) l P 0 (-P) = A := fun hp => by
    have := shE_ok hA h (p := 0) (q := P) (r := 0) (s := -P) (X := P) ⟨hp, by omega⟩ (by omega) (by omega)
    rwa [e3, Int.add_zero, shT_zero h hA.len] at this
  exact ⟨h, ⟨x1, x2⟩, hT, b1, b2, b3, c1, c2, c3, z1, z2, fun hp => by rw [hp]; exact shT_zero h hA.len, fun i hi => shT_nd h hA.len i hi 0 P⟩
end Go.Proofs.Ytfpeimihlihphaa.fnd
