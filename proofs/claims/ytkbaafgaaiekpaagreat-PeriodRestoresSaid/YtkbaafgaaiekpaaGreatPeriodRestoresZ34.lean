/- Several texts together: PuQ. -/
import Derived.Test.YtkbaafgaaiekpaaGreatPeriodRestoresZ11
import Derived.Test.YtkbaafgaaiekpaaGreatPeriodRestoresZ13
import Derived.Test.YtkbaafgaaiekpaaGreatPeriodRestoresZ14
import Derived.Test.YtkbaafgaaiekpaaGreatPeriodRestoresZ31
import Derived.Test.YtkbaafgaaiekpaaGreatPeriodRestoresZ33
namespace Go.Proofs.YtkbaafgaaiekpaaGreat.puw
open Go.RowKit mem entm
set_option linter.unusedVariables false
theorem A0_get4 (j : Nat) : fnd.A0.getD j fnd.zA = fnd.zA := fnd.getA0 j
theorem getD_set4 (A : List fnd.Ac) (i j : Nat) (x : fnd.Ac) (hi : i < A.length) : (A.set i x).getD j fnd.zA = if i = j then x else A.getD j fnd.zA := by
  rw [List.getD_eq_getElem?_getD, List.getElem?_set, List.getD_eq_getElem?_getD]; by_cases e : i = j
  · subst e; simp [hi]
  · simp [e]
structure Eq4 (A : List fnd.Ac) : Prop where
  len : A.length = 33
  out : ∀ j : Nat, ¬ (1 ≤ j ∧ j ≤ 4) → A.getD j fnd.zA = fnd.zA
  h1 : (A.getD 1 fnd.zA).h = (A.getD 2 fnd.zA).h
  h2 : (A.getD 2 fnd.zA).h = (A.getD 3 fnd.zA).h + (A.getD 4 fnd.zA).h
  u1 : (A.getD 1 fnd.zA).u = (A.getD 2 fnd.zA).u
  u2 : (A.getD 2 fnd.zA).u = (A.getD 3 fnd.zA).u + (A.getD 4 fnd.zA).u
theorem Eq4.z : Eq4 fnd.A0 := ⟨by unfold fnd.A0; rw [List.length_replicate], fun j _ => A0_get4 j, by rw [A0_get4, A0_get4], by rw [A0_get4, A0_get4, A0_get4]; rfl, by rw [A0_get4, A0_get4], by rw [A0_get4, A0_get4, A0_get4]; rfl⟩
theorem acG4 {A : List fnd.Ac} {m : Nat} (hm : 1 ≤ m ∧ m ≤ 32) : fnd.acG A (m : Int) = A.getD m fnd.zA := by
  unfold fnd.acG; rw [if_pos (by unfold fnd.NodeOk; omega), Int.toNat_natCast]
theorem Eq4.top {A : List fnd.Ac} (h : Eq4 A) (m : Nat) (hm : 1 ≤ m ∧ m ≤ 4) (x : Int) : Eq4 (fnd.topA A (m : Int) x) := by
  have hl := h.len; unfold fnd.topA; split
  · rw [Int.toNat_natCast, acG4 (by omega)]; have key : ∀ j, ((A.set m { A.getD m fnd.zA with t := (A.getD m fnd.zA).t + x }).getD j fnd.zA).h = (A.getD j fnd.zA).h ∧ ((A.set m { A.getD m fnd.zA with t := (A.getD m fnd.zA).t + x }).getD j fnd.zA).u = (A.getD j fnd.zA).u := fun j => by
      rw [getD_set4 A m j _ (by omega)]; by_cases e : m = j
      · rw [if_pos e, ← e]; exact ⟨rfl, rfl⟩
      · rw [if_neg e]; exact ⟨rfl, rfl⟩
    refine ⟨by rw [List.length_set]; exact hl, fun j hj => ?_, ?_, ?_, ?_, ?_⟩
    · rw [getD_set4 A m j _ (by omega), if_neg (by omega)]; exact h.out j hj
    · rw [(key 1).1, (key 2).1]; exact h.h1
    · rw [(key 2).1, (key 3).1, (key 4).1]; exact h.h2
    · rw [(key 1).2, (key 2).2]; exact h.u1
    · rw [(key 2).2, (key 3).2, (key 4).2]; exact h.u2
  · exact h
theorem sh_get (dh du : Int) (j : Nat) : ∀ (l : List Int) (A : List fnd.Ac), A.length = 33 → l.Nodup → (∀ n ∈ l, 1 ≤ n ∧ n ≤ 32) → (fnd.shT A l dh du).getD j fnd.zA = if (j : Int) ∈ l then fnd.shB (A.getD j fnd.zA) dh du else A.getD j fnd.zA
  | [], A, _, _, _ => by rw [if_neg (by simp)]; rfl
  | n :: r, A, hl, hn, hr => by
    rw [List.nodup_cons] at hn; have hn1 := hr n (by simp); have ih := sh_get dh du j r (A.set n.toNat (fnd.shB (fnd.nd A n) dh du)) (by rw [List.length_set]; exact hl) hn.2 (fun m hm => hr m (by simp [hm])); have e : fnd.shT A (n :: r) dh du = fnd.shT (A.set n.toNat (fnd.shB (fnd.nd A n) dh du)) r dh du := rfl; rw [e, ih, getD_set4 A n.toNat j _ (by omega)]; by_cases ej : n = (j : Int)
    · have e2 : n.toNat = j := (by omega); have e3 : ¬ (j : Int) ∈ r := (by rw [← ej]; exact hn.1); rw [if_neg e3, if_pos e2, if_pos (show (j : Int) ∈ n :: r by rw [ej]; simp)]; unfold fnd.nd; rw [e2]
    · have e2 : ¬ n.toNat = j := (by omega); rw [if_neg e2]; by_cases ej2 : (j : Int) ∈ r
      · rw [if_pos ej2, if_pos (show (j : Int) ∈ n :: r by simp [ej2])]
      · rw [if_neg ej2, if_neg (fun f => by
          rcases List.mem_cons.1 f with f | f
          · exact ej f.symm
          · exact ej2 f)]
theorem path_good (q : Int) (hq : q = 3 ∨ q = 4) : ([1, 2, q] : List Int).Nodup ∧ ∀ n ∈ ([1, 2, q] : List Int), 1 ≤ n ∧ n ≤ 32 := by
  rcases hq with rfl | rfl
  · decide
  · decide
theorem Eq4.sh {A : List fnd.Ac} (h : Eq4 A) (q : Int) (hq : q = 3 ∨ q = 4) (dh du : Int) : Eq4 (fnd.shT A [1, 2, q] dh du) := by
  have key := fun j => sh_get dh du j [1, 2, q] A h.len (path_good q hq).1 (path_good q hq).2; have i1 := h.h1; have i2 := h.h2; have i3 := h.u1; have i4 := h.u2; rcases hq with rfl | rfl
  · have k1 := key 1; have k2 := key 2; have k3 := key 3; have k4 := key 4; rw [if_pos (by decide)] at k1 k2 k3; rw [if_neg (by decide)] at k4; refine ⟨by rw [fnd.shT_len]; exact h.len, fun j hj => ?_, ?_, ?_, ?_, ?_⟩
    · rw [key j, if_neg (by simp; omega)]; exact h.out j hj
    · rw [k1, k2]; unfold fnd.shB; dsimp only; omega
    · rw [k2, k3, k4]; unfold fnd.shB; dsimp only; omega
    · rw [k1, k2]; unfold fnd.shB; dsimp only; omega
    · rw [k2, k3, k4]; unfold fnd.shB; dsimp only; omega
  · have k1 := key 1; have k2 := key 2; have k3 := key 3; have k4 := key 4; rw [if_pos (by decide)] at k1 k2 k4; rw [if_neg (by decide)] at k3; refine ⟨by rw [fnd.shT_len]; exact h.len, fun j hj => ?_, ?_, ?_, ?_, ?_⟩
    · rw [key j, if_neg (by simp; omega)]; exact h.out j hj
    · rw [k1, k2]; unfold fnd.shB; dsimp only; omega
    · rw [k2, k3, k4]; unfold fnd.shB; dsimp only; omega
    · rw [k1, k2]; unfold fnd.shB; dsimp only; omega
    · rw [k2, k3, k4]; unfold fnd.shB; dsimp only; omega
theorem Eq4.hold {A : List fnd.Ac} (h : Eq4 A) (q : Int) (hq : q = 3 ∨ q = 4) (ls : List Int) (x : Int) : Eq4 (fnd.holdA A [1, 2, q] ls x) := by
  unfold fnd.holdA; split
  · exact h.sh q hq x 0
  · exact h
theorem Eq4.shift {A : List fnd.Ac} (h : Eq4 A) (q : Int) (hq : q = 3 ∨ q = 4) (x dh du : Int) : Eq4 (fnd.shA A [1, 2, q] x dh du) := by
  unfold fnd.shA; split
  · exact h.sh q hq dh du
  · exact h
theorem nodU_mem (A : List fnd.Ac) (j : Nat) : (j : Int) ∈ fnd.nodU A 33 ↔ j < 33 ∧ A.getD j fnd.zA ≠ fnd.zA := by
  unfold fnd.nodU; rw [List.mem_map]; constructor
  · rintro ⟨i, hi, e⟩; rw [List.mem_filter, List.mem_range] at hi; have : i = j := (by omega); subst this; exact ⟨hi.1, by simpa using hi.2⟩
  · rintro ⟨h1, h2⟩; exact ⟨j, by rw [List.mem_filter, List.mem_range]; exact ⟨h1, by simpa using h2⟩, rfl⟩
theorem rollF_get (carry : List Int) (j : Nat) : ∀ (ns : List Int) (A : List fnd.Ac) (s : Int), A.length = 33 → ns.Nodup → (∀ n ∈ ns, fnd.NodeOk n) → (rollF carry (A, s) ns).1.length = 33 ∧ (rollF carry (A, s) ns).1.getD j fnd.zA = if (j : Int) ∈ ns then fnd.rolled (A.getD j fnd.zA) (carry.contains (j : Int)) else A.getD j fnd.zA
  | [], A, s, hl, _, _ => ⟨hl, by rw [if_neg (by simp)]; rfl⟩
  | n :: r, A, s, hl, hn, hr => by
    rw [List.nodup_cons] at hn; have hn1 := hr n (by simp); have hn2 := hn1; unfold fnd.NodeOk at hn2; have e0 : fnd.rollA A n (carry.contains n) = A.set n.toNat (fnd.rolled (fnd.acG A n) (carry.contains n)) := (by unfold fnd.rollA; rw [if_pos hn1]); have ih := rollF_get carry j r (fnd.rollA A n (carry.contains n)) (s + fnd.rollN A n (carry.contains n)) (by rw [e0, List.length_set]; exact hl) hn.2 (fun m hm => hr m (by simp [hm])); have e : rollF carry (A, s) (n :: r) = rollF carry (fnd.rollA A n (carry.contains n), s + fnd.rollN A n (carry.contains n)) r := rfl; rw [e]; refine ⟨ih.1, ?_⟩; rw [ih.2, e0, getD_set4 A n.toNat j _ (by omega)]; by_cases ej : n = (j : Int)
    · have e2 : n.toNat = j := (by omega); have e3 : ¬ (j : Int) ∈ r := (by rw [← ej]; exact hn.1); rw [if_neg e3, if_pos e2, if_pos (show (j : Int) ∈ n :: r by rw [ej]; simp), ej, acG4 (by omega)]
    · have e2 : ¬ n.toNat = j := (by omega); rw [if_neg e2]; by_cases ej2 : (j : Int) ∈ r
      · rw [if_pos ej2, if_pos (show (j : Int) ∈ n :: r by simp [ej2])]
      · rw [if_neg ej2, if_neg (fun f => by
          rcases List.mem_cons.1 f with f | f
          · exact ej f.symm
          · exact ej2 f)]
theorem in4 {A : List fnd.Ac} (h : Eq4 A) {n : Int} (hn : n ∈ fnd.nodU A 33) : ([1, 2, 3, 4] : List Int).contains n = true ∧ fnd.NodeOk n := by
  have h0 := fnd.nodU_in A 33 n hn; obtain ⟨j, rfl⟩ : ∃ j : Nat, n = (j : Int) := ⟨n.toNat, by omega⟩; have h1 := (nodU_mem A j).1 hn; have h2 : 1 ≤ j ∧ j ≤ 4 := Decidable.byContradiction fun e => h1.2 (h.out j e); refine ⟨?_, by unfold fnd.NodeOk; omega⟩; have h3 : j = 1 ∨ j = 2 ∨ j = 3 ∨ j = 4 := (by omega); rcases h3 with rfl | rfl | rfl | rfl <;> rfl
theorem Eq4.roll {A : List fnd.Ac} (h : Eq4 A) : Eq4 (rollF [1, 2, 3, 4] (A, 0) (fnd.nodU A 33)).1 := by
  have key := fun j => rollF_get [1, 2, 3, 4] j (fnd.nodU A 33) A 0 h.len (nodU_nodup A) (fun n hn => (in4 h hn).2); have k2 : ∀ j : Nat, 1 ≤ j ∧ j ≤ 4 → ((rollF [1, 2, 3, 4] (A, 0) (fnd.nodU A 33)).1.getD j fnd.zA).h = (A.getD j fnd.zA).h ∧ ((rollF [1, 2, 3, 4] (A, 0) (fnd.nodU A 33)).1.getD j fnd.zA).u = 0 := fun j hj => by
    rw [(key j).2]; by_cases e : (j : Int) ∈ fnd.nodU A 33
    · rw [if_pos e]; exact ⟨rfl, rfl⟩
    · rw [if_neg e]; have e2 : A.getD j fnd.zA = fnd.zA := Decidable.byContradiction fun f => e ((nodU_mem A j).2 ⟨by omega, f⟩); rw [e2]; exact ⟨rfl, rfl⟩
  refine ⟨(key 0).1, fun j hj => ?_, ?_, ?_, ?_, ?_⟩
  · rw [(key j).2, if_neg (fun e => ((nodU_mem A j).1 e).2 (h.out j hj))]; exact h.out j hj
  · rw [(k2 1 (by omega)).1, (k2 2 (by omega)).1]; exact h.h1
  · rw [(k2 2 (by omega)).1, (k2 3 (by omega)).1, (k2 4 (by omega)).1]; exact h.h2
  · rw [(k2 1 (by omega)).2, (k2 2 (by omega)).2]
  · rw [(k2 2 (by omega)).2, (k2 3 (by omega)).2, (k2 4 (by omega)).2]; rfl
def accs : List AcC := [⟨1, 0, 0⟩, ⟨2, 1, 0⟩, ⟨3, 1, 0⟩, ⟨4, 1, 1⟩, ⟨5, 1, 0⟩, ⟨2, 2, 0⟩, ⟨3, 2, 0⟩, ⟨4, 2, 1⟩, ⟨5, 2, 0⟩, ⟨2, 3, 0⟩, ⟨3, 3, 0⟩, ⟨4, 3, 1⟩, ⟨5, 3, 0⟩, ⟨2, 4, 0⟩, ⟨3, 4, 0⟩, ⟨4, 4, 1⟩, ⟨5, 4, 0⟩]
theorem accs_nodup : accs.Nodup := by decide
theorem sum_two {α : Type} (f g : α → Int) : ∀ l : List α, (l.map fun a => f a + g a).sum = (l.map f).sum + (l.map g).sum
  | [] => rfl
  | a :: r => by rw [List.map_cons, List.sum_cons, List.map_cons, List.sum_cons, List.map_cons, List.sum_cons, sum_two f g r]; omega
theorem sum_not (b : AcC) (x : Int) : ∀ l : List AcC, b ∉ l → (l.map fun a => if b = a then x else 0).sum = 0
  | [], _ => rfl
  | a :: r, h => by
    rw [List.map_cons, List.sum_cons, sum_not b x r (fun f => h (by simp [f])), if_neg (fun f => h (by simp [f]))]
    rfl
theorem sum_at (b : AcC) (x : Int) : ∀ l : List AcC, l.Nodup → b ∈ l → (l.map fun a => if b = a then x else 0).sum = x
  | [], _, h => by cases h
  | a :: r, hn, h => by
    rw [List.nodup_cons] at hn; rw [List.map_cons, List.sum_cons]; by_cases e : b = a
    · rw [if_pos e, sum_not b x r (by rw [e]; exact hn.1)]; omega
    · rw [if_neg e, sum_at b x r hn.2 (by
        rcases List.mem_cons.1 h with f | f
        · exact absurd f e
        · exact f)]
      omega
def amts4 (ls : List Lg) : Int := (ls.map (·.a)).sum
theorem sum_atA : ∀ ls : List Lg, (∀ l ∈ ls, jnw.lgA l ∈ accs) → (accs.map fun a => jnw.atA a ls).sum = amts4 ls
  | [], _ => by
    have e : ∀ l : List AcC, (l.map fun a => jnw.atA a []).sum = 0 := fun l => by
      induction l with
      | nil => rfl
      | cons a r ih => rw [List.map_cons, List.sum_cons, ih]; rfl
    rw [e]; rfl
  | l :: r, h => by
    have e : (fun a => jnw.atA a (l :: r)) = fun a => (if jnw.lgA l = a then l.a else 0) + jnw.atA a r := funext fun a => jnw.atA_cons a l r
    rw [e, sum_two, sum_at _ _ _ accs_nodup (h l (by simp)), sum_atA r (fun m hm => h m (by simp [hm]))]; unfold amts4; rw [List.map_cons, List.sum_cons]
def tot17 (C : AcC → Option (List Int)) : Int := (accs.map fun a => (jnw.ror C a).sum).sum
def LegsOk (ls : List Lg) : Prop := ls.length ≤ 6 ∧ (∀ l ∈ ls, -1000 ≤ l.a ∧ l.a ≤ 1000) ∧ ∀ l ∈ ls, jnw.lgA l ∈ accs
def Jk (C : AcC → Option (List Int)) (L : List jnw.Ps) : Prop := tot17 C = 0 ∧ ∀ x ∈ L, amts4 x.ls = 0 ∧ LegsOk x.ls
theorem none17 : tot17 (fun _ => none) = 0 := by
  have e : ∀ l : List AcC, (l.map fun a => (jnw.ror (fun _ => none) a).sum).sum = 0 := fun l => by
    induction l with
    | nil => rfl
    | cons a r ih => rw [List.map_cons, List.sum_cons, ih, none_sum]; rfl
  exact e accs
theorem Jk.nil : Jk (fun _ => none) [] := ⟨none17, fun x hx => by cases hx⟩
theorem Jk.add {C : AcC → Option (List Int)} {L : List jnw.Ps} (h : Jk C L) {B : Int} (hB : jnw.Bnd C B) (hb : B ≤ 1152921504606846976) {op : Nat} (hop : op < 32) {k : Int} {x : jnw.Ps} (hc : chk k x.ls = 0) (hl : LegsOk x.ls) : Jk (jnw.addC C op x.ls) (L ++ [x]) := by
  have hz : amts4 x.ls = 0 := ((chk_ok k x.ls).1 hc).2.2.2.1; refine ⟨?_, fun y hy => ?_⟩
  · have e : (fun a => (jnw.ror (jnw.addC C op x.ls) a).sum) = fun a => (jnw.ror C a).sum + jnw.atA a x.ls := funext fun a => hB.sum hb hop hc a; unfold tot17; rw [e, sum_two, sum_atA _ hl.2.2, hz]; have := h.1; unfold tot17 at this; omega
  · rcases List.mem_append.1 hy with hy | hy
    · exact h.2 y hy
    · rw [List.mem_singleton] at hy; rw [hy]; exact ⟨hz, hl⟩
section
variable {H : Type} {enc : TypeId × Value → H} {w : World} {base : Nat}
end
end Go.Proofs.YtkbaafgaaiekpaaGreat.puw
