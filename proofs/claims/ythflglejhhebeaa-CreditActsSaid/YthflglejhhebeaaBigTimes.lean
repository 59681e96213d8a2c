/- The document's numbers in parts: what Times answers. -/
import Derived.Test.YthflglejhhebeaaBigMinus
namespace Go.Proofs.Ythflglejhhebeaa.bigw
open Go.RowKit mem bigm intm
set_option linter.unusedVariables false

/-- one part put anew -/
def upd (D : Nat → Nat) (p x : Nat) : Nat → Nat := fun j => if j = p then x else D j

theorem val_upd_ge (D : Nat → Nat) (p x k : Nat) (h : k ≤ p) : val (upd D p x) k = val D k := by
  induction k with
  | zero => rfl
  | succ k ih =>
    show val (upd D p x) k + upd D p x k * 4294967296 ^ k = val D k + D k * 4294967296 ^ k
    rw [ih (by omega)]
    unfold upd; rw [if_neg (by omega)]

theorem val_upd (D : Nat → Nat) (p x k : Nat) (h : p < k) : val (upd D p x) k + D p * 4294967296 ^ p = val D k + x * 4294967296 ^ p := by
  induction k with
  | zero => omega
  | succ k ih =>
    show val (upd D p x) k + upd D p x k * 4294967296 ^ k + D p * 4294967296 ^ p = val D k + D k * 4294967296 ^ k + x * 4294967296 ^ p
    by_cases e : p = k
    · subst e
      rw [val_upd_ge D p x p (Nat.le_refl _)]
      unfold upd; rw [if_pos rfl]; omega
    · have h1 := ih (by omega)
      have h2 : upd D p x k = D k := by unfold upd; rw [if_neg (by omega)]
      rw [h2]; omega

/-- the state of the product, row i, place k -/
def Mul (n m i k o : Nat) (D : Nat → Nat) : Prop :=
  (∀ j, D j < 4294967296) ∧ (∀ j, i + 5 ≤ j → D j = 0) ∧ o < 4294967296 ∧ val D 10 + o * 4294967296 ^ (i + k) = val (limb n) i * val (limb m) 5 + limb n i * val (limb m) k * 4294967296 ^ i

theorem mul_place {n m i k o : Nat} {D : Nat → Nat} (h : Mul n m i k o D) (hi : i < 5) (hk : k < 5) :
    D (i + k) + limb n i * limb m k + o ≤ 18446744073709551615 ∧ Mul n m i (k + 1) ((D (i + k) + limb n i * limb m k + o) / 4294967296) (upd D (i + k) ((D (i + k) + limb n i * limb m k + o) % 4294967296)) := by
  obtain ⟨h1, h2, h3, h4⟩ := h
  have hd := h1 (i + k)
  have ha := limb_lt n i
  have hb := limb_lt m k
  have hp : limb n i * limb m k ≤ 4294967295 * 4294967295 := Nat.mul_le_mul (by omega) (by omega)
  refine ⟨by omega, ?_, ?_, ?_, ?_⟩
  · intro j
    unfold upd
    split
    · exact Nat.mod_lt _ (by omega)
    · exact h1 j
  · intro j hj
    unfold upd
    rw [if_neg (by omega)]; exact h2 j hj
  · rw [Nat.div_lt_iff_lt_mul (by omega)]; omega
  · obtain ⟨sv, hsv⟩ : ∃ sv, D (i + k) + limb n i * limb m k + o = sv := ⟨_, rfl⟩
    rw [hsv]
    have hu := val_upd D (i + k) (sv % 4294967296) 10 (by omega)
    have hdm := Nat.div_add_mod sv 4294967296
    have e1 : 4294967296 ^ (i + (k + 1)) = 4294967296 ^ (i + k) * 4294967296 := by rw [← Nat.add_assoc, Nat.pow_succ]
    rw [e1]
    have e2 : val (limb m) (k + 1) = val (limb m) k + limb m k * 4294967296 ^ k := rfl
    rw [e2, Nat.mul_add, Nat.add_mul, ← Nat.add_assoc, ← h4]
    have e3 : limb n i * (limb m k * 4294967296 ^ k) * 4294967296 ^ i = limb n i * limb m k * 4294967296 ^ (i + k) := by
      rw [Nat.pow_add, ← Nat.mul_assoc, Nat.mul_assoc (limb n i * limb m k), Nat.mul_comm (4294967296 ^ k)]
    rw [e3]
    have e4 : sv / 4294967296 * (4294967296 ^ (i + k) * 4294967296) = 4294967296 * (sv / 4294967296) * 4294967296 ^ (i + k) := by
      rw [Nat.mul_comm (4294967296 ^ (i + k)) 4294967296, ← Nat.mul_assoc, Nat.mul_comm (sv / 4294967296) 4294967296]
    rw [e4]
    have e5 : 4294967296 * (sv / 4294967296) * 4294967296 ^ (i + k) + sv % 4294967296 * 4294967296 ^ (i + k) = sv * 4294967296 ^ (i + k) := by
      rw [← Nat.add_mul, hdm]
    have e6 : sv * 4294967296 ^ (i + k) = D (i + k) * 4294967296 ^ (i + k) + limb n i * limb m k * 4294967296 ^ (i + k) + o * 4294967296 ^ (i + k) := by
      rw [← hsv, Nat.add_mul, Nat.add_mul]
    generalize 4294967296 * (sv / 4294967296) * 4294967296 ^ (i + k) = q1 at *
    generalize sv % 4294967296 * 4294967296 ^ (i + k) = q2 at *
    generalize limb n i * limb m k * 4294967296 ^ (i + k) = q3 at *
    generalize D (i + k) * 4294967296 ^ (i + k) = q4 at *
    generalize o * 4294967296 ^ (i + k) = q5 at *
    generalize sv * 4294967296 ^ (i + k) = q6 at *
    generalize val (upd D (i + k) (sv % 4294967296)) 10 = q7 at *
    generalize val D 10 = q8 at *
    clear h4 e1 e2 e3 e4 hdm hsv h1 h2 h3
    omega

/-- a row behind -/
theorem mul_row {n m i o : Nat} {D : Nat → Nat} (h : Mul n m i 5 o D) (hi : i < 5) : Mul n m (i + 1) 0 0 (upd D (i + 5) o) := by
  obtain ⟨h1, h2, h3, h4⟩ := h
  refine ⟨?_, ?_, by omega, ?_⟩
  · intro j
    unfold upd
    split
    · exact h3
    · exact h1 j
  · intro j hj
    unfold upd
    rw [if_neg (by omega)]; exact h2 j (by omega)
  · have hu := val_upd D (i + 5) o 10 (by omega)
    rw [h2 (i + 5) (Nat.le_refl _), Nat.zero_mul, Nat.add_zero] at hu
    rw [hu, h4]
    have e : val (limb n) (i + 1) = val (limb n) i + limb n i * 4294967296 ^ i := rfl
    have e2 : val (limb m) 0 = 0 := rfl
    rw [e, e2, Nat.mul_zero, Nat.zero_mul, Nat.add_zero, Nat.add_zero, Nat.add_mul]
    rw [Nat.mul_assoc (limb n i) (4294967296 ^ i), Nat.mul_comm (4294967296 ^ i), ← Nat.mul_assoc]

theorem mul_start (n m : Nat) : Mul n m 0 0 0 (fun _ => 0) := by
  refine ⟨fun j => by show 0 < _; omega, fun j _ => rfl, by omega, ?_⟩
  have : ∀ k, val (fun _ => 0) k = 0 := by
    intro k; induction k with
    | zero => rfl
    | succ k ih => show val (fun _ => 0) k + 0 * _ = 0; rw [ih, Nat.zero_mul]
  rw [this]
  show _ = 0 * val (limb m) 5 + limb n 0 * 0 * 4294967296 ^ 0
  simp

theorem mul_end {n m : Nat} {D : Nat → Nat} (h : Mul n m 5 0 0 D) (hn : n < 4294967296 ^ 5) (hm : m < 4294967296 ^ 5) : ∀ j, j < 10 → D j = limb (n * m) j := by
  obtain ⟨h1, _, _, h4⟩ := h
  have e2 : val (limb m) 0 = 0 := rfl
  rw [e2, Nat.mul_zero, Nat.zero_mul, Nat.add_zero, Nat.add_zero, val_limb, val_limb, Nat.mod_eq_of_lt hn, Nat.mod_eq_of_lt hm] at h4
  intro j hj
  rw [← h4, limb_val D 10 (fun i _ => h1 i) j hj]

theorem cells_upd {w : World} {D : Nat → Nat} {g p x : Nat} (h : ∀ j, j < 10 → w.cell? ⟨g, j, none⟩ = some (.int .u64 (D j : Int))) (hp : p < 10) : ∀ j, j < 10 → (w.setCell ⟨g, p, none⟩ (.int .u64 (x : Int))).cell? ⟨g, j, none⟩ = some (.int .u64 (upd D p x j : Int)) := by
  intro j hj
  unfold upd
  by_cases e : j = p
  · subst e
    rw [cell_same (h j hj), if_pos rfl]
  · rw [cell_other (off_ne (by omega)), h j hj, if_neg e]

/-- four numbers boxed -/
def boxes4 (w : World) (A B : Nat → Nat) (s t : Bool) (ty : TypeId) : World := (boxes w A B (fun _ => 0) s t false ty).alloc (.cells (bigC (fun _ => 0) false) ty)

/-- what holds at the heads of the product's loops -/
def Head (w wr : World) (n m : Nat) (s t : Bool) (i k o : Nat) : Prop :=
  ∃ D, Mul n m i k o D ∧ (∀ j, j < 10 → wr.cell? ⟨w.heap.size + 1 + 1 + 1, j, none⟩ = some (.int .u64 (D j : Int))) ∧ (∀ j, j < 11 → wr.frozen? ⟨w.heap.size + 1 + 1 + 1, j, none⟩ = false) ∧
    wr.cell? ⟨w.heap.size + 1 + 1 + 1, 10, none⟩ = some (.bool false) ∧ Only (fun q => q = w.heap.size + 1 + 1 + 1) (boxes4 w (limb n) (limb m) s t 125) wr

theorem head_start (w : World) (n m : Nat) (s t : Bool) : Head w (boxes4 w (limb n) (limb m) s t 125) n m s t 0 0 0 := by
  have hs := boxes_size w (limb n) (limb m) (fun _ => 0) s t false 125
  refine ⟨fun _ => 0, mul_start n m, ?_, ?_, ?_, Only.refl _ _⟩
  · intro j hj
    exact (cell_new (boxes w (limb n) (limb m) (fun _ => 0) s t false 125) (fun _ => 0) false _ (w.heap.size + 1 + 1 + 1) (by omega) j).trans (bigC_get _ _ j hj)
  · intro j hj
    exact frozen_new _ _ _ _ j (by omega)
  · exact cell_new (boxes w (limb n) (limb m) (fun _ => 0) s t false 125) (fun _ => 0) false _ (w.heap.size + 1 + 1 + 1) (by omega) 10

theorem head_place {w wr : World} {n m : Nat} {s t : Bool} {i k o : Nat} (h : Head w wr n m s t i k o) (hi : i < 5) (hk : k < 5) : ∃ d : Nat, wr.cell? ⟨w.heap.size + 1 + 1 + 1, i + k, none⟩ = some (.int .u64 (d : Int)) ∧
    d + limb n i * limb m k + o ≤ 18446744073709551615 ∧ Head w ((wr.setCell ⟨w.heap.size + 1 + 1 + 1, i + k, none⟩ (.int .u64 (((d + limb n i * limb m k + o) % 4294967296 : Nat) : Int))).drew) n m s t i (k + 1) ((d + limb n i * limb m k + o) / 4294967296) := by
  obtain ⟨D, h1, h2, h3, h4, h5⟩ := h
  obtain ⟨hb, hM⟩ := mul_place h1 hi hk
  refine ⟨D (i + k), h2 (i + k) (by omega), hb, _, hM, cells_upd h2 (by omega), ?_, ?_, ?_⟩
  · intro j hj
    show (wr.setCell ⟨w.heap.size + 1 + 1 + 1, i + k, none⟩ _).frozen? _ = _
    rw [frozen_set]; exact h3 j hj
  · show (wr.setCell ⟨w.heap.size + 1 + 1 + 1, i + k, none⟩ _).cell? _ = _
    rw [cell_other (off_ne (by omega))]; exact h4
  · exact (h5.setCell (p := ⟨w.heap.size + 1 + 1 + 1, i + k, none⟩) (.inl rfl) _).drew

theorem head_row {w wr : World} {n m : Nat} {s t : Bool} {i o : Nat} (h : Head w wr n m s t i 5 o) (hi : i < 5) : (∃ d : Nat, wr.cell? ⟨w.heap.size + 1 + 1 + 1, i + 5, none⟩ = some (.int .u64 (d : Int))) ∧
    Head w (wr.setCell ⟨w.heap.size + 1 + 1 + 1, i + 5, none⟩ (.int .u64 (o : Int))) n m s t (i + 1) 0 0 := by
  obtain ⟨D, h1, h2, h3, h4, h5⟩ := h
  refine ⟨⟨_, h2 (i + 5) (by omega)⟩, _, mul_row h1 hi, cells_upd h2 (by omega), ?_, ?_, ?_⟩
  · intro j hj
    rw [frozen_set]; exact h3 j hj
  · rw [cell_other (off_ne (by omega))]; exact h4
  · exact h5.setCell (p := ⟨w.heap.size + 1 + 1 + 1, i + 5, none⟩) (.inl rfl) _

theorem head_fr {w wr : World} {n m : Nat} {s t : Bool} {i k o : Nat} (h : Head w wr n m s t i k o) : ∀ j, j < 11 → wr.frozen? ⟨w.heap.size + 1 + 1 + 1, j, none⟩ = false := by
  obtain ⟨D, h1, h2, h3, h4, h5⟩ := h; exact h3
theorem head_only {w wr : World} {n m : Nat} {s t : Bool} {i k o : Nat} (h : Head w wr n m s t i k o) : Only (fun q => q = w.heap.size + 1 + 1 + 1) (boxes w (limb n) (limb m) (fun _ => 0) s t false 125) wr := by
  obtain ⟨D, h1, h2, h3, h4, h5⟩ := h
  have hs := boxes_size w (limb n) (limb m) (fun _ => 0) s t false 125
  exact ((Only.refl _ _).alloc _).trans (⟨h5.os, h5.tape, h5.output, h5.size, h5.block⟩)

theorem mul_small {n m : Nat} (hn : n < 4294967296 ^ 5) (hm : m < 4294967296 ^ 5) : n * m < 4294967296 ^ 10 := by
  have e : (4294967296 : Nat) ^ 10 = 4294967296 ^ 5 * 4294967296 ^ 5 := by rw [← Nat.pow_add]
  rw [e]
  exact Nat.mul_lt_mul_of_lt_of_le hn (Nat.le_of_lt hm) (Nat.pow_pos (by omega))

theorem sb_mul {x y : Int} {n m : Nat} {s t zb : Bool} (h : x.natAbs = n ∧ y.natAbs = m ∧ decide (x < 0) = s ∧ decide (y < 0) = t) (hz : decide (n * m = 0) = zb) : sb (x * y) = big (limb (n * m)) ((s != t) && !zb) := by
  obtain ⟨hn, hm, hs, ht⟩ := h
  unfold sb
  rw [Int.natAbs_mul, hn, hm]
  have e : decide (x * y < 0) = ((s != t) && !zb) := by
    rw [← hz, ← hs, ← ht, ← hn, ← hm]
    by_cases hx0 : x = 0
    · subst hx0; simp
    · by_cases hy0 : y = 0
      · subst hy0; simp
      · have hnz : ¬ (x.natAbs * y.natAbs = 0) := by
          rw [Nat.mul_eq_zero]; omega
        by_cases h1 : x < 0 <;> by_cases h2 : y < 0
        · have : 0 < x * y := Int.mul_pos_of_neg_of_neg h1 h2
          simp [h1, h2]; omega
        · have : x * y < 0 := Int.mul_neg_of_neg_of_pos h1 (by omega)
          simp [h1, h2, this, hnz]
        · have : x * y < 0 := Int.mul_neg_of_pos_of_neg (by omega) h2
          simp [h1, h2, this, hnz]
        · have : 0 < x * y := Int.mul_pos (by omega) (by omega)
          simp [h1, h2]; omega
  rw [e]

end Go.Proofs.Ythflglejhhebeaa.bigw
