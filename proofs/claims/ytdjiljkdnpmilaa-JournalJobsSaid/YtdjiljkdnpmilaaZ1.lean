/- Several texts together: BigMinus, BigTimes, Pairs0, SumA, SumR, OpU, EntPx, JoO, JnO, JnP. -/
import Derived.Test.YtdjiljkdnpmilaaBigInt
import Derived.Test.YtdjiljkdnpmilaaMemI
import Derived.Laws.Externs
import Derived.Deep.RegionWith
import Derived.OpenShut
import Derived.ChangeOld
import Derived.Test.YtdjiljkdnpmilaaEntN
import Derived.Deep.Slices
import Derived.Test.YtdjiljkdnpmilaaJoA
import Derived.Test.YtdjiljkdnpmilaaZ0
import Derived.Test.YtdjiljkdnpmilaaJnK
namespace Go.Proofs.Ytdjiljkdnpmilaa.bigw
open Go.RowKit mem bigm intm
set_option linter.unusedVariables false

/-- two numbers boxed -/
def boxes2 (w : World) (A B : Nat → Nat) (s t : Bool) (ty : TypeId) : World := (w.alloc (.cells (bigC A s) ty)).alloc (.cells (bigC B t) ty)
theorem boxes2_one (w : World) (A B : Nat → Nat) (s t : Bool) (ty : TypeId) (j : Nat) (v : Value) (h : (bigC A s)[j]? = some v) : (boxes2 w A B s t ty).cell? ⟨w.heap.size, j, none⟩ = some v ∧ (boxes2 w A B s t ty).frozen? ⟨w.heap.size, j, none⟩ = false := by
  have h1 := cell_new w A s ty _ rfl j
  rw [h] at h1
  have o : Only (fun _ => False) (w.alloc (.cells (bigC A s) ty)) (boxes2 w A B s t ty) := (Only.refl _ _).alloc _
  exact ⟨o.cell' h1 (fun f => f), (o.frozen (p := ⟨w.heap.size, j, none⟩) (by rw [size_alloc]; exact Nat.lt_succ_self _) (fun f => f)).trans (frozen_new w _ ty _ j rfl)⟩
theorem boxes2_two (w : World) (A B : Nat → Nat) (s t : Bool) (ty : TypeId) (j : Nat) (v : Value) (h : (bigC B t)[j]? = some v) : (boxes2 w A B s t ty).cell? ⟨w.heap.size + 1, j, none⟩ = some v ∧ (boxes2 w A B s t ty).frozen? ⟨w.heap.size + 1, j, none⟩ = false := by
  have h1 := cell_new (w.alloc (.cells (bigC A s) ty)) B t ty (w.heap.size + 1) (by rw [size_alloc]) j
  rw [h] at h1
  exact ⟨h1, frozen_new _ _ ty _ j (by rw [size_alloc])⟩
theorem boxes2_size (w : World) (A B : Nat → Nat) (s t : Bool) (ty : TypeId) : (boxes2 w A B s t ty).heap.size = w.heap.size + 2 := by
  unfold boxes2; rw [size_alloc, size_alloc]
theorem boxes2_only (w : World) (A B : Nat → Nat) (s t : Bool) (ty : TypeId) : Only (fun _ => False) w (boxes2 w A B s t ty) := ((Only.refl _ _).alloc _).alloc _

end Go.Proofs.Ytdjiljkdnpmilaa.bigw

namespace Go.Proofs.Ytdjiljkdnpmilaa.bigw
open Go.RowKit mem bigm intm
set_option linter.unusedVariables false

/-- one part put anew -/
def upd (D : Nat → Nat) (p x : Nat) : Nat → Nat := fun j => if j = p then x else D j

theorem val_upd_ge (D : Nat → Nat) (p x k : Nat) (h : k ≤ p) : val (upd D p x) k = val D k := by
  induction k with
  | zero => rfl
  | succ k ih =>
    show val (upd D p x) k + upd D p x k * 4294967296 ^ k = val D k + D k * 4294967296 ^ k
    rw [ih (by omega)]
    unfold upd; rw [if_neg (by omega)]

theorem val_upd (D : Nat → Nat) (p x k : Nat) (h : p < k) : val (upd D p x) k + D p * 4294967296 ^ p = val D k + x * 4294967296 ^ p := by
  induction k with
  | zero => omega
  | succ k ih =>
    show val (upd D p x) k + upd D p x k * 4294967296 ^ k + D p * 4294967296 ^ p = val D k + D k * 4294967296 ^ k + x * 4294967296 ^ p
    by_cases e : p = k
    · subst e
      rw [val_upd_ge D p x p (Nat.le_refl _)]
      unfold upd; rw [if_pos rfl]; omega
    · have h1 := ih (by omega)
      have h2 : upd D p x k = D k := by unfold upd; rw [if_neg (by omega)]
      rw [h2]; omega

/-- the state of the product, row i, place k -/
def Mul (n m i k o : Nat) (D : Nat → Nat) : Prop :=
  (∀ j, D j < 4294967296) ∧ (∀ j, i + 5 ≤ j → D j = 0) ∧ o < 4294967296 ∧ val D 10 + o * 4294967296 ^ (i + k) = val (limb n) i * val (limb m) 5 + limb n i * val (limb m) k * 4294967296 ^ i

theorem mul_place {n m i k o : Nat} {D : Nat → Nat} (h : Mul n m i k o D) (hi : i < 5) (hk : k < 5) :
    D (i + k) + limb n i * limb m k + o ≤ 18446744073709551615 ∧ Mul n m i (k + 1) ((D (i + k) + limb n i * limb m k + o) / 4294967296) (upd D (i + k) ((D (i + k) + limb n i * limb m k + o) % 4294967296)) := by
  obtain ⟨h1, h2, h3, h4⟩ := h
  have hd := h1 (i + k)
  have ha := limb_lt n i
  have hb := limb_lt m k
  have hp : limb n i * limb m k ≤ 4294967295 * 4294967295 := Nat.mul_le_mul (by omega) (by omega)
  refine ⟨by omega, ?_, ?_, ?_, ?_⟩
  · intro j
    unfold upd
    split
    · exact Nat.mod_lt _ (by omega)
    · exact h1 j
  · intro j hj
    unfold upd
    rw [if_neg (by omega)]; exact h2 j hj
  · rw [Nat.div_lt_iff_lt_mul (by omega)]; omega
  · obtain ⟨sv, hsv⟩ : ∃ sv, D (i + k) + limb n i * limb m k + o = sv := ⟨_, rfl⟩
    rw [hsv]
    have hu := val_upd D (i + k) (sv % 4294967296) 10 (by omega)
    have hdm := Nat.div_add_mod sv 4294967296
    have e1 : 4294967296 ^ (i + (k + 1)) = 4294967296 ^ (i + k) * 4294967296 := by rw [← Nat.add_assoc, Nat.pow_succ]
    rw [e1]
    have e2 : val (limb m) (k + 1) = val (limb m) k + limb m k * 4294967296 ^ k := rfl
    rw [e2, Nat.mul_add, Nat.add_mul, ← Nat.add_assoc, ← h4]
    have e3 : limb n i * (limb m k * 4294967296 ^ k) * 4294967296 ^ i = limb n i * limb m k * 4294967296 ^ (i + k) := by
      rw [Nat.pow_add, ← Nat.mul_assoc, Nat.mul_assoc (limb n i * limb m k), Nat.mul_comm (4294967296 ^ k)]
    rw [e3]
    have e4 : sv / 4294967296 * (4294967296 ^ (i + k) * 4294967296) = 4294967296 * (sv / 4294967296) * 4294967296 ^ (i + k) := by
      rw [Nat.mul_comm (4294967296 ^ (i + k)) 4294967296, ← Nat.mul_assoc, Nat.mul_comm (sv / 4294967296) 4294967296]
    rw [e4]
    have e5 : 4294967296 * (sv / 4294967296) * 4294967296 ^ (i + k) + sv % 4294967296 * 4294967296 ^ (i + k) = sv * 4294967296 ^ (i + k) := by
      rw [← Nat.add_mul, hdm]
    have e6 : sv * 4294967296 ^ (i + k) = D (i + k) * 4294967296 ^ (i + k) + limb n i * limb m k * 4294967296 ^ (i + k) + o * 4294967296 ^ (i + k) := by
      rw [← hsv, Nat.add_mul, Nat.add_mul]
    generalize 4294967296 * (sv / 4294967296) * 4294967296 ^ (i + k) = q1 at *
    generalize sv % 4294967296 * 4294967296 ^ (i + k) = q2 at *
    generalize limb n i * limb m k * 4294967296 ^ (i + k) = q3 at *
    generalize D (i + k) * 4294967296 ^ (i + k) = q4 at *
    generalize o * 4294967296 ^ (i + k) = q5 at *
    generalize sv * 4294967296 ^ (i + k) = q6 at *
    generalize val (upd D (i + k) (sv % 4294967296)) 10 = q7 at *
    generalize val D 10 = q8 at *
    clear h4 e1 e2 e3 e4 hdm hsv h1 h2 h3
    omega

/-- a row behind -/
theorem mul_row {n m i o : Nat} {D : Nat → Nat} (h : Mul n m i 5 o D) (hi : i < 5) : Mul n m (i + 1) 0 0 (upd D (i + 5) o) := by
  obtain ⟨h1, h2, h3, h4⟩ := h
  refine ⟨?_, ?_, by omega, ?_⟩
  · intro j
    unfold upd
    split
    · exact h3
    · exact h1 j
  · intro j hj
    unfold upd
    rw [if_neg (by omega)]; exact h2 j (by omega)
  · have hu := val_upd D (i + 5) o 10 (by omega)
    rw [h2 (i + 5) (Nat.le_refl _), Nat.zero_mul, Nat.add_zero] at hu
    rw [hu, h4]
    have e : val (limb n) (i + 1) = val (limb n) i + limb n i * 4294967296 ^ i := rfl
    have e2 : val (limb m) 0 = 0 := rfl
    rw [e, e2, Nat.mul_zero, Nat.zero_mul, Nat.add_zero, Nat.add_zero, Nat.add_mul]
    rw [Nat.mul_assoc (limb n i) (4294967296 ^ i), Nat.mul_comm (4294967296 ^ i), ← Nat.mul_assoc]

theorem mul_start (n m : Nat) : Mul n m 0 0 0 (fun _ => 0) := by
  refine ⟨fun j => by show 0 < _; omega, fun j _ => rfl, by omega, ?_⟩
  have : ∀ k, val (fun _ => 0) k = 0 := by
    intro k; induction k with
    | zero => rfl
    | succ k ih => show val (fun _ => 0) k + 0 * _ = 0; rw [ih, Nat.zero_mul]
  rw [this]
  show _ = 0 * val (limb m) 5 + limb n 0 * 0 * 4294967296 ^ 0
  simp

theorem mul_end {n m : Nat} {D : Nat → Nat} (h : Mul n m 5 0 0 D) (hn : n < 4294967296 ^ 5) (hm : m < 4294967296 ^ 5) : ∀ j, j < 10 → D j = limb (n * m) j := by
  obtain ⟨h1, _, _, h4⟩ := h
  have e2 : val (limb m) 0 = 0 := rfl
  rw [e2, Nat.mul_zero, Nat.zero_mul, Nat.add_zero, Nat.add_zero, val_limb, val_limb, Nat.mod_eq_of_lt hn, Nat.mod_eq_of_lt hm] at h4
  intro j hj
  rw [← h4, limb_val D 10 (fun i _ => h1 i) j hj]

theorem cells_upd {w : World} {D : Nat → Nat} {g p x : Nat} (h : ∀ j, j < 10 → w.cell? ⟨g, j, none⟩ = some (.int .u64 (D j : Int))) (hp : p < 10) : ∀ j, j < 10 → (w.setCell ⟨g, p, none⟩ (.int .u64 (x : Int))).cell? ⟨g, j, none⟩ = some (.int .u64 (upd D p x j : Int)) := by
  intro j hj
  unfold upd
  by_cases e : j = p
  · subst e
    rw [cell_same (h j hj), if_pos rfl]
  · rw [cell_other (off_ne (by omega)), h j hj, if_neg e]

/-- four numbers boxed -/
def boxes4 (w : World) (A B : Nat → Nat) (s t : Bool) (ty : TypeId) : World := (boxes w A B (fun _ => 0) s t false ty).alloc (.cells (bigC (fun _ => 0) false) ty)

/-- what holds at the heads of the product's loops -/
def Head (w wr : World) (n m : Nat) (s t : Bool) (i k o : Nat) : Prop :=
  ∃ D, Mul n m i k o D ∧ (∀ j, j < 10 → wr.cell? ⟨w.heap.size + 1 + 1 + 1, j, none⟩ = some (.int .u64 (D j : Int))) ∧ (∀ j, j < 11 → wr.frozen? ⟨w.heap.size + 1 + 1 + 1, j, none⟩ = false) ∧
    wr.cell? ⟨w.heap.size + 1 + 1 + 1, 10, none⟩ = some (.bool false) ∧ Only (fun q => q = w.heap.size + 1 + 1 + 1) (boxes4 w (limb n) (limb m) s t 123) wr

theorem head_start (w : World) (n m : Nat) (s t : Bool) : Head w (boxes4 w (limb n) (limb m) s t 123) n m s t 0 0 0 := by
  have hs := boxes_size w (limb n) (limb m) (fun _ => 0) s t false 123
  refine ⟨fun _ => 0, mul_start n m, ?_, ?_, ?_, Only.refl _ _⟩
  · intro j hj
    exact (cell_new (boxes w (limb n) (limb m) (fun _ => 0) s t false 123) (fun _ => 0) false _ (w.heap.size + 1 + 1 + 1) (by omega) j).trans (bigC_get _ _ j hj)
  · intro j hj
    exact frozen_new _ _ _ _ j (by omega)
  · exact cell_new (boxes w (limb n) (limb m) (fun _ => 0) s t false 123) (fun _ => 0) false _ (w.heap.size + 1 + 1 + 1) (by omega) 10

theorem head_place {w wr : World} {n m : Nat} {s t : Bool} {i k o : Nat} (h : Head w wr n m s t i k o) (hi : i < 5) (hk : k < 5) : ∃ d : Nat, wr.cell? ⟨w.heap.size + 1 + 1 + 1, i + k, none⟩ = some (.int .u64 (d : Int)) ∧
    d + limb n i * limb m k + o ≤ 18446744073709551615 ∧ Head w ((wr.setCell ⟨w.heap.size + 1 + 1 + 1, i + k, none⟩ (.int .u64 (((d + limb n i * limb m k + o) % 4294967296 : Nat) : Int))).drew) n m s t i (k + 1) ((d + limb n i * limb m k + o) / 4294967296) := by
  obtain ⟨D, h1, h2, h3, h4, h5⟩ := h
  obtain ⟨hb, hM⟩ := mul_place h1 hi hk
  refine ⟨D (i + k), h2 (i + k) (by omega), hb, _, hM, cells_upd h2 (by omega), ?_, ?_, ?_⟩
  · intro j hj
    show (wr.setCell ⟨w.heap.size + 1 + 1 + 1, i + k, none⟩ _).frozen? _ = _
    rw [frozen_set]; exact h3 j hj
  · show (wr.setCell ⟨w.heap.size + 1 + 1 + 1, i + k, none⟩ _).cell? _ = _
    rw [cell_other (off_ne (by omega))]; exact h4
  · exact (h5.setCell (p := ⟨w.heap.size + 1 + 1 + 1, i + k, none⟩) (.inl rfl) _).drew

theorem head_row {w wr : World} {n m : Nat} {s t : Bool} {i o : Nat} (h : Head w wr n m s t i 5 o) (hi : i < 5) : (∃ d : Nat, wr.cell? ⟨w.heap.size + 1 + 1 + 1, i + 5, none⟩ = some (.int .u64 (d : Int))) ∧
    Head w (wr.setCell ⟨w.heap.size + 1 + 1 + 1, i + 5, none⟩ (.int .u64 (o : Int))) n m s t (i + 1) 0 0 := by
  obtain ⟨D, h1, h2, h3, h4, h5⟩ := h
  refine ⟨⟨_, h2 (i + 5) (by omega)⟩, _, mul_row h1 hi, cells_upd h2 (by omega), ?_, ?_, ?_⟩
  · intro j hj
    rw [frozen_set]; exact h3 j hj
  · rw [cell_other (off_ne (by omega))]; exact h4
  · exact h5.setCell (p := ⟨w.heap.size + 1 + 1 + 1, i + 5, none⟩) (.inl rfl) _

theorem head_fr {w wr : World} {n m : Nat} {s t : Bool} {i k o : Nat} (h : Head w wr n m s t i k o) : ∀ j, j < 11 → wr.frozen? ⟨w.heap.size + 1 + 1 + 1, j, none⟩ = false := by
  obtain ⟨D, h1, h2, h3, h4, h5⟩ := h; exact h3
theorem head_only {w wr : World} {n m : Nat} {s t : Bool} {i k o : Nat} (h : Head w wr n m s t i k o) : Only (fun q => q = w.heap.size + 1 + 1 + 1) (boxes w (limb n) (limb m) (fun _ => 0) s t false 123) wr := by
  obtain ⟨D, h1, h2, h3, h4, h5⟩ := h
  have hs := boxes_size w (limb n) (limb m) (fun _ => 0) s t false 123
  exact ((Only.refl _ _).alloc _).trans (⟨h5.os, h5.tape, h5.output, h5.size, h5.block⟩)

theorem mul_small {n m : Nat} (hn : n < 4294967296 ^ 5) (hm : m < 4294967296 ^ 5) : n * m < 4294967296 ^ 10 := by
  have e : (4294967296 : Nat) ^ 10 = 4294967296 ^ 5 * 4294967296 ^ 5 := by rw [← Nat.pow_add]
  rw [e]
  exact Nat.mul_lt_mul_of_lt_of_le hn (Nat.le_of_lt hm) (Nat.pow_pos (by omega))

theorem sb_mul {x y : Int} {n m : Nat} {s t zb : Bool} (h : x.natAbs = n ∧ y.natAbs = m ∧ decide (x < 0) = s ∧ decide (y < 0) = t) (hz : decide (n * m = 0) = zb) : sb (x * y) = big (limb (n * m)) ((s != t) && !zb) := by
  obtain ⟨hn, hm, hs, ht⟩ := h
  unfold sb
  rw [Int.natAbs_mul, hn, hm]
  have e : decide (x * y < 0) = ((s != t) && !zb) := by
    rw [← hz, ← hs, ← ht, ← hn, ← hm]
    by_cases hx0 : x = 0
    · subst hx0; simp
    · by_cases hy0 : y = 0
      · subst hy0; simp
      · have hnz : ¬ (x.natAbs * y.natAbs = 0) := by
          rw [Nat.mul_eq_zero]; omega
        by_cases h1 : x < 0 <;> by_cases h2 : y < 0
        · have : 0 < x * y := Int.mul_pos_of_neg_of_neg h1 h2
          simp [h1, h2]; omega
        · have : x * y < 0 := Int.mul_neg_of_neg_of_pos h1 (by omega)
          simp [h1, h2, this, hnz]
        · have : x * y < 0 := Int.mul_neg_of_pos_of_neg (by omega) h2
          simp [h1, h2, this, hnz]
        · have : 0 < x * y := Int.mul_pos (by omega) (by omega)
          simp [h1, h2]; omega
  rw [e]

end Go.Proofs.Ytdjiljkdnpmilaa.bigw

namespace Go.Proofs.Ytdjiljkdnpmilaa.bigw
open Go.RowKit mem bigm intm
set_option linter.unusedVariables false

theorem of_sb (n : Int) (hn : -9223372036854775808 ≤ n ∧ n ≤ 9223372036854775807) (w : World) :
    Calls Try.prog 70 #[.int .i64 n] w fun e w' => e = .returned (sb n) ∧ Only (fun _ => False) w w' := of_any n hn w

theorem lt9 {k : Nat} (h : k ≤ 85070591730234615865843651857942052864) : k < 4294967296 ^ 9 := Nat.lt_of_le_of_lt h (Nat.le_of_ble_eq_true rfl)
theorem lt10 {k : Nat} (h : k ≤ 85070591730234615865843651857942052864) : k < 4294967296 ^ 10 := Nat.lt_of_le_of_lt h (Nat.le_of_ble_eq_true rfl)
theorem lt5 {k : Nat} (h : k ≤ 85070591730234615865843651857942052864) : k < 4294967296 ^ 5 := Nat.lt_of_le_of_lt h (Nat.le_of_ble_eq_true rfl)

theorem mul_le {a b : Int} (ha : -9223372036854775808 ≤ a ∧ a ≤ 9223372036854775807) (hb : -9223372036854775808 ≤ b ∧ b ≤ 9223372036854775807) : (a * b).natAbs ≤ 85070591730234615865843651857942052864 := by
  rw [Int.natAbs_mul]
  have h1 : a.natAbs ≤ 9223372036854775808 := by omega
  have h2 : b.natAbs ≤ 9223372036854775808 := by omega
  exact Nat.mul_le_mul h1 h2

end Go.Proofs.Ytdjiljkdnpmilaa.bigw

namespace Go.Proofs.Ytdjiljkdnpmilaa.bigw
open Go.RowKit mem bigm intm
set_option linter.unusedVariables false

/-- the upper word of a number -/
def up (n : Int) : Int := if n < 0 then 18446744073709551615 else 0

theorem u64_wrap (n : Int) : IntKind.u64.wrap n = n % 18446744073709551616 := by rfl

theorem sum_le : ∀ (l : List Int), (∀ c ∈ l, -9223372036854775808 ≤ c ∧ c ≤ 9223372036854775807) → -9223372036854775808 * (l.length : Int) ≤ l.sum ∧ l.sum ≤ 9223372036854775808 * (l.length : Int) := by
  intro l
  induction l with
  | nil => intro _; simp
  | cons c l ih =>
    intro h
    have h1 := ih (fun d hd => h d (by simp [hd]))
    have h2 := h c (by simp)
    rw [List.sum_cons, List.length_cons]
    omega

theorem sum_take_succ (l : List Int) (k : Nat) (h : k < l.length) : (l.take (k + 1)).sum = (l.take k).sum + l.getD k 0 := by
  rw [List.take_succ_eq_append_getElem h, List.sum_append]
  simp [List.getD, h]

/-- the two words of a sum on the way -/
def Two (hi lo s : Int) : Prop := 0 ≤ hi ∧ hi < 18446744073709551616 ∧ 0 ≤ lo ∧ lo < 18446744073709551616 ∧ ∃ m : Int, hi * 18446744073709551616 + lo = s + 340282366920938463463374607431768211456 * m

theorem two_step {hi lo s n : Int} (h : Two hi lo s) (hn : -9223372036854775808 ≤ n ∧ n ≤ 9223372036854775807) :
    Two ((hi + up n + (lo + n % 18446744073709551616) / 18446744073709551616) % 18446744073709551616) ((lo + n % 18446744073709551616) % 18446744073709551616) (s + n) := by
  obtain ⟨h1, h2, h3, h4, m, hm⟩ := h
  obtain ⟨q, hq⟩ : ∃ q, (hi + up n + (lo + n % 18446744073709551616) / 18446744073709551616) / 18446744073709551616 = q := ⟨_, rfl⟩
  refine ⟨by omega, by omega, by omega, by omega, m + (if n < 0 then 1 else 0) - q, ?_⟩
  unfold up at hq ⊢
  split <;> simp_all only [if_true, if_false] <;> omega

theorem two_end {hi lo s : Int} (h : Two hi lo s) (hs : -85070591730234615865843651857942052864 ≤ s ∧ s ≤ 85070591730234615865843651857942052864) :
    isInt s = decide (hi = up (wrap64 lo)) ∧ (hi = up (wrap64 lo) → wrap64 lo = s) := by
  obtain ⟨h1, h2, h3, h4, m, hm⟩ := h
  have hw : wrap64 lo = if lo < 9223372036854775808 then lo else lo - 18446744073709551616 := by
    unfold wrap64; split <;> omega
  rw [hw]
  have hiff : (hi = up (if lo < 9223372036854775808 then lo else lo - 18446744073709551616)) ↔ (-9223372036854775808 ≤ s ∧ s ≤ 9223372036854775807) := by
    unfold up; split <;> split <;> omega
  refine ⟨?_, ?_⟩
  · rw [Bool.eq_iff_iff, isInt_iff, decide_eq_true_eq]; exact hiff.symm
  · intro he
    have hb := hiff.1 he
    unfold up at he
    split at he <;> split at he <;> split <;> omega

end Go.Proofs.Ytdjiljkdnpmilaa.bigw

namespace Go.Proofs.Ytdjiljkdnpmilaa.bigw
open Go.RowKit mem bigm intm
set_option linter.unusedVariables false

/-- cells stored one behind the other -/
def puts (g : Nat) : Nat → List Value → World → World
  | _, [], w => w
  | o, v :: vs, w => puts g (o + 1) vs (w.setCell ⟨g, o, none⟩ v)

theorem puts_frozen (g : Nat) : ∀ (vs : List Value) (o : Nat) (w : World) (p : Addr), (puts g o vs w).frozen? p = w.frozen? p := by
  intro vs
  induction vs with
  | nil => intro o w p; rfl
  | cons v vs ih => intro o w p; exact (ih (o + 1) _ p).trans frozen_set

theorem puts_only {S : Nat → Prop} (g : Nat) : ∀ (vs : List Value) (o : Nat) (a w : World), Only S a w → (S g ∨ a.heap.size ≤ g) → Only S a (puts g o vs w) := by
  intro vs
  induction vs with
  | nil => intro o a w h _; exact h
  | cons v vs ih => intro o a w h hg; exact ih (o + 1) a _ (h.setCell (p := ⟨g, o, none⟩) hg v) hg

theorem puts_cell (g : Nat) : ∀ (vs : List Value) (o : Nat) (w : World), (∀ j, j < o + vs.length → ∃ u, w.cell? ⟨g, j, none⟩ = some u) →
    ∀ j v, (j < o ∧ w.cell? ⟨g, j, none⟩ = some v ∨ o ≤ j ∧ vs[j - o]? = some v) → (puts g o vs w).cell? ⟨g, j, none⟩ = some v := by
  intro vs
  induction vs with
  | nil =>
    intro o w h j v hj
    rcases hj with ⟨_, h1⟩ | ⟨_, h1⟩
    · exact h1
    · simp at h1
  | cons x vs ih =>
    intro o w h j v hj
    have hx : ∀ i, i < (o + 1) + vs.length → ∃ u, (w.setCell ⟨g, o, none⟩ x).cell? ⟨g, i, none⟩ = some u := by
      intro i hi
      obtain ⟨u, hu⟩ := h i (by simp; omega)
      by_cases e : i = o
      · subst e; exact ⟨x, cell_same hu⟩
      · exact ⟨u, by rw [cell_other (off_ne (by omega))]; exact hu⟩
    refine ih (o + 1) _ hx j v ?_
    obtain ⟨u, hu⟩ := h o (by simp)
    rcases hj with ⟨h1, h2⟩ | ⟨h1, h2⟩
    · exact .inl ⟨by omega, by rw [cell_other (off_ne (by omega))]; exact h2⟩
    · by_cases e : j = o
      · subst e
        refine .inl ⟨by omega, ?_⟩
        rw [cell_same hu]
        simpa using h2
      · refine .inr ⟨by omega, ?_⟩
        rw [show j - o = (j - (o + 1)) + 1 by omega] at h2
        simpa using h2

/-- the eleven cells of a number -/
def lits (z : Int) : List Value := [.int .u64 (limb z.natAbs 0 : Int), .int .u64 (limb z.natAbs 1 : Int), .int .u64 (limb z.natAbs 2 : Int), .int .u64 (limb z.natAbs 3 : Int), .int .u64 (limb z.natAbs 4 : Int), .int .u64 (limb z.natAbs 5 : Int), .int .u64 (limb z.natAbs 6 : Int), .int .u64 (limb z.natAbs 7 : Int), .int .u64 (limb z.natAbs 8 : Int), .int .u64 (limb z.natAbs 9 : Int), .bool (decide (z < 0))]

theorem sb_lit (z : Int) : sb z = .agg (lits z).toArray := by rfl
theorem sb_lit2 (z : Int) : sb z = .agg #[.int .u64 (limb z.natAbs 0 : Int), .int .u64 (limb z.natAbs 1 : Int), .int .u64 (limb z.natAbs 2 : Int), .int .u64 (limb z.natAbs 3 : Int), .int .u64 (limb z.natAbs 4 : Int), .int .u64 (limb z.natAbs 5 : Int), .int .u64 (limb z.natAbs 6 : Int), .int .u64 (limb z.natAbs 7 : Int), .int .u64 (limb z.natAbs 8 : Int), .int .u64 (limb z.natAbs 9 : Int), .bool (decide (z < 0))] := by rfl

/-- a number's box at the head of a loop -/
def HeadS (w wr : World) (z : Int) : Prop :=
  (∀ j v, (lits z)[j]? = some v → wr.cell? ⟨w.heap.size, j, none⟩ = some v ∧ wr.frozen? ⟨w.heap.size, j, none⟩ = false) ∧ Only (fun _ => False) w wr ∧ w.heap.size < wr.heap.size

theorem heads_put {w wr w2 : World} {z y : Int} (h : HeadS w wr z) (ho : Only (fun _ => False) wr w2) : HeadS w (puts w.heap.size 0 (lits y) w2) y := by
  have hw2 : ∀ j v, (lits z)[j]? = some v → w2.cell? ⟨w.heap.size, j, none⟩ = some v ∧ w2.frozen? ⟨w.heap.size, j, none⟩ = false := fun j v hj =>
    ⟨ho.cell' (h.1 j v hj).1 (fun f => f), (ho.frozen (p := ⟨w.heap.size, j, none⟩) h.2.2 (fun f => f)).trans (h.1 j v hj).2⟩
  have hex : ∀ j, j < 11 → ∃ u, (lits z)[j]? = some u := fun j hj => ⟨(lits z)[j]'hj, List.getElem?_eq_getElem _⟩
  have ho2 := puts_only (S := fun _ => False) w.heap.size (lits y) 0 w w2 (h.2.1.trans ho) (.inr (Nat.le_refl _))
  refine ⟨?_, ho2, ?_⟩
  · intro j v hj
    refine ⟨puts_cell w.heap.size (lits y) 0 w2 ?_ j v (.inr ⟨Nat.zero_le _, by rw [Nat.sub_zero]; exact hj⟩), ?_⟩
    · intro i hi
      obtain ⟨u, hu⟩ := hex i (by rw [Nat.zero_add] at hi; exact hi)
      exact ⟨u, (hw2 i u hu).1⟩
    · rw [puts_frozen]
      have hlt : j < 11 := by
        rcases Nat.lt_or_ge j 11 with g | g
        · exact g
        · rw [List.getElem?_eq_none (show (lits y).length ≤ j from g)] at hj; cases hj
      obtain ⟨u, hu⟩ := hex j hlt
      exact (hw2 j u hu).2
  · have := (puts_only (S := fun _ => True) w.heap.size (lits y) 0 w2 w2 (Only.refl _ _) (.inl trivial)).size
    have h3 := ho.size
    have h4 := h.2.2
    omega

theorem sb_zero : sb 0 = .agg #[.int .u64 0, .int .u64 0, .int .u64 0, .int .u64 0, .int .u64 0, .int .u64 0, .int .u64 0, .int .u64 0, .int .u64 0, .int .u64 0, .bool false] := by rfl

theorem heads_start (w : World) : HeadS w (w.alloc (.cells #[.int .u64 0, .int .u64 0, .int .u64 0, .int .u64 0, .int .u64 0, .int .u64 0, .int .u64 0, .int .u64 0, .int .u64 0, .int .u64 0, .bool false] 123)) 0 := by
  refine ⟨fun j v hj => ⟨?_, ?_⟩, (Only.refl _ _).alloc _, by rw [size_alloc]; omega⟩
  · have h := cell_new w (fun _ => 0) false 123 _ rfl j
    refine h.trans ?_
    rw [← hj, show bigC (fun _ => 0) false = (lits 0).toArray from rfl, List.getElem?_toArray]
  · exact frozen_new w _ _ _ j rfl

set_option maxRecDepth 100000 in
set_option maxHeartbeats 1000000 in
theorem rsum_any (a : Option Addr) (len cap : Nat) (l : List Int) (w : World) (h : ReadsI w a len l) :
    Calls Try.prog 62 #[.slice a len cap] w fun e w' => e = .returned (.tuple #[.int .i64 (intOr l.sum), .bool (isInt l.sum)]) ∧ Only (fun _ => False) w w' := by
  have H := Lib.hid h
  have hm := h.2.1
  unfold maxLen at hm
  clear h
  have HB : Hid (∀ k, k ≤ len → (l.take k).sum.natAbs ≤ 85070591730234615865843651857942052864) := Lib.hid (by
    intro k hk
    have := sum_le (l.take k) (fun c hc => H.out.2.2.1 c (List.mem_of_mem_take hc))
    have hl := H.out.1
    have h2 : (l.take k).length = k := by simp; omega
    rw [h2] at this
    omega)
  go_enter Try.func62, Try.ntmps62
  go_wp2_with fail
  go_loopw [5] (fun i wr => ∃ k : Nat, k ≤ len ∧ i = .int .i64 k ∧ Hid (HeadS w wr (l.take k).sum)) (fun i _ => len - (intOf i).toNat)
  case atStart => exact ⟨0, by omega, rfl, Lib.hid (heads_start w)⟩
  case round =>
    obtain ⟨k, hk, rfl, HH⟩ := hrel
    by_cases h8 : k < len
    · obtain ⟨b, off, rfl, hcell⟩ := H.out.2.2.2.resolve_left (by omega)
      have hcl := HH.out.2.1.cell' (hcell k h8) (fun f => f)
      have HS : Hid ((l.take (k + 1)).sum = (l.take k).sum + l.getD k 0) := Lib.hid (sum_take_succ l k (by rw [H.out.1]; exact h8))
      have HX := Lib.hid (in_getD l H.out.2.2.1 k)
      have HS0 := Lib.hid (HB.out k hk)
      clear hcell
      generalize l.getD k 0 = n at *
      generalize hS : (l.take k).sum = S at *
      generalize hS' : (l.take (k + 1)).sum = S' at *
      have c0 := (HH.out.1 0 (.int .u64 (limb S.natAbs 0 : Int)) rfl).1
      have c1 := (HH.out.1 1 (.int .u64 (limb S.natAbs 1 : Int)) rfl).1
      have c2 := (HH.out.1 2 (.int .u64 (limb S.natAbs 2 : Int)) rfl).1
      have c3 := (HH.out.1 3 (.int .u64 (limb S.natAbs 3 : Int)) rfl).1
      have c4 := (HH.out.1 4 (.int .u64 (limb S.natAbs 4 : Int)) rfl).1
      have c5 := (HH.out.1 5 (.int .u64 (limb S.natAbs 5 : Int)) rfl).1
      have c6 := (HH.out.1 6 (.int .u64 (limb S.natAbs 6 : Int)) rfl).1
      have c7 := (HH.out.1 7 (.int .u64 (limb S.natAbs 7 : Int)) rfl).1
      have c8 := (HH.out.1 8 (.int .u64 (limb S.natAbs 8 : Int)) rfl).1
      have c9 := (HH.out.1 9 (.int .u64 (limb S.natAbs 9 : Int)) rfl).1
      have c10 := (HH.out.1 10 (.bool (decide (S < 0))) rfl).1
      have z0 := (HH.out.1 0 _ rfl).2
      have z1 := (HH.out.1 1 _ rfl).2
      have z2 := (HH.out.1 2 _ rfl).2
      have z3 := (HH.out.1 3 _ rfl).2
      have z4 := (HH.out.1 4 _ rfl).2
      have z5 := (HH.out.1 5 _ rfl).2
      have z6 := (HH.out.1 6 _ rfl).2
      have z7 := (HH.out.1 7 _ rfl).2
      have z8 := (HH.out.1 8 _ rfl).2
      have z9 := (HH.out.1 9 _ rfl).2
      have z10 := (HH.out.1 10 _ rfl).2
      have HNN : Hid (n.natAbs ≤ 85070591730234615865843651857942052864) := Lib.hid (by have := HX.out; omega)
      go_wp2_with fail
      go_region_with (first | (go_at_call 70; refine (of_sb n HX.out _).mono ?_; rintro e1 w6 ⟨rfl, hO6⟩; have HH6 := hO6; have d0 := hO6.cell' c0 (fun f => f); have d1 := hO6.cell' c1 (fun f => f); have d2 := hO6.cell' c2 (fun f => f); have d3 := hO6.cell' c3 (fun f => f); have d4 := hO6.cell' c4 (fun f => f); have d5 := hO6.cell' c5 (fun f => f); have d6 := hO6.cell' c6 (fun f => f); have d7 := hO6.cell' c7 (fun f => f); have d8 := hO6.cell' c8 (fun f => f); have d9 := hO6.cell' c9 (fun f => f); have d10 := hO6.cell' c10 (fun f => f)) | (go_at_call 69; refine (plus_any S n (lt9 HS0.out) (lt9 HNN.out) _).mono ?_; rintro e2 w7 ⟨rfl, hO7⟩; rw [sb_lit2]; have HO67 := hO6.trans hO7; have x0 := hO7.cell' d0 (fun f => f); have x1 := hO7.cell' d1 (fun f => f); have x2 := hO7.cell' d2 (fun f => f); have x3 := hO7.cell' d3 (fun f => f); have x4 := hO7.cell' d4 (fun f => f); have x5 := hO7.cell' d5 (fun f => f); have x6 := hO7.cell' d6 (fun f => f); have x7 := hO7.cell' d7 (fun f => f); have x8 := hO7.cell' d8 (fun f => f); have x9 := hO7.cell' d9 (fun f => f); have x10 := hO7.cell' d10 (fun f => f); have y0 := (HO67.frozen (p := ⟨w.heap.size, 0, none⟩) HH.out.2.2 (fun f => f)).trans z0; have y1 := (HO67.frozen (p := ⟨w.heap.size, 1, none⟩) HH.out.2.2 (fun f => f)).trans z1; have y2 := (HO67.frozen (p := ⟨w.heap.size, 2, none⟩) HH.out.2.2 (fun f => f)).trans z2; have y3 := (HO67.frozen (p := ⟨w.heap.size, 3, none⟩) HH.out.2.2 (fun f => f)).trans z3; have y4 := (HO67.frozen (p := ⟨w.heap.size, 4, none⟩) HH.out.2.2 (fun f => f)).trans z4; have y5 := (HO67.frozen (p := ⟨w.heap.size, 5, none⟩) HH.out.2.2 (fun f => f)).trans z5; have y6 := (HO67.frozen (p := ⟨w.heap.size, 6, none⟩) HH.out.2.2 (fun f => f)).trans z6; have y7 := (HO67.frozen (p := ⟨w.heap.size, 7, none⟩) HH.out.2.2 (fun f => f)).trans z7; have y8 := (HO67.frozen (p := ⟨w.heap.size, 8, none⟩) HH.out.2.2 (fun f => f)).trans z8; have y9 := (HO67.frozen (p := ⟨w.heap.size, 9, none⟩) HH.out.2.2 (fun f => f)).trans z9; have y10 := (HO67.frozen (p := ⟨w.heap.size, 10, none⟩) HH.out.2.2 (fun f => f)).trans z10))
      all_goals
        have HN : Hid (HeadS w (puts w.heap.size 0 (lits (S + n)) w7) (l.take (k + 1)).sum) := Lib.hid (by rw [hS', HS.out]; exact heads_put HH.out (((Only.refl _ _).drew).trans HO67))
        clear c0 c1 c2 c3 c4 c5 c6 c7 c8 c9 c10 d0 d1 d2 d3 d4 d5 d6 d7 d8 d9 d10 z0 z1 z2 z3 z4 z5 z6 z7 z8 z9 z10 x0 x1 x2 x3 x4 x5 x6 x7 x8 x9 x10 y0 y1 y2 y3 y4 y5 y6 y7 y8 y9 y10 hcl HH6 hO6 hO7 HO67
        go_wp2_with fail
        go_roundw
        case rel => exact ⟨k + 1, by omega, by go_num, HN⟩
        case measure => simp [intOf]; omega
    · obtain rfl : k = len := by omega
      have hS : (l.take k).sum = l.sum := by rw [List.take_of_length_le (by rw [H.out.1]; omega)]
      have HS0 := Lib.hid (HB.out k hk)
      rw [hS] at HH HS0
      generalize hSS : l.sum = S at *
      have c0 := (HH.out.1 0 (.int .u64 (limb S.natAbs 0 : Int)) rfl).1
      have c1 := (HH.out.1 1 (.int .u64 (limb S.natAbs 1 : Int)) rfl).1
      have c2 := (HH.out.1 2 (.int .u64 (limb S.natAbs 2 : Int)) rfl).1
      have c3 := (HH.out.1 3 (.int .u64 (limb S.natAbs 3 : Int)) rfl).1
      have c4 := (HH.out.1 4 (.int .u64 (limb S.natAbs 4 : Int)) rfl).1
      have c5 := (HH.out.1 5 (.int .u64 (limb S.natAbs 5 : Int)) rfl).1
      have c6 := (HH.out.1 6 (.int .u64 (limb S.natAbs 6 : Int)) rfl).1
      have c7 := (HH.out.1 7 (.int .u64 (limb S.natAbs 7 : Int)) rfl).1
      have c8 := (HH.out.1 8 (.int .u64 (limb S.natAbs 8 : Int)) rfl).1
      have c9 := (HH.out.1 9 (.int .u64 (limb S.natAbs 9 : Int)) rfl).1
      have c10 := (HH.out.1 10 (.bool (decide (S < 0))) rfl).1
      go_wp2_with fail
      refine (bint_any S (lt10 HS0.out) _).mono ?_
      rintro e1 w1 ⟨rfl, hO⟩
      have HO := Lib.hid (HH.out.2.1.trans hO)
      clear hO c0 c1 c2 c3 c4 c5 c6 c7 c8 c9 c10
      go_wp2_with fail
      rw [hSS]
      go_ret2
      exact ⟨rfl, HO.out⟩

end Go.Proofs.Ytdjiljkdnpmilaa.bigw

namespace Go.Proofs.Ytdjiljkdnpmilaa.opu
open Go.RowKit mem
def intV : Option Value → Int
  | some (.int _ n) => n
  | _ => 0
open Go.ChangeShapes Go.WideShapes Go.ChangeAt
set_option linter.unusedVariables false
section
variable {H : Type} {enc : TypeId × Value → H} {w : World} {base : Nat}
set_option maxRecDepth 100000 in
theorem ints_open {fuel : Nat} {ao : Option Addr} {len cap : Nat} {x : DataW H × List MemPlace} (h : DataW.trod enc Try.prog w base (fun _ => true) true fuel 22 [.slice ao len cap] = some x) : ∃ l, IntsR w ao len cap l := by
  rcases Go.Deep.open_slice Try.underlying22 h with ⟨hcs, _⟩ | ⟨a, len2, cap2, m, n, D, Pq, hcs, hb, hl, hm, hmm, hx, hi⟩
  · simp at hcs
    obtain ⟨rfl, rfl, rfl⟩ := hcs
    exact ⟨[], ⟨rfl, by unfold maxLen; omega, (fun c hc => by cases hc), .inl rfl⟩, by omega, by unfold maxLen; omega, fun _ => rfl⟩
  · simp at hcs
    obtain ⟨rfl, rfl, rfl⟩ := hcs
    simp at hmm
    have hC : Try.prog.cellsOf 3 = 1 := by kernel_rfl
    rw [hC] at hi
    have key : ∀ i, i < len → ∃ y : Int, (-9223372036854775808 ≤ y ∧ y ≤ 9223372036854775807) ∧ w.cell? (a.add i) = some (.int .i64 y) := by
      intro i hil
      obtain ⟨cs', hc, ht'⟩ := hi i (by omega)
      obtain ⟨y, hy, _, wy⟩ := DataW.trod_int Try.underlying3 ht'
      obtain ⟨_, hcl, hat⟩ := World.cells?_some hc
      subst hy
      have := hat 0 (by simp)
      rw [Nat.mul_one, Addr.add_zero'] at this
      exact ⟨y, mem.int_of_wf wy, by simpa using this⟩
    by_cases h0 : len = 0
    · subst h0
      exact ⟨[], ⟨rfl, by unfold maxLen; omega, (fun c hc => by cases hc), .inl rfl⟩, hl, hm, fun e => by cases e⟩
    · obtain ⟨b, off, spot⟩ := a
      obtain ⟨y0, _, d0⟩ := key 0 (by omega)
      have hspot : spot = none := by simpa [Addr.add] using World.cell?_spot d0
      subst hspot
      refine ⟨(List.range len).map (fun i => intV (w.cell? ⟨b, off + i, none⟩)), ⟨by simp, by omega, fun c hc => ?_, .inr ⟨b, off, rfl, fun i hil => ?_⟩⟩, hl, hm, fun e => by cases e⟩
      · obtain ⟨i, hi', rfl⟩ := List.mem_map.1 hc
        obtain ⟨y, hin, d⟩ := key i (List.mem_range.1 hi')
        rw [add_none] at d
        rw [d]
        exact hin
      · obtain ⟨y, hin, d⟩ := key i hil
        rw [add_none] at d
        have e : ((List.range len).map (fun i => intV (w.cell? ⟨b, off + i, none⟩))).getD i 0 = y := by
          rw [List.getD_eq_getElem?_getD, List.getElem?_map, List.getElem?_range hil]
          show intV _ = y
          rw [d]; rfl
        rw [e]
        exact d
end
end Go.Proofs.Ytdjiljkdnpmilaa.opu

namespace Go.Proofs.Ytdjiljkdnpmilaa.entw
open Go.RowKit mem entm
open Go.ChangeShapes Go.WideShapes Go.ChangeAt
set_option linter.unusedVariables false

/-- the int of a value -/
def intV : Option Value → Int
  | some (.int _ n) => n
  | _ => 0

section
variable {H : Type} {enc : TypeId × Value → H} {w : World} {base : Nat}

set_option maxRecDepth 100000 in
theorem legs_open {fuel : Nat} {ao : Option Addr} {len cap : Nat} {x : DataW H × List MemPlace} (h : DataW.trod enc Try.prog w base (fun _ => true) true fuel 31 [.slice ao len cap] = some x) : ∃ ls, LegsR w ao len cap ls := by
  rcases Go.Deep.open_slice Try.underlying31 h with ⟨hcs, _⟩ | ⟨a, len2, cap2, m, n, D, Pl, hcs, hb, hl, hm, hmm, hx, hi⟩
  · simp at hcs
    obtain ⟨rfl, rfl, rfl⟩ := hcs
    exact ⟨[], ReadsL.nil _ _, by omega, by omega, fun _ => rfl⟩
  · simp at hcs
    obtain ⟨rfl, rfl, rfl⟩ := hcs
    unfold maxLen at hm
    simp at hmm
    have hC : Try.prog.cellsOf 68 = 4 := by kernel_rfl
    rw [hC] at hi
    have key : ∀ i, i < len → ∃ l : Lg, InL l ∧ w.cell? ((a.add (i * 4)).add 0) = some (.int .i64 l.k) ∧ w.cell? ((a.add (i * 4)).add 1) = some (.int .i64 l.n) ∧ w.cell? ((a.add (i * 4)).add 2) = some (.int .i64 l.g) ∧ w.cell? ((a.add (i * 4)).add 3) = some (.int .i64 l.a) := by
      intro i hil
      obtain ⟨cs', hc, ht'⟩ := hi i (by omega)
      obtain ⟨ys, n', _, _, hlen, hyl, hf⟩ := DataW.trod_struct Try.underlying68 ht'
      obtain ⟨_, hcl, hat⟩ := World.cells?_some hc
      match cs', ys, hcl, hyl, hat, hf with
      | [c0, c1, c2, c3], [y0, y1, y2, y3], _, _, hat, hf =>
        have f0 := hf 0 _ rfl
        have f1 := hf 1 _ rfl
        have f2 := hf 2 _ rfl
        have f3 := hf 3 _ rfl
        have o3 : Try.prog.cellsOf 3 = 1 := by kernel_rfl
        simp [o3] at f0 f1 f2 f3
        obtain ⟨k0, hk0, _, w0⟩ := DataW.trod_int Try.underlying3 f0
        obtain ⟨k1, hk1, _, w1⟩ := DataW.trod_int Try.underlying3 f1
        obtain ⟨k2, hk2, _, w2⟩ := DataW.trod_int Try.underlying3 f2
        obtain ⟨k3, hk3, _, w3⟩ := DataW.trod_int Try.underlying3 f3
        simp at hk0 hk1 hk2 hk3
        subst hk0 hk1 hk2 hk3
        exact ⟨⟨k0, k1, k2, k3⟩, ⟨int_of_wf w0, int_of_wf w1, int_of_wf w2, int_of_wf w3⟩, by simpa using hat 0 (by omega), by simpa using hat 1 (by omega), by simpa using hat 2 (by omega), by simpa using hat 3 (by omega)⟩
    by_cases h0 : len = 0
    · subst h0
      exact ⟨[], ReadsL.nil _ _, hl, hm, fun e => by cases e⟩
    · obtain ⟨b, off, spot⟩ := a
      obtain ⟨l0, _, d0, _⟩ := key 0 (by omega)
      have hspot : spot = none := by simpa [Addr.add] using World.cell?_spot d0
      subst hspot
      refine ⟨(List.range len).map (fun i => ⟨intV (w.cell? ⟨b, off + i * 4, none⟩), intV (w.cell? ⟨b, off + i * 4 + 1, none⟩), intV (w.cell? ⟨b, off + i * 4 + 2, none⟩), intV (w.cell? ⟨b, off + i * 4 + 3, none⟩)⟩), ⟨by simp, by omega, ?_, .inr ⟨b, off, rfl, fun i hil => ?_⟩⟩, hl, hm, fun e => by cases e⟩
      · intro l hl'
        obtain ⟨i, hi', rfl⟩ := List.mem_map.1 hl'
        obtain ⟨l1, hin, d0, d1, d2, d3⟩ := key i (List.mem_range.1 hi')
        rw [add_none, add_none] at d0 d1 d2 d3
        rw [Nat.add_zero] at d0
        rw [d0, d1, d2, d3]
        exact hin
      · obtain ⟨l1, hin, d0, d1, d2, d3⟩ := key i hil
        rw [add_none, add_none] at d0 d1 d2 d3
        rw [Nat.add_zero] at d0
        have e : ((List.range len).map (fun i => (⟨intV (w.cell? ⟨b, off + i * 4, none⟩), intV (w.cell? ⟨b, off + i * 4 + 1, none⟩), intV (w.cell? ⟨b, off + i * 4 + 2, none⟩), intV (w.cell? ⟨b, off + i * 4 + 3, none⟩)⟩ : Lg))).getD i default = l1 := by
          rw [List.getD_eq_getElem?_getD, List.getElem?_map, List.getElem?_range hil]
          show (⟨_, _, _, _⟩ : Lg) = l1
          rw [d0, d1, d2, d3]; rfl
        rw [e]
        exact ⟨d0, d1, d2, d3⟩

set_option maxRecDepth 100000 in
theorem entry_open {fuel : Nat} {cs : Array Value} (hsz : cs.size = 2) {x : DataW H × List MemPlace} (h : DataW.trod enc Try.prog w base (fun _ => true) true fuel 33 (Value.agg cs).cells.toList = some x) : ∃ kind ao len cap ls, cs = #[.int .i64 kind, .slice ao len cap] ∧ LegsR w ao len cap ls := by
  obtain ⟨ys, n', _, _, hlen, hyl, hf⟩ := DataW.trod_struct Try.underlying33 h
  obtain ⟨l⟩ := cs
  match l, ys, hsz, hyl, hf with
  | [c0, c1], [y0, y1], _, _, hf =>
    have f0 := hf 0 _ rfl
    have f1 := hf 1 _ rfl
    have o3 : Try.prog.cellsOf 3 = 1 := by kernel_rfl
    have o4 : Try.prog.cellsOf 31 = 1 := by kernel_rfl
    simp [o3, Value.cells] at f0
    simp [o4, Value.cells] at f1
    obtain ⟨k0, hk0, _, w0⟩ := DataW.trod_int Try.underlying3 f0
    simp at hk0
    subst hk0
    rcases Go.Deep.open_slice Try.underlying31 f1 with ⟨hcs, _⟩ | ⟨a, len2, cap2, m, n, D, Pl, hcs, _⟩
    · simp at hcs
      subst hcs
      obtain ⟨ls, hl⟩ := legs_open f1
      exact ⟨k0, none, 0, 0, ls, rfl, hl⟩
    · simp at hcs
      subst hcs
      obtain ⟨ls, hl⟩ := legs_open f1
      exact ⟨k0, some a, len2, cap2, ls, rfl, hl⟩
end
end Go.Proofs.Ytdjiljkdnpmilaa.entw

namespace Go.Proofs.Ytdjiljkdnpmilaa.jnw
open Go.RowKit mem accm accn entw entm
open Go.ChangeShapes Go.WideShapes Go.ChangeAt
set_option linter.unusedVariables false
/-- a job as it stands in memory -/
structure JbD where
  what : Int
  kind : Int
  amt : Int
  pa : Option Addr
  pn : Nat
  pc : Nat
  pl : List Int
  grp : Int
  rk : Int
  la : Option Addr
  ln : Nat
  lc : Nat
  ll : List Lg
def JbD.v (d : JbD) : Value := .agg #[.int .i64 d.what, .int .i64 d.kind, .int .i64 d.amt, .slice d.pa d.pn d.pc, .int .i64 d.grp, .int .i64 d.rk, .slice d.la d.ln d.lc]
def JbIn (w : World) (d : JbD) : Prop := ReadsI w d.pa d.pn d.pl ∧ d.pn ≤ d.pc ∧ (d.pa = none → d.pc = 0) ∧ InI d.grp ∧ LegsR w d.la d.ln d.lc d.ll
def JbAt (w : World) (b o : Nat) (d : JbD) : Prop :=
  w.cell? ⟨b, o, none⟩ = some (.int .i64 d.what) ∧ w.cell? ⟨b, o + 1, none⟩ = some (.int .i64 d.kind) ∧ w.cell? ⟨b, o + 2, none⟩ = some (.int .i64 d.amt) ∧ w.cell? ⟨b, o + 3, none⟩ = some (.slice d.pa d.pn d.pc) ∧ w.cell? ⟨b, o + 4, none⟩ = some (.int .i64 d.grp) ∧ w.cell? ⟨b, o + 5, none⟩ = some (.int .i64 d.rk) ∧ w.cell? ⟨b, o + 6, none⟩ = some (.slice d.la d.ln d.lc)
def RowJ (w : World) (a : Option Addr) (len : Nat) : Prop := len ≤ maxLen ∧ (len = 0 ∨ ∃ b off, a = some ⟨b, off, none⟩ ∧ ∀ i, i < len → ∃ d, JbAt w b (off + i * 7) d ∧ JbIn w d)
theorem ReadsI.keepJ {b : Nat} {w w' : World} {a : Option Addr} {n : Nat} {l : List Int} (h : ReadsI w a n l) (hb : w.heap.size ≤ b) (ho : Only (fun q => b ≤ q) w w') : ReadsI w' a n l := by
  obtain ⟨h1, h2, h3, h0 | ⟨g, off, rfl, hc⟩⟩ := h
  · exact ⟨h1, h2, h3, .inl h0⟩
  · refine ⟨h1, h2, h3, .inr ⟨g, off, rfl, fun i hi => ho.cell' (hc i hi) (fun q => ?_)⟩⟩
    have := World.block_lt_of_cell? w _ (hc i hi)
    simp only at this q
    omega
theorem ReadsL.keepJ {b : Nat} {w w' : World} {a : Option Addr} {n : Nat} {l : List Lg} (h : ReadsL w a n l) (hb : w.heap.size ≤ b) (ho : Only (fun q => b ≤ q) w w') : ReadsL w' a n l :=
  readsL_keep h ho (fun y e h0 q => by have := readsL_block h e h0; omega)
theorem JbIn.keep {b : Nat} {w w' : World} {d : JbD} (h : JbIn w d) (hb : w.heap.size ≤ b) (ho : Only (fun q => b ≤ q) w w') : JbIn w' d :=
  ⟨ReadsI.keepJ h.1 hb ho, h.2.1, h.2.2.1, h.2.2.2.1, ReadsL.keepJ h.2.2.2.2.1 hb ho, h.2.2.2.2.2⟩
theorem JbAt.keep {b : Nat} {w w' : World} {p o : Nat} {d : JbD} (h : JbAt w p o d) (hb : w.heap.size ≤ b) (ho : Only (fun q => b ≤ q) w w') : JbAt w' p o d := by
  have hp : ¬ b ≤ p := by have := World.block_lt_of_cell? w _ h.1; simp only at this; omega
  obtain ⟨h0, h1, h2, h3, h4, h5, h6⟩ := h
  exact ⟨ho.cell' h0 hp, ho.cell' h1 hp, ho.cell' h2 hp, ho.cell' h3 hp, ho.cell' h4 hp, ho.cell' h5 hp, ho.cell' h6 hp⟩
section
variable {H : Type} {enc : TypeId × Value → H} {w : World} {base : Nat}
set_option maxRecDepth 100000 in
theorem job_open {fuel : Nat} {cs : Array Value} (hsz : cs.size = 7) {x : DataW H × List MemPlace} (h : DataW.trod enc Try.prog w base (fun _ => true) true fuel 63 (Value.agg cs).cells.toList = some x) : ∃ d : JbD, Value.agg cs = d.v ∧ JbIn w d := by
  obtain ⟨ys, n', _, _, hlen, hyl, hf⟩ := DataW.trod_struct Try.underlying63 h
  obtain ⟨l⟩ := cs
  match l, ys, hsz, hyl, hf with
  | [c0, c1, c2, c3, c4, c5, c6], [y0, y1, y2, y3, y4, y5], _, _, hf =>
    have f0 := hf 0 _ rfl
    have f1 := hf 1 _ rfl
    have f2 := hf 2 _ rfl
    have f3 := hf 3 _ rfl
    have f4 := hf 4 _ rfl
    have f5 := hf 5 _ rfl
    have o1 : Try.prog.cellsOf 3 = 1 := by kernel_rfl
    have o2 : Try.prog.cellsOf 22 = 1 := by kernel_rfl
    have o3 : Try.prog.cellsOf 31 = 1 := by kernel_rfl
    have o4 : Try.prog.cellsOf 33 = 2 := by kernel_rfl
    simp [o1, o2, o4, Value.cells] at f0 f1 f2 f3 f4 f5
    obtain ⟨k0, hk0, _, _⟩ := DataW.trod_int Try.underlying3 f0
    obtain ⟨k1, hk1, _, _⟩ := DataW.trod_int Try.underlying3 f1
    obtain ⟨k2, hk2, _, _⟩ := DataW.trod_int Try.underlying3 f2
    obtain ⟨k4, hk4, _, w4⟩ := DataW.trod_int Try.underlying3 f4
    obtain ⟨p3, n3, q3, e3⟩ : ∃ a n c, c3 = .slice a n c := by
      rcases Go.Deep.open_slice Try.underlying22 f3 with ⟨hcs, _⟩ | ⟨a, len2, cap2, m, n, D, Pq, hcs, _⟩
      · exact ⟨_, _, _, by simpa using hcs⟩
      · exact ⟨_, _, _, by simpa using hcs⟩
    subst e3
    have hnil : p3 = none → q3 = 0 := by
      rcases Go.Deep.open_slice Try.underlying22 f3 with ⟨hcs, _⟩ | ⟨a, len2, cap2, m, n, D, Pq, hcs, _⟩
      · simp at hcs; exact fun _ => hcs.2.2
      · simp at hcs; intro e; rw [hcs.1] at e; cases e
    obtain ⟨l3, r3⟩ := opu.ints_open f3
    obtain ⟨zs, n6, _, _, hlen6, hzl, hg⟩ := DataW.trod_struct Try.underlying33 f5
    match zs, hzl, hg with
    | [z0, z1], _, hg =>
      have g0 := hg 0 _ rfl
      have g1 := hg 1 _ rfl
      simp [o1, o3] at g0 g1
      obtain ⟨j0, hj0, _, _⟩ := DataW.trod_int Try.underlying3 g0
      obtain ⟨p6, n6, q6, e6⟩ : ∃ a n c, c6 = .slice a n c := by
        rcases Go.Deep.open_slice Try.underlying31 g1 with ⟨hcs, _⟩ | ⟨a, len2, cap2, m, n, D, Pq, hcs, _⟩
        · exact ⟨_, _, _, by simpa using hcs⟩
        · exact ⟨_, _, _, by simpa using hcs⟩
      subst e6
      obtain ⟨l6, r6⟩ := entw.legs_open g1
      simp at hk0 hk1 hk2 hk4 hj0
      subst hk0 hk1 hk2 hk4 hj0
      exact ⟨⟨k0, k1, k2, p3, n3, q3, l3, k4, j0, p6, n6, q6, l6⟩, rfl, r3.1, r3.2.1, hnil, int_of_wf w4, r6⟩
set_option maxRecDepth 100000 in
theorem jobs_open {fuel : Nat} {ao : Option Addr} {len cap : Nat} {x : DataW H × List MemPlace} (h : DataW.trod enc Try.prog w base (fun _ => true) true fuel 42 [.slice ao len cap] = some x) : RowJ w ao len := by
  rcases Go.Deep.open_slice Try.underlying42 h with ⟨hcs, _⟩ | ⟨a, len2, cap2, m, n, D, Pq, hcs, hb, hl, hm, hmm, hx, hi⟩
  · simp at hcs
    obtain ⟨rfl, rfl, rfl⟩ := hcs
    exact ⟨by unfold maxLen; omega, .inl rfl⟩
  · simp at hcs
    obtain ⟨rfl, rfl, rfl⟩ := hcs
    simp at hmm
    have hC : Try.prog.cellsOf 63 = 7 := by kernel_rfl
    rw [hC] at hi
    have key : ∀ i, i < len → ∃ d : JbD, (∀ c, c < 7 → w.cell? ((a.add (i * 7)).add c) = d.v.cells.toList[c]?) ∧ JbIn w d := by
      intro i hil
      obtain ⟨cs', hc, ht'⟩ := hi i (by omega)
      obtain ⟨_, hcl, hat⟩ := World.cells?_some hc
      obtain ⟨d, e, hd⟩ := job_open (cs := cs'.toArray) (by simpa using hcl) (by simpa [Value.cells] using ht')
      refine ⟨d, fun c hc' => ?_, hd⟩
      rw [hat c (by omega), ← e]
      simp [Value.cells]
    by_cases h0 : len = 0
    · subst h0
      exact ⟨by unfold maxLen; omega, .inl rfl⟩
    · obtain ⟨b, off, spot⟩ := a
      obtain ⟨d0, k0, _⟩ := key 0 (by omega)
      have hs0 := k0 0 (by omega)
      have hspot : spot = none := by
        have h9 : w.cell? (((⟨b, off, spot⟩ : Addr).add (0 * 7)).add 0) = some (.int .i64 d0.what) := hs0
        simpa [Addr.add] using World.cell?_spot h9
      subst hspot
      refine ⟨by omega, .inr ⟨b, off, rfl, fun i hil => ?_⟩⟩
      obtain ⟨d, hc, hd⟩ := key i hil
      have g : ∀ c, c < 7 → w.cell? ⟨b, off + i * 7 + c, none⟩ = d.v.cells.toList[c]? := fun c hc' => by
        have := hc c hc'
        rwa [mem.add_none, mem.add_none] at this
      exact ⟨d, ⟨g 0 (by omega), g 1 (by omega), g 2 (by omega), g 3 (by omega), g 4 (by omega), g 5 (by omega), g 6 (by omega)⟩, hd⟩
end
end Go.Proofs.Ytdjiljkdnpmilaa.jnw

namespace Go.Proofs.Ytdjiljkdnpmilaa.jnw
open Go.RowKit mem accm accn entw entm acck
set_option linter.unusedVariables false

/-- a journal that came of posts and closes alone -/
def Jn (p : Nat) (most : Nat) (wx : World) : Prop := ∃ (op : Nat) (v : Value) (m : Option Nat) (nn : Nat) (C : Ac → Option (List Int)) (L : List Ps) (K : List Ac), JnAt (fun q => p ≤ q) wx p v op m nn C L ∧ L.length ≤ most ∧ InvK C K 0 ∧ InvR C op
theorem Jn.quiet {p most : Nat} {w w' : World} (h : Jn p most w) (ho : Only (fun _ => False) w w') : Jn p most w' := by
  obtain ⟨op, v, m, nn, C, L, K, h1, h2⟩ := h
  exact ⟨op, v, m, nn, C, L, K, h1.quiet ho, h2⟩
theorem Jn.mono {p most most' : Nat} {w : World} (h : Jn p most w) (hm : most ≤ most') : Jn p most' w := by
  obtain ⟨op, v, m, nn, C, L, K, h1, h2, h3⟩ := h
  exact ⟨op, v, m, nn, C, L, K, h1, Nat.le_trans h2 hm, h3⟩
theorem jn_close (p most : Nat) (w : World) (h : Jn p most w) : Calls Try.prog 14 #[.pointer (some ⟨p, 0, none⟩)] w fun e w' => (∃ k er, e = .returned (.tuple #[.int .i64 k, .int .i64 er])) ∧ Jn p most w' ∧ Only (fun q => q = p) w w' := by
  obtain ⟨op, v, m, nn, C, L, K, h1, h2, h3, h4⟩ := h
  by_cases ho : op < 31
  · refine (close_yes p op v m w h1.jc ho).mono ?_
    rintro _ w' ⟨rfl, hj, ho⟩
    exact ⟨⟨_, _, rfl⟩, ⟨op + 1, v, m, nn, C, L, K, h1.close hj ho, h2, h3, h4.close⟩, ho⟩
  · refine (close_full p op v m w h1.jc (by omega)).mono ?_
    rintro _ w' ⟨rfl, rfl⟩
    exact ⟨⟨_, _, rfl⟩, ⟨op, v, m, nn, C, L, K, h1, h2, h3, h4⟩, Only.refl _ _⟩
theorem jn_post (p most : Nat) (hmost : most < 16384) (kind : Int) (a : Option Addr) (n cap : Nat) (ls : List Lg) (w w0 : World) (h0 : Jn p most w0) (h00 : Only (fun _ => False) w0 w) (hr : ReadsL w a n ls) (ha : ∀ x, a = some x → w0.heap.size ≤ x.block) :
    Calls Try.prog 13 #[.pointer (some ⟨p, 0, none⟩), .agg #[.int .i64 kind, .slice a n cap]] w fun e w' => (∃ k er, e = .returned (.tuple #[.int .i64 k, .int .i64 er])) ∧ Jn p (most + 1) w' ∧ Only (fun q => p ≤ q) w w' := by
  obtain ⟨op, v, m, nn, C, L, K, h1, h2, h3, h4⟩ := h0
  have h5 : JnAt (fun q => p ≤ q ∧ q < w0.heap.size) w p v op m nn C L := (h1.mono (fun q hq s => ⟨s, hq⟩)).quiet h00
  refine (post_any p op v m nn C L kind a n cap ls w h5 hr (by omega) (fun x e s => by have := ha x e; omega)).mono ?_
  rintro _ w' (⟨_, rfl, ho⟩ | ⟨_, hc, rfl, ⟨v', m', nn', g, cp, h6⟩, ho⟩)
  · exact ⟨⟨_, _, rfl⟩, ⟨op, v, m, nn, C, L, K, (h5.quiet ho).mono (fun q _ s => s.1), by omega, h3, h4⟩, ho.mono (fun _ _ f => f.elim)⟩
  · obtain ⟨K', h7⟩ := h3.add h1.jc.le ls (fun a => (h1.mp.row a).1)
    have hz : amts ls = 0 := ((chk_ok kind ls).1 hc).2.2.2.1
    rw [hz] at h7
    have hp := h5.lt
    exact ⟨⟨_, _, rfl⟩, ⟨op, v', m', nn', _, _, K', h6.mono (fun q _ s => s.elim (fun s => s.1) (fun s => by omega)), by simp; omega, by simpa using h7, h4.add ls⟩, ho.mono (fun q _ s => s.1)⟩
theorem ownL_form {w : World} {v : Value} {ls : List Lg} (h : OwnL w v ls) : ∃ a c, v = .slice a ls.length c ∧ (∀ y, a = some y → v.ownBlock = some y.block) := by
  rcases h.2 with ⟨hv, h0⟩ | ⟨g, cp, cur, hv, _⟩
  · exact ⟨none, 0, by rw [hv, h0], fun y e => by cases e⟩
  · exact ⟨_, cp, hv, fun y e => by cases e; rw [hv]; rfl⟩
theorem ownL_reads {w : World} {a : Option Addr} {c : Nat} {ls : List Lg} (h : OwnL w (.slice a ls.length c) ls) (hb : ∀ l ∈ ls, InL l) (hm : ls.length ≤ 1000) : ReadsL w a ls.length ls := by
  rcases h.2 with ⟨hv, h0⟩ | ⟨g, cp, cur, hv, _⟩
  · exact ⟨rfl, by omega, hb, .inl h0⟩
  · injection hv with hv
    subst hv
    exact OwnL.reads h rfl (by omega) hb
set_option maxRecDepth 100000 in
set_option maxHeartbeats 4000000 in
theorem balanced_walk (a : Option Addr) (len cap : Nat) (w : World) (hrow : RowJ w a len) : Calls Try.prog 5 #[.slice a len cap] w fun e w' => e = .returned (.bool true) ∧ Only (fun _ => False) w w' := by
  obtain ⟨p, hp⟩ : ∃ x, x = w.heap.size := ⟨_, rfl⟩
  have HP := Lib.hid hp
  have HRJ := Lib.hid hrow
  have hlm := hrow.1
  unfold maxLen at hlm
  clear hrow
  go_enter Try.func5, Try.ntmps5
  go_wp2_with fail
  refine (new_any w).mono ?_
  rintro _ w1 ⟨rfl, hj, ho⟩
  rw [← hp] at hj ⊢
  have HJ1 : Hid (Jn p 0 w1) := Lib.hid ⟨0, _, _, _, _, [], [], JnAt.new hj (Nat.le_refl _), Nat.le_refl _, InvK.nil, InvR.nil 0⟩
  have HO1 := Lib.hid ho
  clear hj ho hp
  go_wp2_with fail
  refine (journals_any w1).mono ?_
  rintro _ w2 ⟨rfl, ho⟩
  have HJ2 := Lib.hid (HJ1.out.quiet ho)
  have HO2 : Hid (Only (fun q => p ≤ q) w w2) := Lib.hid ((HO1.out.trans ho).mono (fun _ _ f => f.elim))
  clear ho HJ1 HO1
  go_upto_block 0 with fail
  go_cut [4] from 19 to 50 (fun iv wx => Hid (Jn p 60 wx) ∧ Hid (Only (fun q => p ≤ q) w wx))
  case first =>
    go_wp2_with fail
    go_loopw [4] (fun iv wr => ∃ i : Nat, i ≤ 60 ∧ iv = .int .i64 (i : Int) ∧ Hid (Jn p i wr) ∧ Hid (Only (fun q => p ≤ q) w wr)) (fun iv _ => 60 - (intOf iv).toNat)
    case atStart => exact ⟨0, by omega, rfl, HJ2, HO2⟩
    case round =>
      obtain ⟨i, hi, rfl, HJ, HO⟩ := hrel
      rename World => wr
      by_cases h8 : i < len
      · by_cases h20 : i < 60
        · have hin : (i : Int) < len := by omega
          have hi20 : (i : Int) < 60 := by omega
          have hi0 : (0 : Int) ≤ i := by omega
          obtain ⟨b, off, rfl, hcell⟩ := HRJ.out.2.resolve_left (by omega)
          obtain ⟨⟨what, kind, amt, pa, pn, pc, pl, grp, rk, la, ln, lc, ll⟩, hat, hjin⟩ := hcell i h8
          have HIN : Hid (JbIn wr _) := Lib.hid (hjin.keep (b := p) (by have := HP.out; omega) HO.out)
          obtain ⟨x0, x1, x2, x3, x4, x5, x6⟩ := hat.keep (b := p) (by have := HP.out; omega) HO.out
          dsimp only at x0 x1 x2 x3 x4 x5 x6
          have hwt := tmod_inJ what 3 (by decide) (by decide)
          generalize hwz : wrap64 ((IntKind.u64.wrap what).tmod 3) = z at hwt
          clear hcell hat hjin
          by_cases h2 : z = 2
          · subst h2
            have HCL := Lib.hid (jn_close p i wr HJ.out)
            go_wp2_with fail
            refine HCL.out.mono ?_
            rintro _ w3 ⟨⟨k3, er3, rfl⟩, hj, ho⟩
            have HJ3 : Hid (Jn p (i + 1) w3) := Lib.hid (hj.mono (by omega))
            have HO3 : Hid (Only (fun q => p ≤ q) w w3) := Lib.hid (HO.out.trans (ho.mono (fun q _ e => by have e : q = p := e; omega)))
            clear HCL hj ho hwz x0 x1 x2 x3 x4 x5 x6
            go_wp2_with fail
            go_roundw
            case rel => exact ⟨i + 1, by omega, by go_num, HJ3, HO3⟩
            case measure => (simp [intOf]; omega)
          · have hzb : (z == 2) = false := by simpa using h2
            have HJB := Lib.hid (job_any what kind amt grp rk pa pn pc pl la ln lc ll wr HIN.out.1 HIN.out.2.1 HIN.out.2.2.1 HIN.out.2.2.2.1 HIN.out.2.2.2.2)
            go_wp2_with fail
            refine HJB.out.mono ?_
            rintro _ w3 ⟨k, ls, v9, a9, n9, c9, rfl, hown, hfr, hrd, hn9, -, ho, -⟩
            obtain ⟨a8, c8, rfl, hab⟩ := ownL_form hown
            have HRD : Hid (ReadsL w3 a8 ls.length ls) := Lib.hid (ownL_reads hown hrd.2.2.1 (by have := hrd.1; omega))
            have HFR : Hid (∀ x, a8 = some x → wr.heap.size ≤ x.block) := Lib.hid (fun x e => hfr _ (hab x e))
            have HO3 := Lib.hid ho
            obtain ⟨w4, hw4⟩ : ∃ x, x = (w3.alloc (.cells #[.int .i64 k, .slice a8 ls.length c8] 25)).alloc (.cells #[.int .i64 k, .slice a9 n9 c9] 33) := ⟨_, rfl⟩
            obtain ⟨q, hq⟩ : ∃ x, x = w3.heap.size := ⟨_, rfl⟩
            have o1 : Only (fun _ => False) (w3.alloc (.cells #[.int .i64 k, .slice a8 ls.length c8] 25)) w4 := by rw [hw4]; exact (Only.refl _ _).alloc _
            have o2 : Only (fun _ => False) w3 w4 := by rw [hw4]; exact ((Only.refl _ _).alloc _).alloc _
            have c0 : w4.cell? ⟨q, 0, none⟩ = some (.int .i64 k) := o1.cell' (alloc_new _ _ _ _ _ _ hq rfl) (fun f => f)
            have c1 : w4.cell? ⟨q, 1, none⟩ = some (.slice a8 ls.length c8) := o1.cell' (alloc_new _ _ _ _ _ _ hq rfl) (fun f => f)
            have HO4 := Lib.hid (ho.trans o2)
            have HPO := Lib.hid (jn_post p i (by omega) k a8 ls.length c8 ls w4 wr HJ.out HO4.out (HRD.out.only o2 (fun _ _ f => f)) HFR.out)
            clear HJB hown hfr hrd hn9 ho hab hwz x0 x1 x2 x3 x4 x5 x6 HIN o1 o2
            go_upto_region 10 with fail
            simp only [← hw4, ← hq]
            clear hw4 hq
            go_wp2_with fail
            refine HPO.out.mono ?_
            rintro _ w5 ⟨⟨k3, er3, rfl⟩, hj, ho⟩
            have HJ5 := Lib.hid hj
            have HO5 : Hid (Only (fun q => p ≤ q) w w5) := Lib.hid ((HO.out.trans (HO4.out.mono (fun _ _ f => f.elim))).trans ho)
            clear hj ho HPO c0 c1
            go_wp2_with fail
            go_roundw
            case rel => exact ⟨i + 1, by omega, by go_num, HJ5, HO5⟩
            case measure => (simp [intOf]; omega)
        · have hi20 : ¬ (i : Int) < 60 := by omega
          have hin : (i : Int) < len := by omega
          go_wp2_with fail
          go_meet
          exact ⟨Lib.hid (HJ.out.mono hi), HO⟩
      · have hin : ¬ (i : Int) < len := by omega
        go_wp2_with fail
        go_meet
        exact ⟨Lib.hid (HJ.out.mono hi), HO⟩
  obtain ⟨op, v, m, nn, C, L, K, h1, -, h3, h4⟩ := hcut.1.out
  have HO3 := hcut.2
  rename World => wc
  have HAT := Lib.hid h1
  have HIK := Lib.hid h3
  have HIR := Lib.hid h4
  have hop := h1.jc.le
  have HFIN : Hid (∀ w', Only (fun _ => False) wc w' → Only (fun _ => False) w w') := Lib.hid (fun w' ho => (HO3.out.then ho (fun q _ f => f.elim)).mono (fun q hq s => by have := HP.out; omega))
  have HTR : Hid (∀ x, -1 ≤ x → x ≤ (op : Int) → (triO op L x).1 = (triO op L x).2 ∧ (triE op L x = 0 ∨ triE op L x = 6)) := Lib.hid (fun x hx1 hx2 => by
    unfold triO triE
    rw [if_neg (by omega), if_neg (by omega)]
    cases ht : trP x L (0, 0) with
    | none => exact ⟨rfl, .inr rfl⟩
    | some y =>
      have := trP_diff x L (fun z hz => ((chk_ok _ _).1 (HAT.out.pl z hz).2.1).2.2.2.1) ht
      exact ⟨by show y.1 = y.2; simp only at this; omega, .inl rfl⟩)
  clear hcut h1 h3 h4 HJ2 HO2 HO3 HRJ
  go_wp2_with fail
  go_loopw [7] (fun iv wr => ∃ x : Int, -1 ≤ x ∧ x ≤ (op : Int) + 1 ∧ iv = .int .i64 x ∧ Hid (Only (fun _ => False) wc wr)) (fun iv _ => ((op : Int) + 1 - intOf iv).toNat)
  case atStart => exact ⟨-1, by omega, by omega, rfl, Lib.hid (Only.refl _ _)⟩
  case round =>
    obtain ⟨x, hx1, hx2, rfl, HW⟩ := hrel
    rename World => wr
    have HPE := Lib.hid (period_any p op v m wr (HAT.out.quiet HW.out).jc)
    by_cases h8 : x ≤ (op : Int)
    · go_wp2_with fail
      refine HPE.out.mono ?_
      rintro _ _ ⟨rfl, rfl⟩
      have HTA := Lib.hid (trial_any p op v m nn C L x _ (HAT.out.quiet HW.out))
      have htr := HTR.out x hx1 h8
      clear HPE
      generalize (triO op L x).1 = d at *
      generalize (triO op L x).2 = d2 at *
      generalize triE op L x = er at *
      obtain ⟨rfl, her⟩ := htr
      have hxw : wrap64 (x + 1) = x + 1 := by unfold wrap64; omega
      go_wp2_with fail
      refine HTA.out.mono ?_
      rintro _ w3 ⟨rfl, ho⟩
      have HW3 := Lib.hid (HW.out.trans ho)
      clear ho HTA
      have hdd : (d != d) = false := by simp
      rcases her with rfl | rfl
      · go_wp2_with fail
        go_roundw
        case rel => exact ⟨x + 1, by omega, by omega, rfl, HW3⟩
        case measure => (simp [intOf]; omega)
      · go_wp2_with fail
        go_roundw
        case rel => exact ⟨x + 1, by omega, by omega, rfl, HW3⟩
        case measure => (simp [intOf]; omega)
    · go_wp2_with fail
      refine HPE.out.mono ?_
      rintro _ _ ⟨rfl, rfl⟩
      have HAC := Lib.hid (accounts_any p op v m nn C L _ (HAT.out.quiet HW.out))
      clear HPE
      go_wp2_with fail
      refine HAC.out.mono ?_
      rintro _ w4 ⟨v4, rfl, a4, c4, ss, rfl, hra, hks, -, hlc, hcm, ho⟩
      have HRA := Lib.hid hra
      have HKS := Lib.hid hks
      have HW4 := Lib.hid (HW.out.trans ho)
      unfold maxLen at hcm
      clear HAC hra hks ho
      go_wp2_with fail
      go_loopw [13, 11] (fun iv tv wx => ∃ j : Nat, j ≤ ss.length ∧ iv = .int .i64 (j : Int) ∧ tv = .int .i64 (wrap64 (tot C (ss.take j))) ∧ Hid (Only (fun _ => False) w4 wx)) (fun iv _ _ => ss.length - (intOf iv).toNat)
      case atStart => exact ⟨0, by omega, rfl, by simp [tot, wrap64], Lib.hid (Only.refl _ _)⟩
      case round =>
        obtain ⟨j, hj, rfl, rfl, HX⟩ := hrel
        rename World => wx
        by_cases hjl : j < ss.length
        · have hji : (j : Int) < (ss.length : Int) := by omega
          have hj0 : (0 : Int) ≤ (j : Int) := by omega
          obtain ⟨g, rfl, hcell⟩ := HRA.out.2.resolve_left (by omega)
          obtain ⟨y0, y1, y2⟩ := hcell j hjl
          have HA : Hid (InA (ss.getD j default)) := Lib.hid (HKS.out.2.2 _ (by rw [List.getD_eq_getElem?_getD, List.getElem?_eq_getElem hjl]; exact List.getElem_mem hjl))
          have HTK : Hid (tot C (ss.take (j + 1)) = tot C (ss.take j) + rsum C (ss.getD j default)) := Lib.hid (by
            have : ss.getD j default = ss[j] := by simp [List.getD, hjl]
            rw [this, List.take_succ_eq_append_getElem hjl]
            unfold tot
            rw [List.map_append, List.sum_append]
            simp)
          obtain ⟨⟨ak, an, ag⟩, hac⟩ : ∃ x, ss.getD j default = x := ⟨_, rfl⟩
          rw [hac] at y0 y1 y2 HA HTK
          dsimp only at y0 y1 y2
          have HY : Hid (∀ w', Only (fun _ => False) w4 w' → w'.cell? ⟨g, j * 3, none⟩ = some (.int .i64 ak) ∧ w'.cell? ⟨g, j * 3 + 1, none⟩ = some (.int .i64 an) ∧ w'.cell? ⟨g, j * 3 + 2, none⟩ = some (.int .i64 ag)) := Lib.hid (fun w' ho => ⟨ho.cell' y0 (fun f => f), ho.cell' y1 (fun f => f), ho.cell' y2 (fun f => f)⟩)
          obtain ⟨row, hrow⟩ : ∃ r, r = (C ⟨ak, an, ag⟩).getD noughts := ⟨_, rfl⟩
          have HRW : Hid (row.length = 32) := Lib.hid (by rw [hrow]; exact (HAT.out.mp.row _).1)
          have HRS : Hid (rsum C ⟨ak, an, ag⟩ = row.sum) := Lib.hid (by rw [hrow]; rfl)
          have HR0 : Hid ((row.take (op + 1)).sum = row.sum) := Lib.hid (take_all (fun q hq => by rw [hrow]; exact HIR.out _ q (by omega)))
          have HMV : Hid (∀ t : Nat, t ≤ op → ∀ w', Only (fun _ => False) w4 w' → Calls Try.prog 21 #[.pointer (some ⟨p, 0, none⟩), .agg #[.int .i64 ak, .int .i64 an, .int .i64 ag], .int .i64 (t : Int)] w' fun e w'' => e = .returned (.int .i64 (row.getD t 0)) ∧ Only (fun _ => False) w' w'') := Lib.hid (fun t ht w' ho => by
            have h := moved_any p op v m nn C ak an ag HA.out (t : Int) w' (HAT.out.quiet (HW4.out.trans ho)).jc (HAT.out.quiet (HW4.out.trans ho)).mp
            have e : movV C op ⟨ak, an, ag⟩ (t : Int) = row.getD t 0 := by unfold movV; rw [if_neg (by omega), hrow]; rfl
            rw [e] at h
            exact h)
          have HBA : Hid (∀ w', Only (fun _ => False) w4 w' → Calls Try.prog 20 #[.pointer (some ⟨p, 0, none⟩), .agg #[.int .i64 ak, .int .i64 an, .int .i64 ag]] w' fun e w'' => e = .returned (.int .i64 (wrap64 row.sum)) ∧ Only (fun _ => False) w' w'') := Lib.hid (fun w' ho => by
            have h := bal_any p op v m nn C ak an ag HA.out w' (HAT.out.quiet (HW4.out.trans ho)).jc (HAT.out.quiet (HW4.out.trans ho)).mp
            rw [← hrow] at h
            exact h)
          clear hcell y0 y1 y2 hac hrow HA
          go_wp2_with fail
          go_loopw [15, 14] (fun pv nv wy => ∃ t : Nat, t ≤ op + 1 ∧ pv = .int .i64 (t : Int) ∧ nv = .int .i64 (wrap64 (row.take t).sum) ∧ Hid (Only (fun _ => False) w4 wy)) (fun pv _ _ => op + 1 - (intOf pv).toNat)
          case atStart => exact ⟨0, by omega, rfl, by simp [wrap64], HX⟩
          case round =>
            obtain ⟨t, ht, rfl, rfl, HY2⟩ := hrel
            rename World => wy
            have HPE := Lib.hid (period_any p op v m wy (HAT.out.quiet (HW4.out.trans HY2.out)).jc)
            obtain ⟨y0, y1, y2⟩ := HY.out wy HY2.out
            by_cases htl : t ≤ op
            · have hti : (t : Int) ≤ (op : Int) := by omega
              have HMC := Lib.hid (HMV.out t htl wy HY2.out)
              have hs := take_sum row t (by rw [HRW.out]; omega)
              have hw := wrap_add (row.take t).sum (row.getD t 0)
              rw [← hs] at hw
              clear hs
              have HS1 : Hid (wrap64 (row.take (t + 1)).sum = wrap64 (row.take (t + 1)).sum) := Lib.hid rfl
              obtain ⟨s1, hs1⟩ : ∃ x, x = wrap64 (row.take (t + 1)).sum := ⟨_, rfl⟩
              rw [← hs1] at hw
              have HSS := Lib.hid hs1
              clear hs1 HS1
              generalize wrap64 (row.take t).sum = s0 at *
              generalize row.getD t 0 = mv at *
              go_wp2_with fail
              refine HPE.out.mono ?_
              rintro _ _ ⟨rfl, rfl⟩
              go_wp2_with fail
              refine HMC.out.mono ?_
              rintro _ wz ⟨rfl, ho⟩
              have HZ := Lib.hid (HY2.out.trans ho)
              clear ho HMC HPE y0 y1 y2
              go_wp2_with fail
              go_roundw
              case rel => exact ⟨t + 1, by omega, by go_num, by first | rw [HSS.out] | rw [hw, HSS.out], HZ⟩
              case measure => (simp [intOf]; omega)
            · have hti : ¬ (t : Int) ≤ (op : Int) := by omega
              obtain rfl : t = op + 1 := by omega
              rw [HR0.out]
              have HBC := Lib.hid (HBA.out wy HY2.out)
              have hw := wrap_add (tot C (ss.take j)) row.sum
              have hw2 : wrap64 (wrap64 (tot C (ss.take j)) + wrap64 row.sum) = wrap64 (tot C (ss.take (j + 1))) := by rw [HTK.out, HRS.out]; unfold wrap64; omega
              have HT1 : Hid (wrap64 (tot C (ss.take (j + 1))) = wrap64 (tot C (ss.take (j + 1)))) := Lib.hid rfl
              obtain ⟨s1, hs1⟩ : ∃ x, x = wrap64 (tot C (ss.take (j + 1))) := ⟨_, rfl⟩
              rw [← hs1] at hw2
              have HSS := Lib.hid hs1
              clear hs1 HT1 hw
              generalize wrap64 (tot C (ss.take j)) = t0 at *
              generalize wrap64 row.sum = r0 at *
              have hrr : (r0 != r0) = false := by simp
              go_wp2_with fail
              refine HPE.out.mono ?_
              rintro _ _ ⟨rfl, rfl⟩
              go_wp2_with fail
              refine HBC.out.mono ?_
              rintro _ wz ⟨rfl, ho⟩
              have HZ := Lib.hid (HY2.out.trans ho)
              clear ho HBC HPE y0 y1 y2
              go_wp2_with fail
              go_roundw
              case rel => exact ⟨j + 1, by omega, by go_num, by first | rw [HSS.out] | rw [hw2, HSS.out], HZ⟩
              case measure => (simp [intOf]; omega)
        · have hji : ¬ (j : Int) < (ss.length : Int) := by omega
          obtain rfl : j = ss.length := by omega
          have hz : wrap64 (tot C (ss.take ss.length)) = 0 := by
            rw [List.take_length]
            have := keys_tot HIK.out HKS.out
            unfold wrap64
            omega
          rw [hz]
          have HE := Lib.hid (HFIN.out wx (HW4.out.trans HX.out))
          go_wp2_with fail
          go_ret
          exact ⟨rfl, HE.out⟩
theorem balanced_below (a : Option Addr) (len cap : Nat) (w : World) (hrow : RowJ w a len) : Calls Try.prog 5 #[.slice a len cap] w fun e w' => e = .returned (.bool true) ∧ Below w.heap.size w w' := (balanced_walk a len cap w hrow).mono (fun e w' h => ⟨h.1, h.2.none⟩)
end Go.Proofs.Ytdjiljkdnpmilaa.jnw

namespace Go.Proofs.Ytdjiljkdnpmilaa.jnw
open Go.RowKit mem accm accn entw entm
set_option linter.unusedVariables false

theorem imp3q {w w' : World} {p q : Nat} {a b c : Value} (h : w.cell? ⟨p, 0, none⟩ = some a ∧ w.cell? ⟨p, 1, none⟩ = some b ∧ w.cell? ⟨p, 2, none⟩ = some c) (ho : Only (fun x => x = q) w w') (hn : p ≠ q) : w'.cell? ⟨p, 0, none⟩ = some a ∧ w'.cell? ⟨p, 1, none⟩ = some b ∧ w'.cell? ⟨p, 2, none⟩ = some c :=
  ⟨ho.cell' h.1 hn, ho.cell' h.2.1 hn, ho.cell' h.2.2 hn⟩
set_option maxRecDepth 100000 in
set_option maxHeartbeats 2000000 in
theorem copiedo_any (kind : Int) (b off n cap : Nat) (ls : List Lg) (w : World) (h : ReadsL w (some ⟨b, off, none⟩) n ls) (h1 : 1 ≤ n) (hm : n ≤ 1000) :
    Calls Try.prog 35 #[.agg #[.int .i64 kind, .slice (some ⟨b, off, none⟩) n cap]] w fun e w' => ∃ g cp, e = .returned (.agg #[.int .i64 kind, .slice (some ⟨g, 0, none⟩) n cp]) ∧ OwnL w' (.slice (some ⟨g, 0, none⟩) n cp) ls ∧ w.heap.size ≤ g ∧ Only (fun _ => False) w w' := by
  obtain ⟨w1, hw1⟩ : ∃ x, x = w.alloc (.cells #[.int .i64 kind, .slice (some ⟨b, off, none⟩) n cap] 25) := ⟨_, rfl⟩
  obtain ⟨w2, hw2⟩ : ∃ x, x = w1.alloc (.cells #[.int .i64 0, .slice none 0 0] 25) := ⟨_, rfl⟩
  obtain ⟨q1, hq1⟩ : ∃ x, x = w.heap.size := ⟨_, rfl⟩
  obtain ⟨q2, hq3⟩ : ∃ x, x = q1 + 1 := ⟨_, rfl⟩
  have hq2 : q2 = w1.heap.size := by rw [hq3, hw1, hq1]; simp
  have ha : Only (fun _ => False) w w1 := by rw [hw1]; exact (Only.refl _ _).alloc _
  have hb : Only (fun _ => False) w1 w2 := by rw [hw2]; exact (Only.refl _ _).alloc _
  have HO2 : Hid (Only (fun _ => False) w w2) := Lib.hid (ha.trans hb)
  have HQW : Hid (w.heap.size ≤ q2) := Lib.hid (by rw [hq2]; exact ha.size)
  have HS : Hid (∀ w', Only (fun _ => False) w2 w' → w'.cell? ⟨q1, 0, none⟩ = some (.int .i64 kind) ∧ w'.cell? ⟨q1, 1, none⟩ = some (.slice (some ⟨b, off, none⟩) n cap)) := Lib.hid (fun w' ho => ⟨(hb.trans ho).cell' (by rw [hw1]; exact alloc_new _ _ _ _ _ _ hq1 rfl) (fun f => f), (hb.trans ho).cell' (by rw [hw1]; exact alloc_new _ _ _ _ _ _ hq1 rfl) (fun f => f)⟩)
  have hn0 : w2.cell? ⟨q2, 0, none⟩ = some (.int .i64 0) := by rw [hw2]; exact alloc_new _ _ _ _ _ _ hq2 rfl
  have hn1 : w2.cell? ⟨q2, 1, none⟩ = some (.slice none 0 0) := by rw [hw2]; exact alloc_new _ _ _ _ _ _ hq2 rfl
  have hf0 : w2.frozen? ⟨q2, 0, none⟩ = false := by rw [hw2]; exact alloc_froz _ _ _ _ _ hq2
  have hf1 : w2.frozen? ⟨q2, 1, none⟩ = false := by rw [hw2]; exact alloc_froz _ _ _ _ _ hq2
  have hlt : q2 < w2.heap.size := World.block_lt_of_cell? w2 _ hn0
  have HQ : Hid (∀ w', Only (fun _ => False) w2 w' → w'.cell? ⟨q2, 0, none⟩ = some (.int .i64 0) ∧ w'.cell? ⟨q2, 1, none⟩ = some (.slice none 0 0) ∧ w'.frozen? ⟨q2, 0, none⟩ = false ∧ w'.frozen? ⟨q2, 1, none⟩ = false) := Lib.hid (fun w' ho =>
    ⟨ho.cell' hn0 (fun f => f), ho.cell' hn1 (fun f => f), (ho.frozen (p := ⟨q2, 0, none⟩) hlt (fun f => f)).trans hf0, (ho.frozen (p := ⟨q2, 1, none⟩) hlt (fun f => f)).trans hf1⟩)
  have HCL : Hid (∀ w', Only (fun _ => False) w2 w' → _) := Lib.hid (fun w' (ho : Only (fun _ => False) w2 w') => clone_legs b off n cap ls w' (h.only (HO2.out.trans ho) (fun _ _ f => f)) hm h1)
  have HLN : Hid (n = ls.length) := Lib.hid h.1.symm
  have HIN : Hid (∀ l ∈ ls, InL l) := Lib.hid h.2.2.1
  have hbp := run_buildP
  clear h ha hb hn0 hn1 hf0 hf1 hlt
  go_enter Try.func35, Try.ntmps35
  go_upto_region 1 with fail
  simp only [← hw1, ← hq1]
  simp only [← hw2, ← hq3]
  clear hw1 hw2 hq1 hq2 hq3
  refine wp_region_noPanic ?_
  refine late.region (fun w' => w'.cell? ⟨q1, 0, none⟩ = some (.int .i64 kind) ∧ w'.cell? ⟨q1, 1, none⟩ = some (.slice (some ⟨b, off, none⟩) n cap)) (fun j => [6].contains j) (by kernel_rfl) (HS.out _ (Only.refl _ _).drew) (fun hHeld => ?_)
  obtain ⟨z0, hz0⟩ : ∃ x, x = w2.drew := ⟨_, rfl⟩
  rw [← hz0] at hHeld ⊢
  have hot : Hid (Only (fun _ => False) w2 z0) := Lib.hid (by rw [hz0]; exact (Only.refl _ _).drew)
  clear hz0
  refine late.take (i := 0) [1, 5, 6] (v := ?_) rfl (by kernel_rfl) (by kernel_rfl) (by kernel_rfl) (by kernel_rfl) (fun _ _ _ h => h) (Or.inl ⟨by rfl, ?_⟩) (by assumption) ?_
  rotate_left 1
  · intro w' hSw
    try dsimp only at hSw
    go_simp
    try with_reducible rfl
  try simp only [List.getElem_toArray, List.getElem_cons_zero, Act.put, List.setIfInBounds_toArray, List.set_cons_zero, List.set_cons_succ]
  refine late.take (i := 1) [5, 6] (v := ?_) rfl (by kernel_rfl) (by kernel_rfl) (by kernel_rfl) (by kernel_rfl) (fun _ _ _ h => h) (Or.inl ⟨by rfl, ?_⟩) (by assumption) ?_
  rotate_left 1
  · intro w' hSw
    try dsimp only at hSw
    go_simp
    try with_reducible rfl
  try simp only [List.getElem_toArray, List.getElem_cons_zero, List.getElem_cons_succ, Act.put, List.setIfInBounds_toArray, List.set_cons_zero, List.set_cons_succ]
  refine late.take (i := 2) [3, 4, 5, 6] (v := ?_) rfl (by kernel_rfl) (by kernel_rfl) (by kernel_rfl) (by kernel_rfl) (fun _ _ _ h => h) (Or.inl ⟨by rfl, ?_⟩) (by assumption) ?_
  rotate_left 1
  · intro w' hSw
    try dsimp only at hSw
    go_simp
    try with_reducible rfl
  try simp only [List.getElem_toArray, List.getElem_cons_zero, List.getElem_cons_succ, Act.put, List.setIfInBounds_toArray, List.set_cons_zero, List.set_cons_succ]
  refine late.take (i := 3) [4, 5, 6] (v := ?_) rfl (by kernel_rfl) (by kernel_rfl) (by kernel_rfl) (by kernel_rfl) (fun _ _ _ h => h) (Or.inl ⟨by rfl, ?_⟩) (by assumption) ?_
  rotate_left 1
  · intro w' hSw
    try dsimp only at hSw
    go_simp
    try with_reducible rfl
  try simp only [List.getElem_toArray, List.getElem_cons_zero, List.getElem_cons_succ, Act.put, List.setIfInBounds_toArray, List.set_cons_zero, List.set_cons_succ]
  refine late.ready (rs := [4]) (by kernel_rfl) (by simp) ?_
  refine late.Each.cons rfl (fun K hK => ?_) late.Each.nil
  try simp only [List.getElem_toArray, List.getElem_cons_zero, List.getElem_cons_succ]
  go_simp
  go_at_call 33
  with_reducible refine (HCL.out _ hot.out).mono ?_
  rintro _ W1 ⟨g, cp, rfl, hown, hg, ho⟩
  have HOW := Lib.hid hown
  have HGQ := Lib.hid (box_lt (HQ.out w2 (Only.refl _ _)).1 hot.out.size hg)
  have HGS : Hid (w.heap.size ≤ g) := Lib.hid (by have := HO2.out.size; have := hot.out.size; omega)
  replace hot := Lib.hid (hot.out.trans ho)
  clear ho hown hg
  try dsimp only
  refine hK.out _ _ (fun _ => HS.out _ hot.out) (fun hHeld1 => ?_)
  replace hHeld1 := hHeld1 rfl
  clear hK K
  try simp only [List.getElem_toArray, List.getElem_cons_zero, List.getElem_cons_succ, Act.put, List.setIfInBounds_toArray, List.set_cons_zero, List.set_cons_succ]
  refine late.take (i := 5) [6] (v := ?_) rfl (by kernel_rfl) (by kernel_rfl) (by kernel_rfl) (by kernel_rfl) (fun _ _ _ h => h) (Or.inl ⟨by rfl, ?_⟩) (by assumption) ?_
  rotate_left 1
  · intro w' hSw
    try dsimp only at hSw
    go_simp
    try with_reducible rfl
  try simp only [List.getElem_toArray, List.getElem_cons_zero, List.getElem_cons_succ, Act.put, List.setIfInBounds_toArray, List.set_cons_zero, List.set_cons_succ]
  refine late.ready (rs := [6]) (by kernel_rfl) (by simp) ?_
  refine late.Each.cons rfl (fun K hK => ?_) late.Each.nil
  obtain ⟨e0, e1, f0, f1⟩ := HQ.out _ hot.out
  have HE := Lib.hid (set_two (x := .int .i64 kind) (y := .slice (some ⟨g, 0, none⟩) n cp) e0 e1)
  try simp only [List.getElem_toArray, List.getElem_cons_zero, List.getElem_cons_succ]
  go_simp
  refine hK.out _ _ (fun h => by cases h) (fun _ => ?_)
  clear hK K
  try simp only [List.getElem_toArray, List.getElem_cons_zero, List.getElem_cons_succ, Act.put, List.setIfInBounds_toArray, List.set_cons_zero, List.set_cons_succ]
  refine late.done (by kernel_rfl) ?_ _
  refine NoPanic.normal ?_
  have HS2 : Hid (Only (fun q => q = q2) W1 ((W1.setCell ⟨q2, 0, none⟩ (.int .i64 kind)).setCell ⟨q2, 1, none⟩ (.slice (some ⟨g, 0, none⟩) n cp))) := Lib.hid (((Only.refl (fun q => q = q2) W1).setCell (p := ⟨q2, 0, none⟩) (.inl rfl) _).setCell (p := ⟨q2, 1, none⟩) (.inl rfl) _)
  go_wp2_with fail
  refine bodyPost_ret (v := .agg #[.int .i64 kind, .slice (some ⟨g, 0, none⟩) n cp]) (by simp [results, Try.results35, go_sem, HE.out.1, HE.out.2]) rfl ?_
  refine ⟨g, cp, rfl, ?_, HGS.out, (HO2.out.trans hot.out).then HS2.out (fun q hq e => by have := HQW.out; omega)⟩
  refine HOW.out.only HS2.out (fun x hx e => ?_)
  have hx : g = x := by simpa [Value.ownBlock] using hx
  have := HGQ.out
  omega
set_option maxRecDepth 100000 in
set_option maxHeartbeats 4000000 in
theorem at_any {S : Nat → Prop} (p op : Nat) (v : Value) (m : Option Nat) (nn : Nat) (C : Ac → Option (List Int)) (L : List Ps) (i : Nat) (hi : i < L.length) (kd : Int) (g0 n c0 per : Nat) (ls : List Lg) (hx : L.getD i default = ⟨kd, g0, n, c0, per, ls⟩) (w : World) (h : JnAt S w p v op m nn C L) :
    Calls Try.prog 15 #[.pointer (some ⟨p, 0, none⟩), .int .i64 (i : Int)] w fun e w' => ∃ g cp, e = .returned (.tuple #[.agg #[.int .i64 kd, .slice (some ⟨g, 0, none⟩) n cp], .int .i64 (per : Int), .int .i64 0]) ∧ OwnL w' (.slice (some ⟨g, 0, none⟩) n cp) ls ∧ w.heap.size ≤ g ∧ Only (fun _ => False) w w' := by
  have hlen := h.len
  have hmem : L.getD i default ∈ L := by rw [List.getD_eq_getElem?_getD, List.getElem?_eq_getElem hi]; exact List.getElem_mem hi
  have hps := h.pl _ hmem
  have hpl := hps.len
  rw [hx] at hps hpl
  have hrd : ReadsL w (some ⟨g0, 0, none⟩) n ls := hps.1
  have hpl : 2 ≤ n ∧ n ≤ 64 := hpl
  obtain ⟨a, cap, rfl, -, -, hr, -⟩ := h.own.reads
  obtain ⟨gr, rfl, hc⟩ := hr.2.resolve_left (by omega)
  obtain ⟨d0, d1, d2⟩ := hc i hi
  rw [hx] at d0 d1 d2
  dsimp only at d0 d1 d2
  obtain ⟨w1, hw1⟩ : ∃ x, x = w.alloc (.cells #[.int .i64 0, .slice none 0 0] 25) := ⟨_, rfl⟩
  obtain ⟨w2, hw2⟩ : ∃ x, x = w1.alloc (.cells #[.int .i64 kd, .slice (some ⟨g0, 0, none⟩) n c0, .int .i64 (per : Int)] 86) := ⟨_, rfl⟩
  obtain ⟨q4, hq4⟩ : ∃ x, x = w.heap.size := ⟨_, rfl⟩
  obtain ⟨q7, hq3⟩ : ∃ x, x = q4 + 1 := ⟨_, rfl⟩
  have hq7 : q7 = w1.heap.size := by rw [hq3, hw1, hq4]; simp
  have ha : Only (fun _ => False) w w1 := by rw [hw1]; exact (Only.refl _ _).alloc _
  have hb : Only (fun _ => False) w1 w2 := by rw [hw2]; exact (Only.refl _ _).alloc _
  have HO2 : Hid (Only (fun _ => False) w w2) := Lib.hid (ha.trans hb)
  have HQW : Hid (w.heap.size ≤ q4) := Lib.hid (by omega)
  have HNE : Hid (q7 ≠ q4) := Lib.hid (by omega)
  have HS : Hid (∀ w', Only (fun _ => False) w2 w' → w'.cell? ⟨q7, 0, none⟩ = some (.int .i64 kd) ∧ w'.cell? ⟨q7, 1, none⟩ = some (.slice (some ⟨g0, 0, none⟩) n c0) ∧ w'.cell? ⟨q7, 2, none⟩ = some (.int .i64 (per : Int))) := Lib.hid (fun w' ho => ⟨ho.cell' (by rw [hw2]; exact alloc_new _ _ _ _ _ _ hq7 rfl) (fun f => f), ho.cell' (by rw [hw2]; exact alloc_new _ _ _ _ _ _ hq7 rfl) (fun f => f), ho.cell' (by rw [hw2]; exact alloc_new _ _ _ _ _ _ hq7 rfl) (fun f => f)⟩)
  have hn0 : w1.cell? ⟨q4, 0, none⟩ = some (.int .i64 0) := by rw [hw1]; exact alloc_new _ _ _ _ _ _ hq4 rfl
  have hn1 : w1.cell? ⟨q4, 1, none⟩ = some (.slice none 0 0) := by rw [hw1]; exact alloc_new _ _ _ _ _ _ hq4 rfl
  have hf0 : w1.frozen? ⟨q4, 0, none⟩ = false := by rw [hw1]; exact alloc_froz _ _ _ _ _ hq4
  have hf1 : w1.frozen? ⟨q4, 1, none⟩ = false := by rw [hw1]; exact alloc_froz _ _ _ _ _ hq4
  have hlt : q4 < w1.heap.size := World.block_lt_of_cell? w1 _ hn0
  have HQ : Hid (∀ w', Only (fun _ => False) w2 w' → w'.cell? ⟨q4, 0, none⟩ = some (.int .i64 0) ∧ w'.cell? ⟨q4, 1, none⟩ = some (.slice none 0 0) ∧ w'.frozen? ⟨q4, 0, none⟩ = false ∧ w'.frozen? ⟨q4, 1, none⟩ = false) := Lib.hid (fun w' ho =>
    ⟨(hb.trans ho).cell' hn0 (fun f => f), (hb.trans ho).cell' hn1 (fun f => f), ((hb.trans ho).frozen (p := ⟨q4, 0, none⟩) hlt (fun f => f)).trans hf0, ((hb.trans ho).frozen (p := ⟨q4, 1, none⟩) hlt (fun f => f)).trans hf1⟩)
  have HCL : Hid (∀ w', Only (fun _ => False) w2 w' → _) := Lib.hid (fun w' (ho : Only (fun _ => False) w2 w') => copiedo_any kd g0 0 n c0 ls w' (hrd.only (HO2.out.trans ho) (fun _ _ f => f)) (by omega) (by omega))
  have e0 : w1.cell? ⟨p, 0, none⟩ = some (.slice (some ⟨gr, 0, none⟩) L.length cap) := ha.cell' h.jc.c0 (fun f => f)
  have e1 : w1.cell? ⟨gr, i * 3, none⟩ = some (.int .i64 kd) := ha.cell' d0 (fun f => f)
  have e2 : w1.cell? ⟨gr, i * 3 + 1, none⟩ = some (.slice (some ⟨g0, 0, none⟩) n c0) := ha.cell' d1 (fun f => f)
  have e3 : w1.cell? ⟨gr, i * 3 + 2, none⟩ = some (.int .i64 (per : Int)) := ha.cell' d2 (fun f => f)
  have k0 : ¬ (i : Int) < 0 := by omega
  have k1 : ¬ (L.length : Int) ≤ (i : Int) := by omega
  have k2 : (i : Int) < (L.length : Int) := by omega
  have k3 : (0 : Int) ≤ (i : Int) := by omega
  clear h hx hmem hps hpl hrd hr hc d0 d1 d2 ha hb hn0 hn1 hf0 hf1 hlt
  go_enter Try.func15, Try.ntmps15
  rw [hw1] at e0 e1 e2 e3
  go_upto_region 6 with fail
  simp only [← hw1, ← hq4]
  simp only [← hw2, ← hq3]
  clear hw1 hw2 hq4 hq3 hq7 e0 e1 e2 e3 k0 k1 k2 k3
  refine wp_region_noPanic ?_
  refine late.region (fun w' => w'.cell? ⟨q7, 0, none⟩ = some (.int .i64 kd) ∧ w'.cell? ⟨q7, 1, none⟩ = some (.slice (some ⟨g0, 0, none⟩) n c0) ∧ w'.cell? ⟨q7, 2, none⟩ = some (.int .i64 (per : Int))) (fun j => [].contains j) (by kernel_rfl) (HS.out _ (Only.refl _ _).drew) (fun hHeld => ?_)
  obtain ⟨z0, hz0⟩ : ∃ x, x = w2.drew := ⟨_, rfl⟩
  rw [← hz0] at hHeld ⊢
  have hot : Hid (Only (fun _ => False) w2 z0) := Lib.hid (by rw [hz0]; exact (Only.refl _ _).drew)
  clear hz0
  refine late.take (i := 0) [1, 2, 5, 6, 7] (v := ?_) rfl (by kernel_rfl) (by kernel_rfl) (by kernel_rfl) (by kernel_rfl) (fun _ _ _ h => h) (Or.inl ⟨by rfl, ?_⟩) (by assumption) ?_
  rotate_left 1
  · intro w' hSw
    try dsimp only at hSw
    go_simp
    try with_reducible rfl
  try simp only [List.getElem_toArray, List.getElem_cons_zero, Act.put, List.setIfInBounds_toArray, List.set_cons_zero, List.set_cons_succ]
  refine late.take (i := 1) [2, 5, 6, 7] (v := ?_) rfl (by kernel_rfl) (by kernel_rfl) (by kernel_rfl) (by kernel_rfl) (fun _ _ _ h => h) (Or.inl ⟨by rfl, ?_⟩) (by assumption) ?_
  rotate_left 1
  · intro w' hSw
    try dsimp only at hSw
    go_simp
    try with_reducible rfl
  try simp only [List.getElem_toArray, List.getElem_cons_zero, List.getElem_cons_succ, Act.put, List.setIfInBounds_toArray, List.set_cons_zero, List.set_cons_succ]
  refine late.take (i := 3) [4, 6, 7] (v := ?_) rfl (by kernel_rfl) (by kernel_rfl) (by kernel_rfl) (by kernel_rfl) (fun _ _ _ h => h) (Or.inl ⟨by rfl, ?_⟩) (by assumption) ?_
  rotate_left 1
  · intro w' hSw
    try dsimp only at hSw
    go_simp
    try with_reducible rfl
  try simp only [List.getElem_toArray, List.getElem_cons_zero, List.getElem_cons_succ, Act.put, List.setIfInBounds_toArray, List.set_cons_zero, List.set_cons_succ]
  refine late.take (i := 4) [6, 7] (v := ?_) rfl (by kernel_rfl) (by kernel_rfl) (by kernel_rfl) (by kernel_rfl) (fun _ _ _ h => h) (Or.inl ⟨by rfl, ?_⟩) (by assumption) ?_
  rotate_left 1
  · intro w' hSw
    try dsimp only at hSw
    go_simp
    try with_reducible rfl
  try simp only [List.getElem_toArray, List.getElem_cons_zero, List.getElem_cons_succ, Act.put, List.setIfInBounds_toArray, List.set_cons_zero, List.set_cons_succ]
  refine late.ready (rs := [2]) (by kernel_rfl) (by simp) ?_
  refine late.Each.cons rfl (fun K hK => ?_) late.Each.nil
  try simp only [List.getElem_toArray, List.getElem_cons_zero, List.getElem_cons_succ]
  go_simp
  go_at_call 35
  with_reducible refine (HCL.out _ hot.out).mono ?_
  rintro _ W1 ⟨g, cp, rfl, hown, hg, ho⟩
  have HOW := Lib.hid hown
  have HGQ := Lib.hid (box_lt (HQ.out w2 (Only.refl _ _)).1 hot.out.size hg)
  have HGS : Hid (w.heap.size ≤ g) := Lib.hid (by have := HO2.out.size; have := hot.out.size; omega)
  replace hot := Lib.hid (hot.out.trans ho)
  clear ho hown hg
  try dsimp only
  refine hK.out _ _ (fun _ => HS.out _ hot.out) (fun hHeld1 => ?_)
  replace hHeld1 := hHeld1 rfl
  clear hK K
  try simp only [List.getElem_toArray, List.getElem_cons_zero, List.getElem_cons_succ, Act.put, List.setIfInBounds_toArray, List.set_cons_zero, List.set_cons_succ]
  refine late.ready (rs := [5]) (by kernel_rfl) (by simp) ?_
  refine late.Each.cons rfl (fun K hK => ?_) late.Each.nil
  try simp only [List.getElem_toArray, List.getElem_cons_zero, List.getElem_cons_succ]
  go_simp
  obtain ⟨e0, e1, f0, f1⟩ := HQ.out _ hot.out
  have HE := Lib.hid (set_two (x := .int .i64 kd) (y := .slice (some ⟨g, 0, none⟩) n cp) e0 e1)
  have HS2 : Hid (Only (fun q => q = q4) W1 ((W1.setCell ⟨q4, 0, none⟩ (.int .i64 kd)).setCell ⟨q4, 1, none⟩ (.slice (some ⟨g, 0, none⟩) n cp))) := Lib.hid (((Only.refl (fun q => q = q4) W1).setCell (p := ⟨q4, 0, none⟩) (.inl rfl) _).setCell (p := ⟨q4, 1, none⟩) (.inl rfl) _)
  have HSS := Lib.hid (imp3q (HS.out _ hot.out) HS2.out HNE.out)
  go_simp
  refine hK.out _ _ (fun _ => HSS.out) (fun hHeld2 => ?_)
  replace hHeld2 := hHeld2 rfl
  clear hK K
  try simp only [List.getElem_toArray, List.getElem_cons_zero, List.getElem_cons_succ, Act.put, List.setIfInBounds_toArray, List.set_cons_zero, List.set_cons_succ]
  refine late.take (i := 6) [7] (v := ?_) rfl (by kernel_rfl) (by kernel_rfl) (by kernel_rfl) (by kernel_rfl) (fun _ _ _ h => h) (Or.inl ⟨by rfl, ?_⟩) (by assumption) ?_
  rotate_left 1
  · intro w' hSw
    try dsimp only at hSw
    go_simp
    try with_reducible rfl
  try simp only [List.getElem_toArray, List.getElem_cons_zero, List.getElem_cons_succ, Act.put, List.setIfInBounds_toArray, List.set_cons_zero, List.set_cons_succ]
  refine late.take (i := 7) [] (v := ?_) rfl (by kernel_rfl) (by kernel_rfl) (by kernel_rfl) (by kernel_rfl) (fun _ _ _ h => h) (Or.inl ⟨by rfl, ?_⟩) (by assumption) ?_
  rotate_left 1
  · intro w' hSw
    try dsimp only at hSw
    go_simp
    try with_reducible rfl
  try simp only [List.getElem_toArray, List.getElem_cons_zero, List.getElem_cons_succ, Act.put, List.setIfInBounds_toArray, List.set_cons_zero, List.set_cons_succ]
  refine late.done (by kernel_rfl) ?_ _
  refine NoPanic.normal ?_
  go_wp2_with fail
  refine bodyPost_ret (v := .tuple #[.agg #[.int .i64 kd, .slice (some ⟨g, 0, none⟩) n cp], .int .i64 (per : Int), .int .i64 0]) (by simp [results, Try.results15, go_sem, HE.out.1, HE.out.2]) rfl ?_
  refine ⟨g, cp, rfl, ?_, HGS.out, (HO2.out.trans hot.out).then HS2.out (fun q hq e => by have := HQW.out; omega)⟩
  refine HOW.out.only HS2.out (fun x hx e => ?_)
  have hx : g = x := by simpa [Value.ownBlock] using hx
  have := HGQ.out
  omega
theorem at_miss_lo {S : Nat → Prop} (p op : Nat) (v : Value) (m : Option Nat) (nn : Nat) (C : Ac → Option (List Int)) (L : List Ps) (i : Int) (hi : i < 0) (w : World) (h : JnAt S w p v op m nn C L) :
    Calls Try.prog 15 #[.pointer (some ⟨p, 0, none⟩), .int .i64 i] w fun e w' => e = .returned (.tuple #[.agg #[.int .i64 0, .slice none 0 0], .int .i64 0, .int .i64 7]) ∧ Only (fun _ => False) w w' := by
  have hlen := h.len
  obtain ⟨a, cap, rfl, -⟩ := h.own.reads
  have c0 : (w.alloc (.cells #[.int .i64 0, .slice none 0 0] 25)).cell? ⟨p, 0, none⟩ = some (.slice a L.length cap) := ((Only.refl (fun _ => False) w).alloc _).cell' h.jc.c0 (fun f => f)
  have HN : Hid (Only (fun _ => False) w (w.alloc (.cells #[.int .i64 0, .slice none 0 0] 25))) := Lib.hid ((Only.refl _ w).alloc _)
  clear h
  go_enter Try.func15, Try.ntmps15
  go_wp2_with fail
  refine bodyPost_ret (v := .tuple #[.agg #[.int .i64 0, .slice none 0 0], .int .i64 0, .int .i64 7]) (by simp [results, Try.results15, go_sem]) rfl ?_
  exact ⟨rfl, HN.out⟩
theorem at_miss_hi {S : Nat → Prop} (p op : Nat) (v : Value) (m : Option Nat) (nn : Nat) (C : Ac → Option (List Int)) (L : List Ps) (i : Int) (hi : (L.length : Int) ≤ i) (w : World) (h : JnAt S w p v op m nn C L) :
    Calls Try.prog 15 #[.pointer (some ⟨p, 0, none⟩), .int .i64 i] w fun e w' => e = .returned (.tuple #[.agg #[.int .i64 0, .slice none 0 0], .int .i64 0, .int .i64 7]) ∧ Only (fun _ => False) w w' := by
  have hlen := h.len
  obtain ⟨a, cap, rfl, -⟩ := h.own.reads
  have c0 : (w.alloc (.cells #[.int .i64 0, .slice none 0 0] 25)).cell? ⟨p, 0, none⟩ = some (.slice a L.length cap) := ((Only.refl (fun _ => False) w).alloc _).cell' h.jc.c0 (fun f => f)
  have hlo : ¬ i < 0 := by omega
  have HN : Hid (Only (fun _ => False) w (w.alloc (.cells #[.int .i64 0, .slice none 0 0] 25))) := Lib.hid ((Only.refl _ w).alloc _)
  clear h
  go_enter Try.func15, Try.ntmps15
  go_wp2_with fail
  refine bodyPost_ret (v := .tuple #[.agg #[.int .i64 0, .slice none 0 0], .int .i64 0, .int .i64 7]) (by simp [results, Try.results15, go_sem]) rfl ?_
  exact ⟨rfl, HN.out⟩
theorem nil_at (w : World) : Calls Try.prog 15 #[.pointer none, .int .i64 0] w fun e w' => e = .returned (.tuple #[.agg #[.int .i64 0, .slice none 0 0], .int .i64 0, .int .i64 1]) ∧ Only (fun _ => False) w w' := by
  have HN : Hid (Only (fun _ => False) w (w.alloc (.cells #[.int .i64 0, .slice none 0 0] 25))) := Lib.hid ((Only.refl _ w).alloc _)
  go_enter Try.func15, Try.ntmps15
  go_wp2_with fail
  refine bodyPost_ret (v := .tuple #[.agg #[.int .i64 0, .slice none 0 0], .int .i64 0, .int .i64 1]) (by simp [results, Try.results15, go_sem]) rfl ?_
  exact ⟨rfl, HN.out⟩
theorem nil_post (w : World) : Calls Try.prog 13 #[.pointer none, .agg #[.int .i64 0, .slice none 0 0]] w fun e w' => e = .returned (.tuple #[.int .i64 0, .int .i64 1]) ∧ Only (fun _ => False) w w' := by
  have HO1 : Hid (∀ o, Only (fun _ => False) w (w.alloc o)) := Lib.hid (fun o => (Only.refl _ w).alloc o)
  have HO2 : Hid (∀ o o', Only (fun _ => False) w ((w.alloc o).alloc o')) := Lib.hid (fun o o' => ((Only.refl _ w).alloc o).alloc o')
  go_enter Try.func13, Try.ntmps13
  go_wp2_with fail
  go_ret2
  exact ⟨rfl, by first | exact Only.refl _ _ | exact HO1.out _ | exact HO2.out _ _⟩
theorem nil_close (w : World) : Calls Try.prog 14 #[.pointer none] w fun e w' => e = .returned (.tuple #[.int .i64 0, .int .i64 1]) ∧ Only (fun _ => False) w w' := by
  have HO1 : Hid (∀ o, Only (fun _ => False) w (w.alloc o)) := Lib.hid (fun o => (Only.refl _ w).alloc o)
  have HO2 : Hid (∀ o o', Only (fun _ => False) w ((w.alloc o).alloc o')) := Lib.hid (fun o o' => ((Only.refl _ w).alloc o).alloc o')
  go_enter Try.func14, Try.ntmps14
  go_wp2_with fail
  go_ret2
  exact ⟨rfl, by first | exact Only.refl _ _ | exact HO1.out _ | exact HO2.out _ _⟩
theorem nil_trial (w : World) : Calls Try.prog 16 #[.pointer none, .int .i64 0] w fun e w' => e = .returned (.tuple #[.int .i64 0, .int .i64 0, .int .i64 1]) ∧ Only (fun _ => False) w w' := by
  have HO1 : Hid (∀ o, Only (fun _ => False) w (w.alloc o)) := Lib.hid (fun o => (Only.refl _ w).alloc o)
  have HO2 : Hid (∀ o o', Only (fun _ => False) w ((w.alloc o).alloc o')) := Lib.hid (fun o o' => ((Only.refl _ w).alloc o).alloc o')
  go_enter Try.func16, Try.ntmps16
  go_wp2_with fail
  go_ret3
  exact ⟨rfl, by first | exact Only.refl _ _ | exact HO1.out _ | exact HO2.out _ _⟩
theorem nil_period (w : World) : Calls Try.prog 18 #[.pointer none] w fun e w' => e = .returned (.int .i64 0) ∧ Only (fun _ => False) w w' := by
  have HO1 : Hid (∀ o, Only (fun _ => False) w (w.alloc o)) := Lib.hid (fun o => (Only.refl _ w).alloc o)
  have HO2 : Hid (∀ o o', Only (fun _ => False) w ((w.alloc o).alloc o')) := Lib.hid (fun o o' => ((Only.refl _ w).alloc o).alloc o')
  go_enter Try.func18, Try.ntmps18
  go_wp2_with fail
  go_ret
  exact ⟨rfl, by first | exact Only.refl _ _ | exact HO1.out _ | exact HO2.out _ _⟩
theorem nil_len (w : World) : Calls Try.prog 19 #[.pointer none] w fun e w' => e = .returned (.int .i64 0) ∧ Only (fun _ => False) w w' := by
  have HO1 : Hid (∀ o, Only (fun _ => False) w (w.alloc o)) := Lib.hid (fun o => (Only.refl _ w).alloc o)
  have HO2 : Hid (∀ o o', Only (fun _ => False) w ((w.alloc o).alloc o')) := Lib.hid (fun o o' => ((Only.refl _ w).alloc o).alloc o')
  go_enter Try.func19, Try.ntmps19
  go_wp2_with fail
  go_ret
  exact ⟨rfl, by first | exact Only.refl _ _ | exact HO1.out _ | exact HO2.out _ _⟩
theorem nil_balance (w : World) : Calls Try.prog 20 #[.pointer none, .agg #[.int .i64 0, .int .i64 0, .int .i64 0]] w fun e w' => e = .returned (.int .i64 0) ∧ Only (fun _ => False) w w' := by
  have HO1 : Hid (∀ o, Only (fun _ => False) w (w.alloc o)) := Lib.hid (fun o => (Only.refl _ w).alloc o)
  have HO2 : Hid (∀ o o', Only (fun _ => False) w ((w.alloc o).alloc o')) := Lib.hid (fun o o' => ((Only.refl _ w).alloc o).alloc o')
  go_enter Try.func20, Try.ntmps20
  go_wp2_with fail
  go_ret
  exact ⟨rfl, by first | exact Only.refl _ _ | exact HO1.out _ | exact HO2.out _ _⟩
theorem nil_moved (w : World) : Calls Try.prog 21 #[.pointer none, .agg #[.int .i64 0, .int .i64 0, .int .i64 0], .int .i64 0] w fun e w' => e = .returned (.int .i64 0) ∧ Only (fun _ => False) w w' := by
  have HO1 : Hid (∀ o, Only (fun _ => False) w (w.alloc o)) := Lib.hid (fun o => (Only.refl _ w).alloc o)
  have HO2 : Hid (∀ o o', Only (fun _ => False) w ((w.alloc o).alloc o')) := Lib.hid (fun o o' => ((Only.refl _ w).alloc o).alloc o')
  go_enter Try.func21, Try.ntmps21
  go_wp2_with fail
  go_ret
  exact ⟨rfl, by first | exact Only.refl _ _ | exact HO1.out _ | exact HO2.out _ _⟩
theorem nil_accounts (w : World) : Calls Try.prog 22 #[.pointer none] w fun e w' => e = .returned (.slice none 0 0) ∧ Only (fun _ => False) w w' := by
  have HO1 : Hid (∀ o, Only (fun _ => False) w (w.alloc o)) := Lib.hid (fun o => (Only.refl _ w).alloc o)
  have HO2 : Hid (∀ o o', Only (fun _ => False) w ((w.alloc o).alloc o')) := Lib.hid (fun o o' => ((Only.refl _ w).alloc o).alloc o')
  go_enter Try.func22, Try.ntmps22
  go_wp2_with fail
  go_ret
  exact ⟨rfl, by first | exact Only.refl _ _ | exact HO1.out _ | exact HO2.out _ _⟩
theorem none_any (w : World) : Calls Try.prog 12 #[] w fun e w' => e = .returned (.pointer none) ∧ w' = w := by
  go_enter Try.func12, Try.ntmps12
  go_wp2_with fail
  go_ret
  exact ⟨rfl, rfl⟩
end Go.Proofs.Ytdjiljkdnpmilaa.jnw

