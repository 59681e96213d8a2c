/- Several texts together: BigM, BigW, BigAdd, BigPlus, IntM, BigInt, CrcMath, CrcStep, CrcMore, CrcSum, CrcLin, PpCrc. -/
import Derived.Laws.BitsAllLaws
import Derived.Test.YtkbaafgaaiekpaaMem
import Derived.RegionTactic
import Derived.ChangeAlike
import Derived.Outline
import Derived.ChangeKeysEq
import Derived.IntWalk
import Derived.RowKit
import Derived.Test.YtkbaafgaaiekpaaRows
import Derived.WalkKit
import Derived.WalkSpells
import Derived.Below
import Derived.Lib.Hide
import Derived.Lib.SmallJoins
namespace Go.Proofs.Ytkbaafgaaiekpaa.bigm
set_option linter.unusedVariables false

/-- the i-th part of a number -/
def limb (n i : Nat) : Nat := n / 4294967296 ^ i % 4294967296

theorem limb_lt (n i : Nat) : limb n i < 4294967296 := Nat.mod_lt _ (by omega)

theorem pow_pos32 (i : Nat) : 0 < 4294967296 ^ i := Nat.pow_pos (by omega)

/-- the lower parts, and one more -/
theorem mod_step (n i : Nat) : n % 4294967296 ^ (i + 1) = n % 4294967296 ^ i + limb n i * 4294967296 ^ i := by
  have h1 : n % 4294967296 ^ (i + 1) / 4294967296 ^ i = limb n i := by
    unfold limb; rw [Nat.pow_succ, Nat.mod_mul_right_div_self]
  have h2 : n % 4294967296 ^ (i + 1) % 4294967296 ^ i = n % 4294967296 ^ i := by
    rw [Nat.pow_succ, Nat.mod_mul_right_mod]
  have h3 := Nat.div_add_mod (n % 4294967296 ^ (i + 1)) (4294967296 ^ i)
  rw [h1, h2, Nat.mul_comm] at h3
  omega

/-- what is carried -/
def over (n m i : Nat) : Nat := (n % 4294967296 ^ i + m % 4294967296 ^ i) / 4294967296 ^ i

theorem over_zero (n m : Nat) : over n m 0 = 0 := by unfold over; simp [Nat.mod_one]

theorem over_le (n m i : Nat) : over n m i ≤ 1 := by
  unfold over
  have hp := pow_pos32 i
  have h1 := Nat.mod_lt n hp
  have h2 := Nat.mod_lt m hp
  have : (n % 4294967296 ^ i + m % 4294967296 ^ i) / 4294967296 ^ i < 2 := by
    rw [Nat.div_lt_iff_lt_mul hp]; omega
  omega

theorem add_step (n m i : Nat) : (limb n i + limb m i + over n m i) % 4294967296 = limb (n + m) i ∧ (limb n i + limb m i + over n m i) / 4294967296 = over n m (i + 1) := by
  have hp := pow_pos32 i
  have e : (n % 4294967296 ^ (i + 1) + m % 4294967296 ^ (i + 1)) / 4294967296 ^ i = limb n i + limb m i + over n m i := by
    rw [mod_step n i, mod_step m i]
    unfold over
    rw [show n % 4294967296 ^ i + limb n i * 4294967296 ^ i + (m % 4294967296 ^ i + limb m i * 4294967296 ^ i) = (n % 4294967296 ^ i + m % 4294967296 ^ i) + (limb n i + limb m i) * 4294967296 ^ i by rw [Nat.add_mul]; omega]
    rw [Nat.add_mul_div_right _ _ hp]; omega
  constructor
  · rw [← e]
    unfold limb
    rw [← Nat.mod_mul_right_div_self, ← Nat.mod_mul_right_div_self (n + m)]
    rw [← Nat.pow_succ, ← Nat.add_mod]
  · rw [← e]
    unfold over
    rw [Nat.div_div_eq_div_mul, ← Nat.pow_succ]

/-- a number's parts, put together -/
def val (A : Nat → Nat) : Nat → Nat
  | 0 => 0
  | k + 1 => val A k + A k * 4294967296 ^ k

theorem val_lt (A : Nat → Nat) (k : Nat) (h : ∀ i, i < k → A i < 4294967296) : val A k < 4294967296 ^ k := by
  induction k with
  | zero => simp [val]
  | succ k ih =>
    have h1 := ih (fun i hi => h i (by omega))
    have h2 := h k (by omega)
    show val A k + A k * 4294967296 ^ k < _
    rw [Nat.pow_succ]
    have : A k * 4294967296 ^ k ≤ 4294967295 * 4294967296 ^ k := Nat.mul_le_mul_right _ (by omega)
    omega

theorem val_limb (n k : Nat) : val (limb n) k = n % 4294967296 ^ k := by
  induction k with
  | zero => simp [val, Nat.mod_one]
  | succ k ih => show val (limb n) k + limb n k * 4294967296 ^ k = _; rw [ih, mod_step]

/-- parts are those of what they come to -/
theorem limb_val (A : Nat → Nat) (k : Nat) (h : ∀ i, i < k → A i < 4294967296) : ∀ i, i < k → limb (val A k) i = A i := by
  induction k with
  | zero => intro i hi; omega
  | succ k ih =>
    intro i hi
    have hlt := val_lt A k (fun j hj => h j (by omega))
    have hp := pow_pos32 k
    by_cases hik : i = k
    · subst hik
      unfold limb
      show (val A i + A i * 4294967296 ^ i) / 4294967296 ^ i % 4294967296 = A i
      rw [Nat.add_mul_div_right _ _ hp, Nat.div_eq_of_lt hlt, Nat.zero_add, Nat.mod_eq_of_lt (h i (by omega))]
    · have h1 := ih (fun j hj => h j (by omega)) i (by omega)
      have h2 : val A (k + 1) % 4294967296 ^ (i + 1) = val A k % 4294967296 ^ (i + 1) := by
        show (val A k + A k * 4294967296 ^ k) % _ = _
        obtain ⟨d, hd⟩ : ∃ d, k = i + 1 + d := ⟨k - (i + 1), by omega⟩
        rw [hd, Nat.pow_add, Nat.mul_left_comm, Nat.add_mul_mod_self_left]
      have h3 : ∀ x, limb x i = x % 4294967296 ^ (i + 1) / 4294967296 ^ i := fun x => by
        unfold limb; rw [Nat.pow_succ, Nat.mod_mul_right_div_self]
      rw [h3, h2, ← h3, h1]

theorem sub_mod {n m K : Nat} (hK : 0 < K) (h : m ≤ n) : (n - m) % K + m % K = n % K + (if n % K < m % K then K else 0) := by
  have hn := Nat.div_add_mod n K
  have hm := Nat.div_add_mod m K
  have ln := Nat.mod_lt n hK
  have lm := Nat.mod_lt m hK
  by_cases hlt : n % K < m % K
  · rw [if_pos hlt]
    have hq : m / K < n / K := by
      rcases Nat.lt_or_ge (m / K) (n / K) with h1 | h1
      · exact h1
      · have := Nat.mul_le_mul_left K h1; omega
    obtain ⟨t, ht⟩ : ∃ t, n / K = m / K + 1 + t := ⟨n / K - (m / K + 1), by omega⟩
    have e : K * (n / K) = K * (m / K) + K + K * t := by rw [ht, Nat.mul_add, Nat.mul_add, Nat.mul_one]
    have e2 : n - m = (n % K + K - m % K) + K * t := by omega
    rw [e2, Nat.add_mul_mod_self_left, Nat.mod_eq_of_lt (by omega)]; omega
  · rw [if_neg hlt]
    have hq : m / K ≤ n / K := Nat.div_le_div_right h
    obtain ⟨t, ht⟩ : ∃ t, n / K = m / K + t := ⟨n / K - m / K, by omega⟩
    have e : K * (n / K) = K * (m / K) + K * t := by rw [ht, Nat.mul_add]
    have e2 : n - m = (n % K - m % K) + K * t := by omega
    rw [e2, Nat.add_mul_mod_self_left, Nat.mod_eq_of_lt (by omega)]; omega

/-- what is borrowed -/
def under (n m i : Nat) : Nat := if n % 4294967296 ^ i < m % 4294967296 ^ i then 1 else 0
theorem under_zero (n m : Nat) : under n m 0 = 0 := by unfold under; simp [Nat.mod_one]
theorem under_le (n m i : Nat) : under n m i ≤ 1 := by unfold under; split <;> omega

theorem sub_step {n m : Nat} (h : m ≤ n) (i : Nat) : limb n i + 4294967296 * under n m (i + 1) = limb (n - m) i + limb m i + under n m i := by
  have hp := pow_pos32 i
  have h1 := sub_mod (K := 4294967296 ^ i) hp h
  have h2 := sub_mod (K := 4294967296 ^ (i + 1)) (pow_pos32 (i + 1)) h
  rw [mod_step n i, mod_step m i, mod_step (n - m) i] at h2
  have e1 : (if n % 4294967296 ^ i < m % 4294967296 ^ i then 4294967296 ^ i else 0) = under n m i * 4294967296 ^ i := by
    unfold under; split <;> simp
  have e2 : (if n % 4294967296 ^ i + limb n i * 4294967296 ^ i < m % 4294967296 ^ i + limb m i * 4294967296 ^ i then 4294967296 ^ (i + 1) else 0) = under n m (i + 1) * 4294967296 * 4294967296 ^ i := by
    rw [← mod_step, ← mod_step]
    unfold under
    split
    · rw [Nat.pow_succ, Nat.one_mul, Nat.mul_comm]
    · simp
  rw [e1] at h1
  rw [e2] at h2
  have h3 : (limb n i + 4294967296 * under n m (i + 1)) * 4294967296 ^ i = (limb (n - m) i + limb m i + under n m i) * 4294967296 ^ i := by
    rw [Nat.add_mul, Nat.add_mul, Nat.add_mul, Nat.mul_comm 4294967296 (under n m (i + 1))]
    omega
  exact Nat.eq_of_mul_eq_mul_right hp h3

theorem div_step (n k : Nat) : n / 4294967296 ^ k = n / 4294967296 ^ (k + 1) * 4294967296 + limb n k := by
  unfold limb
  rw [Nat.pow_succ, ← Nat.div_div_eq_div_mul]
  have := Nat.div_add_mod (n / 4294967296 ^ k) 4294967296
  omega

theorem lt_of_div {n m k : Nat} (h : n / 4294967296 ^ k < m / 4294967296 ^ k) : n < m := by
  rcases Nat.lt_or_ge n m with h1 | h1
  · exact h1
  · have := Nat.div_le_div_right (c := 4294967296 ^ k) h1
    omega

theorem less_at {n m k : Nat} (h : n / 4294967296 ^ (k + 1) = m / 4294967296 ^ (k + 1)) (hne : limb n k ≠ limb m k) : decide (n < m) = decide (limb n k < limb m k) := by
  have h1 := div_step n k
  have h2 := div_step m k
  rcases Nat.lt_or_gt_of_ne hne with hl | hl
  · have : n < m := lt_of_div (k := k) (by omega)
    simp [this, hl]
  · have : m < n := lt_of_div (k := k) (by omega)
    have a : ¬ n < m := by omega
    have b : ¬ limb n k < limb m k := by omega
    simp [a, b]

theorem div_top {n k : Nat} (h : n < 4294967296 ^ k) : n / 4294967296 ^ k = 0 := Nat.div_eq_of_lt h

theorem big_of_limb {n i : Nat} (hi : 2 ≤ i) (h : ¬ limb n i = 0) : 18446744073709551616 ≤ n := by
  rcases Nat.lt_or_ge n 18446744073709551616 with h1 | h1
  · exfalso
    apply h
    unfold limb
    have : 4294967296 ^ 2 ≤ 4294967296 ^ i := Nat.pow_le_pow_right (by omega) hi
    rw [Nat.div_eq_of_lt (by omega)]
  · exact h1

theorem val_high (n : Nat) (h : ∀ j, 2 ≤ j → j < 10 → limb n j = 0) : ∀ k, k + 2 ≤ 10 → val (limb n) (k + 2) = val (limb n) 2 := by
  intro k
  induction k with
  | zero => intro _; rfl
  | succ k ih =>
    intro h2
    show val (limb n) (k + 2) + limb n (k + 2) * 4294967296 ^ (k + 2) = val (limb n) 2
    rw [ih (by omega), h (k + 2) (by omega) (by omega), Nat.zero_mul, Nat.add_zero]

theorem small_of {n a b : Nat} (h1 : a = n) (h2 : b = n % 18446744073709551616) (h3 : a = b) : n < 18446744073709551616 := by omega

theorem small_of_limbs {n : Nat} (hn : n < 4294967296 ^ 10) (h : ∀ j, 2 ≤ j → j < 10 → limb n j = 0) : n < 18446744073709551616 :=
  small_of ((val_limb n 10).trans (Nat.mod_eq_of_lt hn)) (val_limb n 2) (val_high n h 8 (Nat.le_refl _))

theorem or_limbs {n a b : Nat} (hn : n < 18446744073709551616) (ha : a = n % 4294967296) (hb : b = n / 4294967296) : bits .or .u64 (a : Int) (IntKind.u64.wrap ((b : Int) * 4294967296)) = (n : Int) := by
  have hw : IntKind.u64.wrap ((b : Int) * 4294967296) = ((b * 4294967296 : Nat) : Int) := by
    rw [IntKind.wrap_u64]; omega
  rw [hw, u64_or_nat _ _ (by omega) (by omega)]
  have h2 := Nat.shiftLeft_add_eq_or_of_lt (b := a) (i := 32) (by omega) b
  rw [Nat.shiftLeft_eq] at h2
  have e : (2 : Nat) ^ 32 = 4294967296 := by decide
  rw [e] at h2
  rw [Nat.or_comm, ← h2]
  congr 1
  omega
end Go.Proofs.Ytkbaafgaaiekpaa.bigm

namespace Go.Proofs.Ytkbaafgaaiekpaa.bigw
open Go.RowKit mem bigm
set_option linter.unusedVariables false

/-- a number in parts, as a value -/
def big (A : Nat → Nat) (s : Bool) : Value := .agg #[.int .u64 (A 0 : Int), .int .u64 (A 1 : Int), .int .u64 (A 2 : Int), .int .u64 (A 3 : Int), .int .u64 (A 4 : Int), .int .u64 (A 5 : Int), .int .u64 (A 6 : Int), .int .u64 (A 7 : Int), .int .u64 (A 8 : Int), .int .u64 (A 9 : Int), .bool s]
def bigC (A : Nat → Nat) (s : Bool) : Array Value := #[.int .u64 (A 0 : Int), .int .u64 (A 1 : Int), .int .u64 (A 2 : Int), .int .u64 (A 3 : Int), .int .u64 (A 4 : Int), .int .u64 (A 5 : Int), .int .u64 (A 6 : Int), .int .u64 (A 7 : Int), .int .u64 (A 8 : Int), .int .u64 (A 9 : Int), .bool s]

theorem bigC_get (A : Nat → Nat) (s : Bool) (i : Nat) (h : i < 10) : (bigC A s)[i]? = some (.int .u64 (A i : Int)) := by
  match i, h with
  | 0, _ => rfl
  | 1, _ => rfl
  | 2, _ => rfl
  | 3, _ => rfl
  | 4, _ => rfl
  | 5, _ => rfl
  | 6, _ => rfl
  | 7, _ => rfl
  | 8, _ => rfl
  | 9, _ => rfl

theorem limbs64 (k : Nat) (h : k < 18446744073709551616) (s : Bool) : big (limb k) s = .agg #[.int .u64 ((k % 4294967296 : Nat) : Int), .int .u64 ((k / 4294967296 : Nat) : Int), .int .u64 0, .int .u64 0, .int .u64 0, .int .u64 0, .int .u64 0, .int .u64 0, .int .u64 0, .int .u64 0, .bool s] := by
  have h0 : limb k 0 = k % 4294967296 := by unfold limb; simp
  have h1 : limb k 1 = k / 4294967296 := by unfold limb; simp; omega
  have hz : ∀ i, 2 ≤ i → limb k i = 0 := by
    intro i hi
    unfold limb
    have : 4294967296 ^ 2 ≤ 4294967296 ^ i := Nat.pow_le_pow_right (by omega) hi
    rw [Nat.div_eq_of_lt (by omega)]
  unfold big
  rw [h0, h1, hz 2 (by omega), hz 3 (by omega), hz 4 (by omega), hz 5 (by omega), hz 6 (by omega), hz 7 (by omega), hz 8 (by omega), hz 9 (by omega)]
  rfl

theorem and_low (z : Int) (h0 : 0 ≤ z) (h1 : z < 18446744073709551616) : bits .and .u64 z 4294967295 = z % 4294967296 := by go_bits2

/-- the cells of a boxed number -/
theorem box_cells (w : World) (A : Nat → Nat) (s : Bool) (t : TypeId) (g : Nat) (hg : g = w.heap.size) : ∀ i, i < 10 → (w.alloc (.cells (bigC A s) t)).cell? ⟨g, i, none⟩ = some (.int .u64 (A i : Int)) := by
  intro i hi
  subst hg
  rw [Go.Joins.cell_of_block (cs := bigC A s) (t := t) (fr := (0, 0)) (by rw [heap_alloc, if_pos rfl]), bigC_get A s i hi]

end Go.Proofs.Ytkbaafgaaiekpaa.bigw

namespace Go.Proofs.Ytkbaafgaaiekpaa.bigw
open Go.RowKit mem bigm
set_option linter.unusedVariables false

theorem off_ne {b i j : Nat} (h : i ≠ j) : (⟨b, i, none⟩ : Addr) ≠ ⟨b, j, none⟩ := fun e => h (by injection e)

/-- the first i parts of one number, the others of another -/
def mix (N n i j : Nat) : Nat := if j < i then limb N j else limb n j

theorem frozen_new (w : World) (C : Array Value) (t : TypeId) (g j : Nat) (hg : g = w.heap.size) : (w.alloc (.cells C t)).frozen? ⟨g, j, none⟩ = false := by subst hg; simp

theorem cell_new (w : World) (A : Nat → Nat) (s : Bool) (t : TypeId) (g : Nat) (hg : g = w.heap.size) (j : Nat) : (w.alloc (.cells (bigC A s) t)).cell? ⟨g, j, none⟩ = (bigC A s)[j]? := by
  subst hg
  rw [Go.Joins.cell_of_block (cs := bigC A s) (t := t) (fr := (0, 0)) (by rw [heap_alloc, if_pos rfl])]

/-- three numbers boxed, one behind the other -/
def boxes (w : World) (A B C : Nat → Nat) (s t u : Bool) (ty : TypeId) : World := ((w.alloc (.cells (bigC A s) ty)).alloc (.cells (bigC B t) ty)).alloc (.cells (bigC C u) ty)

theorem boxes_one (w : World) (A B C : Nat → Nat) (s t u : Bool) (ty : TypeId) (j : Nat) (v : Value) (h : (bigC A s)[j]? = some v) : (boxes w A B C s t u ty).cell? ⟨w.heap.size, j, none⟩ = some v ∧ (boxes w A B C s t u ty).frozen? ⟨w.heap.size, j, none⟩ = false := by
  have h1 := cell_new w A s ty _ rfl j
  rw [h] at h1
  have o : Only (fun _ => False) (w.alloc (.cells (bigC A s) ty)) (boxes w A B C s t u ty) := ((Only.refl _ _).alloc _).alloc _
  exact ⟨o.cell' h1 (fun f => f), (o.frozen (p := ⟨w.heap.size, j, none⟩) (by rw [size_alloc]; exact Nat.lt_succ_self _) (fun f => f)).trans (frozen_new w _ ty _ j rfl)⟩
theorem boxes_two (w : World) (A B C : Nat → Nat) (s t u : Bool) (ty : TypeId) (j : Nat) (v : Value) (h : (bigC B t)[j]? = some v) : (boxes w A B C s t u ty).cell? ⟨w.heap.size + 1, j, none⟩ = some v := by
  have h1 := cell_new (w.alloc (.cells (bigC A s) ty)) B t ty (w.heap.size + 1) (by rw [size_alloc]) j
  rw [h] at h1
  exact ((Only.refl (fun _ => False) _).alloc _).cell' h1 (fun f => f)
theorem boxes_three (w : World) (A B C : Nat → Nat) (s t u : Bool) (ty : TypeId) (j : Nat) (v : Value) (h : (bigC C u)[j]? = some v) : (boxes w A B C s t u ty).cell? ⟨w.heap.size + 1 + 1, j, none⟩ = some v ∧ (boxes w A B C s t u ty).frozen? ⟨w.heap.size + 1 + 1, j, none⟩ = false := by
  have h1 := cell_new ((w.alloc (.cells (bigC A s) ty)).alloc (.cells (bigC B t) ty)) C u ty (w.heap.size + 1 + 1) (by rw [size_alloc, size_alloc]) j
  rw [h] at h1
  exact ⟨h1, frozen_new _ _ ty _ j (by rw [size_alloc, size_alloc])⟩
theorem boxes_size (w : World) (A B C : Nat → Nat) (s t u : Bool) (ty : TypeId) : (boxes w A B C s t u ty).heap.size = w.heap.size + 3 := by
  unfold boxes; rw [size_alloc, size_alloc, size_alloc]
theorem boxes_only (w : World) (A B C : Nat → Nat) (s t u : Bool) (ty : TypeId) : Only (fun _ => False) w (boxes w A B C s t u ty) := (((Only.refl _ _).alloc _).alloc _).alloc _

end Go.Proofs.Ytkbaafgaaiekpaa.bigw

namespace Go.Proofs.Ytkbaafgaaiekpaa.bigw
open Go.RowKit mem bigm
set_option linter.unusedVariables false

theorem items_eq (w : World) (d : Nat) (xs ys : Array Value) (A B : Nat → Nat) : ∀ (is : List Nat), (∀ i ∈ is, xs[i]? = some (.int .u64 (A i : Int)) ∧ ys[i]? = some (.int .u64 (B i : Int))) →
    ∃ r : Bool, (Op.eqItems (d + 1) 24 1 xs ys is).run Try.prog w = .ok r w ∧ (r = true ↔ ∀ i ∈ is, A i = B i) := by
  intro is
  induction is with
  | nil => intro _; exact ⟨true, by simp [Op.eqItems], by simp⟩
  | cons i is ih =>
    intro h
    obtain ⟨h1, h2⟩ := h i (by simp)
    obtain ⟨r, hr, hiff⟩ := ih (fun j hj => h j (by simp [hj]))
    have hpk : Try.prog.plainKey 24 = true := by kernel_rfl
    have p1 := run_part_plain (P := Try.prog) (w := w) hpk (xs := xs) (off := i * 1) (v := .int .u64 (A i : Int)) (by rw [Nat.mul_one]; exact h1)
    have p2 := run_part_plain (P := Try.prog) (w := w) hpk (xs := ys) (off := i * 1) (v := .int .u64 (B i : Int)) (by rw [Nat.mul_one]; exact h2)
    have p3 := run_equalIn_int (P := Try.prog) w d 24 .u64 .u64 (A i : Int) (B i : Int) Try.underlying24
    simp only [Op.eqItems, Sem.run_bind, p1, p2, p3, Result.andThen_ok]
    by_cases hab : A i = B i
    · have : ((A i : Int) == (B i : Int)) = true := by rw [beq_iff_eq]; omega
      rw [this]
      refine ⟨r, by simpa using hr, ?_⟩
      rw [hiff]; simp [hab]
    · have : ((A i : Int) == (B i : Int)) = false := by rw [beq_eq_false_iff_ne]; omega
      rw [this]
      exact ⟨false, by simp, by simp [hab]⟩

/-- a number is none if all its parts are -/
def allZero (A : Nat → Nat) : Bool := (List.range 10).all fun i => A i == 0

theorem boxes_two_frozen (w : World) (A B C : Nat → Nat) (s t u : Bool) (ty : TypeId) (j : Nat) (v : Value) (h : (bigC B t)[j]? = some v) : (boxes w A B C s t u ty).frozen? ⟨w.heap.size + 1, j, none⟩ = false := by
  have h1 := frozen_new (w.alloc (.cells (bigC A s) ty)) (bigC B t) ty (w.heap.size + 1) j (by rw [size_alloc])
  exact (((Only.refl (fun _ => False) _).alloc _).frozen (p := ⟨w.heap.size + 1, j, none⟩) (by rw [size_alloc, size_alloc]; exact Nat.lt_succ_self _) (fun f => f)).trans h1

theorem allZero_limb {n : Nat} (h : n < 4294967296 ^ 10) : allZero (limb n) = decide (n = 0) := by
  rw [Bool.eq_iff_iff]
  unfold allZero
  simp only [List.all_eq_true, List.mem_range, beq_iff_eq, decide_eq_true_eq]
  constructor
  · intro hz
    have h1 := val_limb n 10
    have h2 : ∀ k, k ≤ 10 → val (limb n) k = 0 := by
      intro k
      induction k with
      | zero => intro _; rfl
      | succ k ih => intro hk; show val (limb n) k + limb n k * _ = 0; rw [ih (by omega), hz k (by omega)]; simp
    rw [h2 10 (by omega), Nat.mod_eq_of_lt h] at h1
    exact h1.symm
  · intro h0 i _
    subst h0
    unfold limb; simp

/-- a number with its sign -/
def sb (x : Int) : Value := big (limb x.natAbs) (decide (x < 0))

theorem sb_unlike {x y : Int} {n m : Nat} {s t : Bool} (hn : x.natAbs = n) (hm : y.natAbs = m) (hs : decide (x < 0) = s) (ht : decide (y < 0) = t) (hst : ¬ s = t) :
    ∀ (d : Nat) (u : Bool), (n < m → d = m - n ∧ u = t) → (m < n → d = n - m ∧ u = s) → (n = m → d = 0 ∧ u = false) → sb (x + y) = big (limb d) u := by
  intro d u h1 h2 h3
  have e : (x + y).natAbs = d ∧ decide (x + y < 0) = u := by
    rcases Nat.lt_trichotomy n m with g | g | g
    · obtain ⟨rfl, rfl⟩ := h1 g
      refine ⟨?_, ?_⟩
      · by_cases g1 : x < 0 <;> by_cases g2 : y < 0 <;> simp [g1, g2] at hs ht <;> subst hs ht <;> simp at hst <;> omega
      · rw [← ht, decide_eq_decide]
        by_cases g1 : x < 0 <;> by_cases g2 : y < 0 <;> simp [g1, g2] at hs ht <;> subst hs ht <;> simp at hst <;> omega
    · obtain ⟨rfl, rfl⟩ := h3 g
      refine ⟨?_, ?_⟩
      · by_cases g1 : x < 0 <;> by_cases g2 : y < 0 <;> simp [g1, g2] at hs ht <;> subst hs ht <;> simp at hst <;> omega
      · rw [decide_eq_false_iff_not]
        by_cases g1 : x < 0 <;> by_cases g2 : y < 0 <;> simp [g1, g2] at hs ht <;> subst hs ht <;> simp at hst <;> omega
    · obtain ⟨rfl, rfl⟩ := h2 g
      refine ⟨?_, ?_⟩
      · by_cases g1 : x < 0 <;> by_cases g2 : y < 0 <;> simp [g1, g2] at hs ht <;> subst hs ht <;> simp at hst <;> omega
      · rw [← hs, decide_eq_decide]
        by_cases g1 : x < 0 <;> by_cases g2 : y < 0 <;> simp [g1, g2] at hs ht <;> subst hs ht <;> simp at hst <;> omega
  unfold sb; rw [e.1, e.2]

end Go.Proofs.Ytkbaafgaaiekpaa.bigw

namespace Go.Proofs.Ytkbaafgaaiekpaa.intm
open Go.RowKit
set_option linter.unusedVariables false

/-- the answer of a sum: a number that is an int, or none -/
def isInt (z : Int) : Bool := decide (-9223372036854775808 ≤ z) && decide (z ≤ 9223372036854775807)
def intOr (z : Int) : Int := if isInt z then z else 0

theorem isInt_iff (z : Int) : isInt z = true ↔ (-9223372036854775808 ≤ z ∧ z ≤ 9223372036854775807) := by
  unfold isInt; rw [Bool.and_eq_true, decide_eq_true_eq, decide_eq_true_eq]
theorem isInt_not (z : Int) : isInt z = false ↔ ¬ (-9223372036854775808 ≤ z ∧ z ≤ 9223372036854775807) := by
  rw [← isInt_iff]; simp

theorem wrap_i64 (n : Int) : IntKind.i64.wrap n = (n + 9223372036854775808) % 18446744073709551616 - 9223372036854775808 := by
  simp [IntKind.wrap, IntKind.bits, IntKind.signed]
  split <;> omega
theorem wrap64_eq (n : Int) : wrap64 n = (n + 9223372036854775808) % 18446744073709551616 - 9223372036854775808 := by unfold wrap64; rfl

theorem wrap_neg (v : BitVec 64) : IntKind.i64.wrap (v.toNat : Int) < 0 ↔ v.msb = true := by
  rw [wrap_i64, BitVec.msb_eq_decide, decide_eq_true_eq]
  have := v.isLt
  have e : (2 : Nat) ^ (64 - 1) = 9223372036854775808 := by decide
  rw [e]
  omega

theorem ofInt_msb {x : Int} (h : -9223372036854775808 ≤ x ∧ x ≤ 9223372036854775807) : (BitVec.ofInt 64 x).msb = decide (x < 0) := by
  rw [BitVec.msb_eq_decide, BitVec.toNat_ofInt]
  have e : (2 : Nat) ^ (64 - 1) = 9223372036854775808 := by decide
  have e2 : ((2 ^ 64 : Nat) : Int) = 18446744073709551616 := by decide
  rw [e, e2, decide_eq_decide]
  omega

theorem xor_neg {x y : Int} (hx : -9223372036854775808 ≤ x ∧ x ≤ 9223372036854775807) (hy : -9223372036854775808 ≤ y ∧ y ≤ 9223372036854775807) : bits .xor .i64 x y < 0 ↔ ¬ (x < 0 ↔ y < 0) := by
  unfold bits
  show IntKind.i64.wrap ((BitVec.ofInt 64 x ^^^ BitVec.ofInt 64 y).toNat : Int) < 0 ↔ _
  rw [wrap_neg, BitVec.msb_xor, ofInt_msb hx, ofInt_msb hy]
  by_cases h1 : x < 0 <;> by_cases h2 : y < 0 <;> simp [h1, h2]

theorem and_neg {x y : Int} (hx : -9223372036854775808 ≤ x ∧ x ≤ 9223372036854775807) (hy : -9223372036854775808 ≤ y ∧ y ≤ 9223372036854775807) : bits .and .i64 x y < 0 ↔ (x < 0 ∧ y < 0) := by
  unfold bits
  show IntKind.i64.wrap ((BitVec.ofInt 64 x &&& BitVec.ofInt 64 y).toNat : Int) < 0 ↔ _
  rw [wrap_neg, BitVec.msb_and, ofInt_msb hx, ofInt_msb hy]
  by_cases h1 : x < 0 <;> by_cases h2 : y < 0 <;> simp [h1, h2]

theorem bits_in (op : BinOp) (x y : Int) : -9223372036854775808 ≤ bits op .i64 x y ∧ bits op .i64 x y ≤ 9223372036854775807 := by
  unfold bits
  rw [wrap_i64]; omega

theorem wrap64_in (z : Int) : -9223372036854775808 ≤ wrap64 z ∧ wrap64 z ≤ 9223372036854775807 := by rw [wrap64_eq]; omega

theorem add_over {a b : Int} (ha : -9223372036854775808 ≤ a ∧ a ≤ 9223372036854775807) (hb : -9223372036854775808 ≤ b ∧ b ≤ 9223372036854775807) :
    bits .and .i64 (bits .xor .i64 a (wrap64 (a + b))) (bits .xor .i64 b (wrap64 (a + b))) < 0 ↔ isInt (a + b) = false := by
  rw [and_neg (bits_in _ _ _) (bits_in _ _ _), xor_neg ha (wrap64_in _), xor_neg hb (wrap64_in _), isInt_not, wrap64_eq]
  omega

theorem sub_over {a b : Int} (ha : -9223372036854775808 ≤ a ∧ a ≤ 9223372036854775807) (hb : -9223372036854775808 ≤ b ∧ b ≤ 9223372036854775807) :
    bits .and .i64 (bits .xor .i64 a b) (bits .xor .i64 a (wrap64 (a - b))) < 0 ↔ isInt (a - b) = false := by
  rw [and_neg (bits_in _ _ _) (bits_in _ _ _), xor_neg ha hb, xor_neg ha (wrap64_in _), isInt_not, wrap64_eq]
  omega

theorem wrap64_of {z : Int} (h : isInt z = true) : wrap64 z = z := by
  rw [isInt_iff] at h
  rw [wrap64_eq]; omega

/-- a product is told by the quotient -/
theorem mul_over {a b : Int} (ha : -9223372036854775808 ≤ a ∧ a ≤ 9223372036854775807) (hb : -9223372036854775808 ≤ b ∧ b ≤ 9223372036854775807) (h0 : b ≠ 0) (hmin : ¬ (a = -9223372036854775808 ∧ b = -1)) :
    wrap64 ((wrap64 (a * b)).tdiv b) = a ↔ isInt (a * b) = true := by
  constructor
  · intro h
    have hc := wrap64_in (a * b)
    obtain ⟨p, hp⟩ : ∃ p, a * b = p := ⟨_, rfl⟩
    rw [hp] at h hc ⊢
    obtain ⟨c, hcc⟩ : ∃ c, wrap64 p = c := ⟨_, rfl⟩
    have hmod : ∃ k : Int, c = p + 18446744073709551616 * k := by
      rw [← hcc, wrap64_eq]
      exact ⟨-((p + 9223372036854775808) / 18446744073709551616), by omega⟩
    rw [hcc] at h hc
    have hdiv := Int.mul_tdiv_add_tmod c b
    have hr : (c.tmod b).natAbs < b.natAbs := by
      rw [Int.natAbs_tmod]; exact Nat.mod_lt _ (by omega)
    have hq : (c.tdiv b).natAbs ≤ c.natAbs := by rw [Int.natAbs_tdiv]; exact Nat.div_le_self _ _
    have hqa : c.tdiv b = a := by
      rw [wrap64_eq] at h
      by_cases hb1 : c = -9223372036854775808 ∧ b = -1
      · obtain ⟨rfl, rfl⟩ := hb1
        have hd : (-9223372036854775808 : Int).tdiv (-1) = 9223372036854775808 := by decide
        rw [hd] at h
        exact absurd (And.intro (show a = -9223372036854775808 by omega) rfl) hmin
      · have hin : c.tdiv b ≤ 9223372036854775807 := by
          by_cases hc1 : c = -9223372036854775808
          · have hb2 : b ≠ -1 := fun e => hb1 ⟨hc1, e⟩
            by_cases hbp : 0 < b
            · have h2 : (c.tdiv b).natAbs = c.natAbs / b.natAbs := Int.natAbs_tdiv ..
              have h3 : c.tdiv b ≤ 0 := by
                have e := Int.mul_tdiv_add_tmod c b
                rcases Int.lt_or_le 0 (c.tdiv b) with h4 | h4
                · have h5 : b * 1 ≤ b * c.tdiv b := Int.mul_le_mul_of_nonneg_left (by omega) (by omega)
                  omega
                · exact h4
              omega
            · have h2 : (c.tdiv b).natAbs = c.natAbs / b.natAbs := Int.natAbs_tdiv ..
              have h3 : c.natAbs / b.natAbs ≤ c.natAbs / 2 := Nat.div_le_div_left (by omega) (by omega)
              omega
          · omega
        omega
    rw [hqa] at hdiv
    have hba : b * a = p := by rw [Int.mul_comm]; exact hp
    rw [hba] at hdiv
    obtain ⟨k, hk⟩ := hmod
    rw [isInt_iff]
    omega
  · intro h
    rw [wrap64_of h, Int.mul_tdiv_cancel _ h0, wrap64_of (by rw [isInt_iff]; exact ha)]
end Go.Proofs.Ytkbaafgaaiekpaa.intm

namespace Go.Proofs.Ytkbaafgaaiekpaa.bigw
open Go.RowKit mem bigm intm
set_option linter.unusedVariables false

set_option maxRecDepth 100000 in
theorem aadd_any (a b : Int) (ha : -9223372036854775808 ≤ a ∧ a ≤ 9223372036854775807) (hb : -9223372036854775808 ≤ b ∧ b ≤ 9223372036854775807) (w : World) :
    Calls Try.prog 72 #[.int .i64 a, .int .i64 b] w fun e w' => e = .returned (.tuple #[.int .i64 (intOr (a + b)), .bool (isInt (a + b))]) ∧ w = w' := by
  have HO := Lib.hid (add_over ha hb)
  go_enter Try.func72, Try.ntmps72
  go_wp2
  · have h : isInt (a + b) = false := HO.out.1 (by assumption)
    have hi : intOr (a + b) = 0 := by unfold intOr; rw [h]; rfl
    rw [hi, h]
    go_ret2
    exact ⟨rfl, rfl⟩
  · have h : isInt (a + b) = true := by
      cases h : isInt (a + b) with
      | true => rfl
      | false => have h2 := HO.out.2 h; omega
    have hi : intOr (a + b) = wrap64 (a + b) := by unfold intOr; rw [h, wrap64_of h]; rfl
    rw [hi, h]
    go_ret2
    exact ⟨rfl, rfl⟩

set_option maxRecDepth 100000 in
theorem asub_any (a b : Int) (ha : -9223372036854775808 ≤ a ∧ a ≤ 9223372036854775807) (hb : -9223372036854775808 ≤ b ∧ b ≤ 9223372036854775807) (w : World) :
    Calls Try.prog 73 #[.int .i64 a, .int .i64 b] w fun e w' => e = .returned (.tuple #[.int .i64 (intOr (a - b)), .bool (isInt (a - b))]) ∧ w = w' := by
  have HO := Lib.hid (sub_over ha hb)
  go_enter Try.func73, Try.ntmps73
  go_wp2
  · have h : isInt (a - b) = false := HO.out.1 (by assumption)
    have hi : intOr (a - b) = 0 := by unfold intOr; rw [h]; rfl
    rw [hi, h]
    go_ret2
    exact ⟨rfl, rfl⟩
  · have h : isInt (a - b) = true := by
      cases h : isInt (a - b) with
      | true => rfl
      | false => have h2 := HO.out.2 h; omega
    have hi : intOr (a - b) = wrap64 (a - b) := by unfold intOr; rw [h, wrap64_of h]; rfl
    rw [hi, h]
    go_ret2
    exact ⟨rfl, rfl⟩

theorem ret_pair {a b : Int} {c : Bool} (h : a = b) : Ending.returned (.tuple #[.int .i64 a, .bool c]) = .returned (.tuple #[.int .i64 b, .bool c]) := by rw [h]

end Go.Proofs.Ytkbaafgaaiekpaa.bigw

namespace Go.Proofs.Ytkbaafgaaiekpaa.crcm

/-- one bit: moved right; the polynomial, if a one fell out -/
def bit1 (n : Nat) : Nat := if n % 2 = 1 then (n / 2) ^^^ 3988292384 else n / 2

def bitk : Nat → Nat → Nat
  | 0, n => n
  | k + 1, n => bit1 (bitk k n)

/-- a byte -/
def byte1 (n c : Nat) : Nat := bitk 8 (n ^^^ c)

/-- a run over bytes, from a number on -/
def run (n : Nat) (l : List Nat) : Nat := l.foldl byte1 n

/-- all bits turned -/
def turn (n : Nat) : Nat := 4294967295 ^^^ n

def more (s : Nat) (l : List Nat) : Nat := turn (run (turn s) l)

theorem xor_lt {a b : Nat} (ha : a < 4294967296) (hb : b < 4294967296) : a ^^^ b < 4294967296 :=
  by have h : a ^^^ b < 2 ^ 32 := Nat.xor_lt_two_pow (by omega) (by omega)
     omega

theorem turn_lt {a : Nat} (ha : a < 4294967296) : turn a < 4294967296 := by
  unfold turn; exact xor_lt (by omega) ha

theorem xor_xor (m a : Nat) : m ^^^ (m ^^^ a) = a := by
  rw [← Nat.xor_assoc, Nat.xor_self, Nat.zero_xor]
theorem turn_eq (a : Nat) : turn a = 4294967295 ^^^ a := rfl
theorem turn_turn (a : Nat) : turn (turn a) = a := by
  rw [turn_eq, turn_eq]; generalize 4294967295 = m; exact xor_xor m a

theorem bit1_lt {n : Nat} (h : n < 4294967296) : bit1 n < 4294967296 := by
  unfold bit1; split
  · exact xor_lt (by omega) (by omega)
  · omega

theorem bitk_lt {n : Nat} (h : n < 4294967296) (k : Nat) : bitk k n < 4294967296 := by
  induction k with
  | zero => exact h
  | succ k ih => exact bit1_lt ih

theorem byte1_lt {n c : Nat} (h : n < 4294967296) (hc : c < 256) : byte1 n c < 4294967296 :=
  bitk_lt (xor_lt h (by omega)) 8

theorem run_lt {l : List Nat} : ∀ {n : Nat}, n < 4294967296 → (∀ c ∈ l, c < 256) → run n l < 4294967296 := by
  induction l with
  | nil => intro n h _; exact h
  | cons c l ih => intro n h hl; exact ih (byte1_lt h (hl c (by simp))) (fun d hd => hl d (by simp [hd]))

theorem run_append (n : Nat) (l r : List Nat) : run n (l ++ r) = run (run n l) r := by
  unfold run; exact List.foldl_append

theorem run_snoc (n : Nat) (l : List Nat) (c : Nat) : run n (l ++ [c]) = byte1 (run n l) c := by
  rw [run_append]; rfl

theorem more_append (s : Nat) (l r : List Nat) : more (more s l) r = more s (l ++ r) := by
  unfold more; rw [turn_turn, run_append]

theorem more_nil (s : Nat) : more s [] = s := turn_turn s

theorem more_lt {s : Nat} {l : List Nat} (h : s < 4294967296) (hl : ∀ c ∈ l, c < 256) : more s l < 4294967296 :=
  turn_lt (run_lt (turn_lt h) hl)

/-! in the walk's own spelling -/
theorem and1_of_odd {m : Nat} (hm : m < 4294967296) (h : m % 2 = 1) : bits .and .u32 (m : Int) 1 = 1 := by
  have := u32_and_nat m 1 hm (by omega)
  rw [show ((1 : Nat) : Int) = 1 from rfl] at this
  rw [this, Nat.and_one_is_mod, h]; rfl
theorem and1_of_even {m : Nat} (hm : m < 4294967296) (h : ¬ m % 2 = 1) : bits .and .u32 (m : Int) 1 = 0 := by
  have := u32_and_nat m 1 hm (by omega)
  rw [show ((1 : Nat) : Int) = 1 from rfl] at this
  rw [this, Nat.and_one_is_mod]; omega
theorem xor_poly {m : Nat} (hm : m < 4294967296) (h : m % 2 = 1) : bits .xor .u32 ((m : Int) / 2) 3988292384 = ((bit1 m : Nat) : Int) := by
  have := u32_xor_nat (m / 2) 3988292384 (by omega) (by omega)
  unfold bit1; rw [if_pos h, ← this]; rfl
theorem half_of_even {m : Nat} (h : ¬ m % 2 = 1) : (m : Int) / 2 = ((bit1 m : Nat) : Int) := by
  unfold bit1; rw [if_neg h]; rfl
theorem xor_cast {m c : Nat} (hm : m < 4294967296) (hc : c < 4294967296) : bits .xor .u32 (m : Int) (c : Int) = ((m ^^^ c : Nat) : Int) := u32_xor_nat m c hm hc
theorem u32_max : IntKind.u32.max = ((4294967295 : Nat) : Int) := by decide
theorem turn_cast {m : Nat} (hm : m < 4294967296) : bits .xor .u32 IntKind.u32.max (m : Int) = ((turn m : Nat) : Int) := by
  rw [u32_max]
  have := u32_xor_nat 4294967295 m (by omega) hm
  rw [turn_eq, ← this]
end Go.Proofs.Ytkbaafgaaiekpaa.crcm

namespace Go.Proofs.Ytkbaafgaaiekpaa.crcw
open Go.RowKit
open crcm

set_option maxHeartbeats 400000 in
theorem step_any (n : Nat) (hn : n < 4294967296) (w : World) :
    Calls Try.prog 82 #[.int .u32 (n : Int)] w fun e w' => e = .returned (.int .u32 ((bitk 8 n : Nat) : Int)) ∧ w = w' := by
  go_enter Try.func82, Try.ntmps82
  go_wp2
  go_loop [0, 4] (fun v i => ∃ k m : Nat, k ≤ 8 ∧ i = .int .i64 k ∧ v = .int .u32 (m : Int) ∧ Hid (bitk k n = m) ∧ m < 4294967296) (fun _ i => 8 - (intOf i).toNat)
  case atStart => exact ⟨0, n, by omega, rfl, rfl, Lib.hid rfl, hn⟩
  case round =>
    obtain ⟨k, m, hk, rfl, rfl, hm, hlt⟩ := hrel
    have hs : Hid (bitk (k + 1) n = bit1 m) := Lib.hid (by show bit1 (bitk k n) = bit1 m; rw [hm.out])
    have hb := bit1_lt hlt
    by_cases h8 : k < 8
    · by_cases ho : m % 2 = 1
      · have h1 := and1_of_odd hlt ho
        have h2 := xor_poly hlt ho
        clear ho
        go_wp2
        go_round
        case rel => exact ⟨k + 1, bit1 m, by omega, by go_num, rfl, hs, hb⟩
        case measure => simp [intOf]; omega
      · have h1 := and1_of_even hlt ho
        have h2 := half_of_even ho
        clear ho
        go_wp2
        go_round
        case rel => exact ⟨k + 1, bit1 m, by omega, by go_num, rfl, hs, hb⟩
        case measure => simp [intOf]; omega
    · obtain rfl : k = 8 := by omega
      go_wp2
      go_ret
      have he := hm.out
      rw [he]
      exact ⟨rfl, rfl⟩
end Go.Proofs.Ytkbaafgaaiekpaa.crcw

namespace Go.Proofs.Ytkbaafgaaiekpaa.crcw
open Go.RowKit
open crcm

/-- a slice's bytes, as numbers, in a world -/
def Reads (w : World) (a : Option Addr) (len : Nat) (l : List Nat) : Prop :=
  l.length = len ∧ len ≤ maxLen ∧ (∀ c ∈ l, c < 256) ∧
  (len = 0 ∨ ∃ b off, a = some ⟨b, off, none⟩ ∧ ∀ i, i < len → w.cell? ⟨b, off + i, none⟩ = some (.int .u8 ((l.getD i 0 : Nat) : Int)))

theorem run_take_succ (n : Nat) (l : List Nat) (k : Nat) (h : k < l.length) : run n (l.take (k + 1)) = byte1 (run n (l.take k)) (l.getD k 0) := by
  rw [List.take_succ_eq_append_getElem h, run_snoc]
  simp [List.getD, h]

theorem getD_lt (l : List Nat) (h : ∀ c ∈ l, c < 256) (k : Nat) : l.getD k 0 < 256 := by
  by_cases hk : k < l.length
  · have : l.getD k 0 = l[k] := by simp [List.getD, hk]
    rw [this]; exact h _ (List.getElem_mem hk)
  · have : l.getD k 0 = 0 := by simp [List.getD, List.getElem?_eq_none (by omega : l.length ≤ k)]
    omega

set_option maxHeartbeats 400000 in
theorem more_any (s : Nat) (hs : s < 4294967296) (a : Option Addr) (len cap : Nat) (l : List Nat) (w : World) (h : Reads w a len l) :
    Calls Try.prog 70 #[.int .u32 (s : Int), .slice a len cap] w fun e w' => e = .returned (.int .u32 ((more s l : Nat) : Int)) ∧ w = w' := by
  obtain ⟨hl, hm, hb, hc⟩ := h
  unfold maxLen at hm
  have ht := turn_lt hs
  have htc := turn_cast hs
  have hst : Hid (turn s = turn s) := Lib.hid rfl
  generalize hts : turn s = t at ht htc hst
  have hfin : Hid (more s l = turn (run t l)) := Lib.hid (by unfold more; rw [hts])
  clear hts hst
  have HL := Lib.hid hl
  clear hl
  go_enter Try.func70, Try.ntmps70
  go_wp2
  clear htc
  go_loop [5, 12] (fun v i => ∃ k m : Nat, k ≤ len ∧ i = .int .i64 k ∧ v = .int .u32 (m : Int) ∧ Hid (run t (l.take k) = m) ∧ m < 4294967296) (fun _ i => len - (intOf i).toNat)
  case atStart => exact ⟨0, t, by omega, rfl, rfl, Lib.hid rfl, ht⟩
  case round =>
    obtain ⟨k, m, hk, rfl, rfl, hr, hlt⟩ := hrel
    by_cases h8 : k < len
    · obtain ⟨b, off, rfl, hcell⟩ := hc.resolve_left (by omega)
      have hcl := hcell k h8
      have hlt2 := getD_lt l hb k
      have hrs : Hid (run t (l.take (k + 1)) = byte1 m (l.getD k 0)) := Lib.hid (by rw [run_take_succ t l k (by rw [HL.out]; exact h8), hr.out])
      generalize l.getD k 0 = c at hcl hlt2 hrs
      clear hcell hc
      have hx := xor_cast hlt (show c < 4294967296 by omega)
      have hxl : m ^^^ c < 4294967296 := xor_lt hlt (by omega)
      have hbl := byte1_lt hlt hlt2
      go_wp2_with (go_at_call 82; refine (step_any (m ^^^ c) hxl _).mono ?_; rintro e w' ⟨rfl, rfl⟩)
      go_round
      case rel => exact ⟨k + 1, byte1 m c, by omega, by go_num, rfl, hrs, hbl⟩
      case measure => simp [intOf]; omega
    · obtain rfl : k = len := by omega
      have hr2 : Hid (more s l = turn m) := Lib.hid (by rw [hfin.out, ← hr.out, List.take_of_length_le (by rw [HL.out]; omega)])
      have htc := turn_cast hlt
      go_wp2
      go_ret
      rw [hr2.out]
      exact ⟨rfl, rfl⟩
end Go.Proofs.Ytkbaafgaaiekpaa.crcw

namespace Go.Proofs.Ytkbaafgaaiekpaa.crcw
open Go.RowKit
open crcm

/-- a slice of slices of bytes, in a world -/
def Parts (w : World) (a : Option Addr) (n : Nat) (ls : List (List Nat)) : Prop :=
  ls.length = n ∧ n ≤ maxLen ∧
  (n = 0 ∨ ∃ b off, a = some ⟨b, off, none⟩ ∧ ∀ i, i < n → ∃ a' len cap, w.cell? ⟨b, off + i, none⟩ = some (.slice a' len cap) ∧ Reads w a' len (ls.getD i []))

def sumP (ls : List (List Nat)) : Nat := ls.foldl more 0

theorem sumP_flat : ∀ (s : Nat) (ls : List (List Nat)), ls.foldl more s = more s ls.flatten := by
  intro s ls
  induction ls generalizing s with
  | nil => rw [List.flatten_nil, more_nil]; rfl
  | cons l ls ih => rw [List.foldl_cons, ih, List.flatten_cons, more_append]

theorem sum_flat (ls : List (List Nat)) : sumP ls = more 0 ls.flatten := sumP_flat 0 ls

theorem fold_take_succ (ls : List (List Nat)) (k : Nat) (h : k < ls.length) : (ls.take (k + 1)).foldl more 0 = more ((ls.take k).foldl more 0) (ls.getD k []) := by
  rw [List.take_succ_eq_append_getElem h, List.foldl_append]
  simp [List.getD, h]

set_option maxHeartbeats 400000 in
theorem sum_any (a : Option Addr) (n cap : Nat) (ls : List (List Nat)) (w : World) (h : Parts w a n ls) :
    Calls Try.prog 45 #[.slice a n cap] w fun e w' => e = .returned (.int .u32 ((sumP ls : Nat) : Int)) ∧ w = w' := by
  obtain ⟨hl, hm, hc⟩ := h
  unfold maxLen at hm
  have HL := Lib.hid hl
  clear hl
  go_enter Try.func45, Try.ntmps45
  go_wp2
  go_loop [3, 8] (fun v i => ∃ k m : Nat, k ≤ n ∧ i = .int .i64 k ∧ v = .int .u32 (m : Int) ∧ Hid ((ls.take k).foldl more 0 = m) ∧ m < 4294967296) (fun _ i => n - (intOf i).toNat)
  case atStart => exact ⟨0, 0, by omega, rfl, rfl, Lib.hid rfl, by omega⟩
  case round =>
    obtain ⟨k, m, hk, rfl, rfl, hr, hlt⟩ := hrel
    by_cases h8 : k < n
    · obtain ⟨b, off, rfl, hcell⟩ := hc.resolve_left (by omega)
      obtain ⟨a', len', cap', hcl, hread⟩ := hcell k h8
      have hrs : Hid ((ls.take (k + 1)).foldl more 0 = more m (ls.getD k [])) := Lib.hid (by rw [fold_take_succ ls k (by rw [HL.out]; exact h8), hr.out])
      generalize ls.getD k [] = c at hread hrs
      clear hcell hc
      have hml : more m c < 4294967296 := more_lt hlt hread.2.2.1
      have HR := Lib.hid hread
      clear hread
      go_wp2_with (go_at_call 70; refine (more_any m hlt a' len' cap' c _ HR.out).mono ?_; rintro e w' ⟨rfl, rfl⟩)
      go_round
      case rel => exact ⟨k + 1, more m c, by omega, by go_num, rfl, hrs, hml⟩
      case measure => simp [intOf]; omega
    · obtain rfl : k = n := by omega
      have hr2 : Hid (sumP ls = m) := Lib.hid (by rw [← hr.out, List.take_of_length_le (by rw [HL.out]; omega)]; rfl)
      go_wp2
      go_ret
      rw [hr2.out]
      exact ⟨rfl, rfl⟩
end Go.Proofs.Ytkbaafgaaiekpaa.crcw

namespace Go.Proofs.Ytkbaafgaaiekpaa.crcm
set_option linter.unusedVariables false

/-- a bit's step, over whatever polynomial -/
def bitP (p n : Nat) : Nat := if n % 2 = 1 then (n / 2) ^^^ p else n / 2

theorem bit1_eq (n : Nat) : bit1 n = bitP 3988292384 n := rfl

theorem half_xor (a b : Nat) : (a ^^^ b) / 2 = a / 2 ^^^ b / 2 := by
  have := Nat.shiftRight_xor_distrib (a := a) (b := b) (i := 1)
  simpa [Nat.shiftRight_eq_div_pow] using this

theorem odd_xor (a b : Nat) : (a ^^^ b) % 2 = 1 ↔ ¬ (a % 2 = 1 ↔ b % 2 = 1) := Nat.xor_mod_two_eq_one

theorem xor4 (a b p : Nat) : (a ^^^ p) ^^^ (b ^^^ p) = a ^^^ b := by
  rw [Nat.xor_assoc, Nat.xor_comm b p, ← Nat.xor_assoc p p b, Nat.xor_self, Nat.zero_xor]

theorem bitP_xor (p a b : Nat) : bitP p (a ^^^ b) = bitP p a ^^^ bitP p b := by
  unfold bitP
  rw [half_xor]
  by_cases ha : a % 2 = 1 <;> by_cases hb : b % 2 = 1
  · rw [if_pos ha, if_pos hb, if_neg (by rw [odd_xor]; simp [ha, hb]), xor4]
  · rw [if_pos ha, if_neg hb, if_pos (by rw [odd_xor]; simp [ha, hb]), Nat.xor_assoc, Nat.xor_comm (b / 2) p, ← Nat.xor_assoc]
  · rw [if_neg ha, if_pos hb, if_pos (by rw [odd_xor]; simp [ha, hb]), Nat.xor_assoc]
  · rw [if_neg ha, if_neg hb, if_neg (by rw [odd_xor]; simp [ha, hb])]

theorem bit1_xor (a b : Nat) : bit1 (a ^^^ b) = bit1 a ^^^ bit1 b := by
  rw [bit1_eq, bit1_eq, bit1_eq]; exact bitP_xor _ a b

theorem bitk_xor (k a b : Nat) : bitk k (a ^^^ b) = bitk k a ^^^ bitk k b := by
  induction k with
  | zero => rfl
  | succ k ih => show bit1 (bitk k (a ^^^ b)) = bit1 (bitk k a) ^^^ bit1 (bitk k b); rw [ih, bit1_xor]

theorem eq_of_xor {a b : Nat} (h : a ^^^ b = 0) : a = b := by
  have h2 : a ^^^ b ^^^ b = 0 ^^^ b := by rw [h]
  rwa [Nat.xor_assoc, Nat.xor_self, Nat.xor_zero, Nat.zero_xor] at h2

theorem bitP_zero {p n : Nat} (hp : 2147483648 ≤ p) (hn : n < 4294967296) (h : bitP p n = 0) : n = 0 := by
  unfold bitP at h
  by_cases ho : n % 2 = 1
  · rw [if_pos ho] at h
    have := eq_of_xor h
    omega
  · rw [if_neg ho] at h; omega

theorem bit1_zero {n : Nat} (hn : n < 4294967296) (h : bit1 n = 0) : n = 0 := by
  rw [bit1_eq] at h; exact bitP_zero (by omega) hn h

theorem bitk_zero {n : Nat} (hn : n < 4294967296) : ∀ k, bitk k n = 0 → n = 0 := by
  intro k
  induction k with
  | zero => exact id
  | succ k ih => exact fun h => ih (bit1_zero (bitk_lt hn k) h)

theorem bitk_of_zero (k : Nat) : bitk k 0 = 0 := by
  induction k with
  | zero => rfl
  | succ k ih => show bit1 (bitk k 0) = 0; rw [ih]; rfl

theorem bitk_inj {a b : Nat} (ha : a < 4294967296) (hb : b < 4294967296) (k : Nat) (h : bitk k a = bitk k b) : a = b := by
  have h2 : bitk k (a ^^^ b) = 0 := by rw [bitk_xor, h, Nat.xor_self]
  exact eq_of_xor (bitk_zero (xor_lt ha hb) k h2)

/-- a number whose lowest bits are none is moved alone -/
theorem bitk_shift (k y : Nat) : bitk k (y * 2 ^ k) = y := by
  have aux : ∀ k j, bitk k (y * 2 ^ (k + j)) = y * 2 ^ j := by
    intro k
    induction k with
    | zero => intro j; rw [Nat.zero_add]; rfl
    | succ k ih =>
      intro j
      have h1 := ih (j + 1)
      rw [show k + (j + 1) = k + 1 + j by omega] at h1
      show bit1 (bitk k (y * 2 ^ (k + 1 + j))) = _
      rw [h1, bit1_eq]
      unfold bitP
      rw [Nat.pow_succ, ← Nat.mul_assoc, if_neg (by omega), Nat.mul_div_cancel _ (by omega)]
  have := aux k 0
  simpa using this

theorem bit8_of {x y : Nat} (hx : x < 4294967296) (hy : y < 16777216) (h : bitk 8 x = y) : x = y * 256 := by
  apply bitk_inj hx (by omega) 8
  rw [h, show (256 : Nat) = 2 ^ 8 from rfl, bitk_shift]

theorem byte1_inj {s t c : Nat} (hs : s < 4294967296) (ht : t < 4294967296) (hc : c < 256) (h : byte1 s c = byte1 t c) : s = t := by
  have h2 := bitk_inj (xor_lt hs (by omega)) (xor_lt ht (by omega)) 8 h
  have h3 : (s ^^^ c) ^^^ (t ^^^ c) = 0 := by rw [h2, Nat.xor_self]
  rw [xor4] at h3
  exact eq_of_xor h3

theorem run_inj {l : List Nat} : ∀ {s t : Nat}, s < 4294967296 → t < 4294967296 → (∀ c ∈ l, c < 256) → run s l = run t l → s = t := by
  induction l with
  | nil => intro s t _ _ _ h; exact h
  | cons c l ih =>
    intro s t hs ht hl h
    have hc := hl c (by simp)
    exact byte1_inj hs ht hc (ih (byte1_lt hs hc) (byte1_lt ht hc) (fun d hd => hl d (by simp [hd])) h)

theorem xor_pair (a b c d : Nat) : (a ^^^ b) ^^^ (c ^^^ d) = (a ^^^ c) ^^^ (b ^^^ d) := by
  rw [Nat.xor_assoc, Nat.xor_assoc, ← Nat.xor_assoc b c d, Nat.xor_comm b c, Nat.xor_assoc c b d]

theorem byte1_diff (s t c d : Nat) : byte1 s c ^^^ byte1 t d = bitk 8 ((s ^^^ t) ^^^ (c ^^^ d)) := by
  unfold byte1; rw [← bitk_xor, xor_pair]

/-- four bytes, of one state, to unlike bytes: unlike states -/
theorem four {s a0 a1 a2 a3 d0 d1 d2 d3 : Nat} (hs : s < 4294967296) (ha0 : a0 < 256) (ha1 : a1 < 256) (ha2 : a2 < 256) (ha3 : a3 < 256)
    (hd0 : d0 < 256) (hd1 : d1 < 256) (hd2 : d2 < 256) (hd3 : d3 < 256) (h : run s [a0, a1, a2, a3] = run s [a0 ^^^ d0, a1 ^^^ d1, a2 ^^^ d2, a3 ^^^ d3]) :
    d0 = 0 ∧ d1 = 0 ∧ d2 = 0 ∧ d3 = 0 := by
  have lt8 : ∀ {x y : Nat}, x < 256 → y < 256 → x ^^^ y < 256 := fun hx hy => Nat.xor_lt_two_pow (n := 8) hx hy
  have x0 : ∀ {c d : Nat}, c ^^^ (c ^^^ d) = d := fun {c d} => by rw [← Nat.xor_assoc, Nat.xor_self, Nat.zero_xor]
  have t1 := byte1_lt hs ha0
  have u1 := byte1_lt hs (lt8 ha0 hd0)
  have t2 := byte1_lt t1 ha1
  have u2 := byte1_lt u1 (lt8 ha1 hd1)
  have t3 := byte1_lt t2 ha2
  have u3 := byte1_lt u2 (lt8 ha2 hd2)
  have e1 := byte1_diff s s a0 (a0 ^^^ d0)
  have e2 := byte1_diff (byte1 s a0) (byte1 s (a0 ^^^ d0)) a1 (a1 ^^^ d1)
  have e3 := byte1_diff (byte1 (byte1 s a0) a1) (byte1 (byte1 s (a0 ^^^ d0)) (a1 ^^^ d1)) a2 (a2 ^^^ d2)
  have e4 := byte1_diff (byte1 (byte1 (byte1 s a0) a1) a2) (byte1 (byte1 (byte1 s (a0 ^^^ d0)) (a1 ^^^ d1)) (a2 ^^^ d2)) a3 (a3 ^^^ d3)
  have h' : byte1 (byte1 (byte1 (byte1 s a0) a1) a2) a3 = byte1 (byte1 (byte1 (byte1 s (a0 ^^^ d0)) (a1 ^^^ d1)) (a2 ^^^ d2)) (a3 ^^^ d3) := h
  rw [x0] at e1 e2 e3 e4
  rw [Nat.xor_self, Nat.zero_xor] at e1
  rw [h', Nat.xor_self] at e4
  generalize byte1 s a0 = s1 at *
  generalize byte1 s (a0 ^^^ d0) = r1 at *
  generalize byte1 s1 a1 = s2 at *
  generalize byte1 r1 (a1 ^^^ d1) = r2 at *
  generalize byte1 s2 a2 = s3 at *
  generalize byte1 r2 (a2 ^^^ d2) = r3 at *
  have l1 := xor_lt t1 u1
  have l2 := xor_lt t2 u2
  have l3 := xor_lt t3 u3
  generalize s1 ^^^ r1 = D1 at *
  generalize s2 ^^^ r2 = D2 at *
  generalize s3 ^^^ r3 = D3 at *
  have k4 : D3 = d3 := eq_of_xor (bitk_zero (xor_lt l3 (by omega)) 8 e4.symm)
  have back : ∀ {x y d : Nat}, x ^^^ d = y → x = y ^^^ d := fun {x y d} hh => by rw [← hh, Nat.xor_assoc, Nat.xor_self, Nat.xor_zero]
  have k3 := back (bit8_of (xor_lt l2 (by omega)) (by omega) e3.symm)
  have b3 : D3 * 256 ^^^ d2 < 65536 := Nat.xor_lt_two_pow (n := 16) (by omega) (by omega)
  have k2 := back (bit8_of (xor_lt l1 (by omega)) (by omega) e2.symm)
  have b2 : D2 * 256 ^^^ d1 < 16777216 := Nat.xor_lt_two_pow (n := 24) (by omega) (by omega)
  have k1 := bit8_of (by omega) (by omega) e1.symm
  have z1 : D1 = 0 := by omega
  have zd0 : d0 = 0 := by omega
  have z2 := eq_of_xor (k2.symm.trans z1)
  have z2' : D2 = 0 ∧ d1 = 0 := by omega
  have z3 := eq_of_xor (k3.symm.trans z2'.1)
  have z3' : D3 = 0 ∧ d2 = 0 := by omega
  exact ⟨zd0, z2'.2, z3'.2, by omega⟩
/-- what the loop over four bytes makes of a text -/
def dif (by' : Nat) (j : Nat) : Nat := by' / 256 ^ j % 256
def upd (l : List Nat) (K by' : Nat) : Nat → List Nat
  | 0 => l
  | j + 1 => (upd l K by' j).set (K + j) ((upd l K by' j).getD (K + j) 0 ^^^ dif by' j)

theorem upd_length (l : List Nat) (K by' j : Nat) : (upd l K by' j).length = l.length := by
  induction j with
  | zero => rfl
  | succ j ih => show ((upd l K by' j).set _ _).length = _; rw [List.length_set, ih]

theorem dif_lt (by' j : Nat) : dif by' j < 256 := Nat.mod_lt _ (by omega)

theorem upd_lt (l : List Nat) (K by' : Nat) (h : ∀ c ∈ l, c < 256) (j : Nat) : ∀ c ∈ upd l K by' j, c < 256 := by
  induction j with
  | zero => exact h
  | succ j ih =>
    intro c hc
    rcases List.mem_or_eq_of_mem_set hc with h1 | h1
    · exact ih c h1
    · have h2 : (upd l K by' j).getD (K + j) 0 < 256 := by
        by_cases hk : K + j < (upd l K by' j).length
        · have : (upd l K by' j).getD (K + j) 0 = (upd l K by' j)[K + j] := by simp [List.getD, hk]
          rw [this]; exact ih _ (List.getElem_mem hk)
        · have : (upd l K by' j).getD (K + j) 0 = 0 := by simp [List.getD, List.getElem?_eq_none (by omega : (upd l K by' j).length ≤ K + j)]
          omega
      rw [h1]; exact Nat.xor_lt_two_pow (n := 8) h2 (dif_lt _ _)

theorem set_at (p : List Nat) (a x : Nat) (q : List Nat) (n : Nat) (h : n = p.length) : (p ++ a :: q).set n x = p ++ x :: q := by
  subst h; simp
theorem get_at (p : List Nat) (a : Nat) (q : List Nat) (n : Nat) (h : n = p.length) : (p ++ a :: q).getD n 0 = a := by
  subst h; simp [List.getD]

theorem split4 (l : List Nat) (K : Nat) (h : K + 4 ≤ l.length) : ∃ p a0 a1 a2 a3 q, l = p ++ a0 :: a1 :: a2 :: a3 :: q ∧ p.length = K := by
  refine ⟨l.take K, l[K], l[K + 1], l[K + 2], l[K + 3], l.drop (K + 4), ?_, by simp; omega⟩
  have h0 : l.drop K = l[K] :: l.drop (K + 1) := List.drop_eq_getElem_cons (by omega)
  have h1 : l.drop (K + 1) = l[K + 1] :: l.drop (K + 2) := List.drop_eq_getElem_cons (by omega)
  have h2 : l.drop (K + 2) = l[K + 2] :: l.drop (K + 3) := List.drop_eq_getElem_cons (by omega)
  have h3 : l.drop (K + 3) = l[K + 3] :: l.drop (K + 4) := List.drop_eq_getElem_cons (by omega)
  rw [← h3, ← h2, ← h1, ← h0, List.take_append_drop]

theorem upd_split (p : List Nat) (a0 a1 a2 a3 : Nat) (q : List Nat) (by' : Nat) :
    upd (p ++ a0 :: a1 :: a2 :: a3 :: q) p.length by' 4 = p ++ (a0 ^^^ dif by' 0) :: (a1 ^^^ dif by' 1) :: (a2 ^^^ dif by' 2) :: (a3 ^^^ dif by' 3) :: q := by
  have e1 : upd (p ++ a0 :: a1 :: a2 :: a3 :: q) p.length by' 1 = (p ++ [a0 ^^^ dif by' 0]) ++ a1 :: a2 :: a3 :: q := by
    show (p ++ a0 :: a1 :: a2 :: a3 :: q).set (p.length + 0) _ = _
    rw [set_at _ _ _ _ _ (by omega)]
    show p ++ ((p ++ a0 :: a1 :: a2 :: a3 :: q).getD (p.length + 0) 0 ^^^ _) :: _ = _
    rw [get_at _ _ _ _ (by omega)]; simp
  have e2 : upd (p ++ a0 :: a1 :: a2 :: a3 :: q) p.length by' 2 = (p ++ [a0 ^^^ dif by' 0, a1 ^^^ dif by' 1]) ++ a2 :: a3 :: q := by
    show (upd _ _ _ 1).set (p.length + 1) ((upd _ _ _ 1).getD (p.length + 1) 0 ^^^ _) = _
    rw [e1, set_at _ _ _ _ _ (by simp), get_at _ _ _ _ (by simp)]; simp
  have e3 : upd (p ++ a0 :: a1 :: a2 :: a3 :: q) p.length by' 3 = (p ++ [a0 ^^^ dif by' 0, a1 ^^^ dif by' 1, a2 ^^^ dif by' 2]) ++ a3 :: q := by
    show (upd _ _ _ 2).set (p.length + 2) ((upd _ _ _ 2).getD (p.length + 2) 0 ^^^ _) = _
    rw [e2, set_at _ _ _ _ _ (by simp), get_at _ _ _ _ (by simp)]; simp
  show (upd _ _ _ 3).set (p.length + 3) ((upd _ _ _ 3).getD (p.length + 3) 0 ^^^ _) = _
  rw [e3, set_at _ _ _ _ _ (by simp), get_at _ _ _ _ (by simp)]; simp

theorem dif_zero {by' : Nat} (h : by' < 4294967296) (h0 : dif by' 0 = 0) (h1 : dif by' 1 = 0) (h2 : dif by' 2 = 0) (h3 : dif by' 3 = 0) : by' = 0 := by
  unfold dif at h0 h1 h2 h3
  omega

theorem upd_unlike {l : List Nat} {K by' : Nat} (hl : ∀ c ∈ l, c < 256) (hK : K + 4 ≤ l.length) (hb : by' < 4294967296) (h0 : by' ≠ 0) : more 0 l ≠ more 0 (upd l K by' 4) := by
  intro h
  obtain ⟨p, a0, a1, a2, a3, q, rfl, rfl⟩ := split4 l K hK
  rw [upd_split] at h
  have mem : ∀ c, c = a0 ∨ c = a1 ∨ c = a2 ∨ c = a3 ∨ c ∈ q ∨ c ∈ p → c < 256 := by
    intro c hc
    apply hl
    simp only [List.mem_append, List.mem_cons]
    rcases hc with h | h | h | h | h | h <;> simp [h]
  have l8 : ∀ {x y : Nat}, x < 256 → y < 256 → x ^^^ y < 256 := fun hx hy => Nat.xor_lt_two_pow (n := 8) hx hy
  have hrun : run (turn 0) (p ++ a0 :: a1 :: a2 :: a3 :: q) = run (turn 0) (p ++ (a0 ^^^ dif by' 0) :: (a1 ^^^ dif by' 1) :: (a2 ^^^ dif by' 2) :: (a3 ^^^ dif by' 3) :: q) := by
    have h2 : turn (more 0 (p ++ a0 :: a1 :: a2 :: a3 :: q)) = turn (more 0 (p ++ (a0 ^^^ dif by' 0) :: (a1 ^^^ dif by' 1) :: (a2 ^^^ dif by' 2) :: (a3 ^^^ dif by' 3) :: q)) := by rw [h]
    unfold more at h2
    rw [turn_turn, turn_turn] at h2
    exact h2
  have ht : turn 0 < 4294967296 := turn_lt (by omega)
  generalize turn 0 = t at hrun ht
  rw [run_append, run_append] at hrun
  have hs : run t p < 4294967296 := run_lt ht (fun c hc => mem c (by simp [hc]))
  generalize run t p = s at hrun hs
  have e : ∀ (b0 b1 b2 b3 : Nat), run s (b0 :: b1 :: b2 :: b3 :: q) = run (run s [b0, b1, b2, b3]) q := fun b0 b1 b2 b3 => by rw [← run_append]; rfl
  rw [e, e] at hrun
  have m0 := mem a0 (by simp)
  have m1 := mem a1 (by simp)
  have m2 := mem a2 (by simp)
  have m3 := mem a3 (by simp)
  have lt4 : ∀ {b0 b1 b2 b3 : Nat}, b0 < 256 → b1 < 256 → b2 < 256 → b3 < 256 → run s [b0, b1, b2, b3] < 4294967296 := fun c0 c1 c2 c3 => byte1_lt (byte1_lt (byte1_lt (byte1_lt hs c0) c1) c2) c3
  have h4 := run_inj (lt4 m0 m1 m2 m3) (lt4 (l8 m0 (dif_lt _ _)) (l8 m1 (dif_lt _ _)) (l8 m2 (dif_lt _ _)) (l8 m3 (dif_lt _ _))) (fun c hc => mem c (by simp [hc])) hrun
  obtain ⟨z0, z1, z2, z3⟩ := four hs m0 m1 m2 m3 (dif_lt _ _) (dif_lt _ _) (dif_lt _ _) (dif_lt _ _) h4
  exact h0 (dif_zero hb z0 z1 z2 z3)
end Go.Proofs.Ytkbaafgaaiekpaa.crcm

namespace Go.Proofs.Ytkbaafgaaiekpaa.ppc
open Go.RowKit mem
open crcm
set_option linter.unusedVariables false

theorem split1 (l : List Nat) (K : Nat) (h : K < l.length) : ∃ p a q, l = p ++ a :: q ∧ p.length = K ∧ a = l.getD K 0 := by
  refine ⟨l.take K, l[K], l.drop (K + 1), ?_, by simp; omega, by simp [List.getD, h]⟩
  rw [← List.drop_eq_getElem_cons h, List.take_append_drop]

theorem one_unlike {l : List Nat} {K d : Nat} (hl : ∀ c ∈ l, c < 256) (hK : K < l.length) (hd : d < 256) (h0 : d ≠ 0) : more 0 l ≠ more 0 (l.set K (l.getD K 0 ^^^ d)) := by
  intro h
  obtain ⟨p, a, q, rfl, rfl, ha⟩ := split1 l K hK
  rw [← ha, set_at p a _ q _ rfl] at h
  have mem : ∀ c, c = a ∨ c ∈ q ∨ c ∈ p → c < 256 := by
    intro c hc
    apply hl
    simp only [List.mem_append, List.mem_cons]
    rcases hc with h | h | h <;> simp [h]
  have ma := mem a (by simp)
  have l8 : ∀ {x y : Nat}, x < 256 → y < 256 → x ^^^ y < 256 := fun hx hy => Nat.xor_lt_two_pow (n := 8) hx hy
  have hrun : run (turn 0) (p ++ a :: q) = run (turn 0) (p ++ (a ^^^ d) :: q) := by
    have h2 : turn (more 0 (p ++ a :: q)) = turn (more 0 (p ++ (a ^^^ d) :: q)) := by rw [h]
    unfold more at h2
    rw [turn_turn, turn_turn] at h2
    exact h2
  have ht : turn 0 < 4294967296 := turn_lt (by omega)
  generalize turn 0 = t at hrun ht
  rw [run_append, run_append] at hrun
  have hs : run t p < 4294967296 := run_lt ht (fun c hc => mem c (by simp [hc]))
  generalize run t p = s at hrun hs
  have e : ∀ b : Nat, run s (b :: q) = run (byte1 s b) q := fun b => rfl
  rw [e, e] at hrun
  have h4 := run_inj (byte1_lt hs ma) (byte1_lt hs (l8 ma hd)) (fun c hc => mem c (by simp [hc])) hrun
  have h5 := byte1_diff s s a (a ^^^ d)
  rw [h4, Nat.xor_self, Nat.xor_self, Nat.zero_xor, ← Nat.xor_assoc, Nat.xor_self, Nat.zero_xor] at h5
  exact h0 (bitk_zero (by omega) 8 h5.symm)

theorem reads_crc {w : World} {a : Option Addr} {n : Nat} {l : List Nat} (h : Reads w a n l) : crcw.Reads w a n l := h

/-- a sum's one part -/
theorem parts_one {w : World} {a : Option Addr} {n cap : Nat} {l : List Nat} (h : Reads w a n l) (t : TypeId) {g : Nat} (hg : g = w.heap.size) : crcw.Parts (w.alloc (.cells #[.slice a n cap] t)) (some ⟨g, 0, none⟩) 1 [l] := by
  subst hg
  refine ⟨rfl, by unfold maxLen; omega, .inr ⟨_, _, rfl, fun i hi => ?_⟩⟩
  obtain rfl : i = 0 := by omega
  refine ⟨a, n, cap, ?_, ?_⟩
  · rw [Go.Joins.cell_of_block (cs := #[.slice a n cap]) (t := t) (fr := (0, 0)) (by rw [heap_alloc, if_pos rfl])]; rfl
  · exact reads_crc (h.only (S := fun _ => False) ((Only.refl _ w).alloc _) (fun _ _ f => f))

theorem nine_reads (w : World) (t : TypeId) (fr : Nat × Nat) : Reads (w.alloc (.cells #[.int .u8 49, .int .u8 50, .int .u8 51, .int .u8 52, .int .u8 53, .int .u8 54, .int .u8 55, .int .u8 56, .int .u8 57] t fr)) (some ⟨w.heap.size, 0, none⟩) 9 [49, 50, 51, 52, 53, 54, 55, 56, 57] := by
  refine ⟨rfl, by unfold maxLen; omega, by decide, .inr ⟨_, _, rfl, fun i hi => ?_⟩⟩
  rw [Nat.zero_add, Go.Joins.cell_of_block (cs := #[.int .u8 49, .int .u8 50, .int .u8 51, .int .u8 52, .int .u8 53, .int .u8 54, .int .u8 55, .int .u8 56, .int .u8 57]) (t := t) (fr := fr) (by rw [heap_alloc, if_pos rfl])]
  match i, hi with
  | 0, _ => rfl
  | 1, _ => rfl
  | 2, _ => rfl
  | 3, _ => rfl
  | 4, _ => rfl
  | 5, _ => rfl
  | 6, _ => rfl
  | 7, _ => rfl
  | 8, _ => rfl

theorem sum_one (l : List Nat) : crcw.sumP [l] = more 0 l := rfl

theorem known_one : crcw.sumP [[49, 50, 51, 52, 53, 54, 55, 56, 57]] = 3421780262 := by decide +kernel

set_option maxRecDepth 100000 in
theorem stands_any (w : World) :
    Calls Try.prog 19 #[] w fun e w' => e = .returned (.bool true) ∧ Only (fun _ => False) w w' := by
  have kc := fun (w : World) (C : Array Value) (n c g : Nat) (hg : g = w.heap.size) => Go.Joins.run_convert_bytes_const_at (P := Try.prog) w 86 5 C n c g hg Try.underlying86 Try.underlying5
  go_enter Try.func19, Try.ntmps19
  go_wp2_with fail
  refine (crcw.sum_any _ _ _ _ _ (parts_one (nine_reads w 5 (9, 10)) _ (by rw [size_alloc]))).mono ?_
  rintro e w' ⟨rfl, rfl⟩
  rw [known_one]
  go_wp2
  go_ret
  exact ⟨rfl, ((Only.refl _ _).alloc _).alloc _⟩
end Go.Proofs.Ytkbaafgaaiekpaa.ppc

