/- Numbers in parts of 32 bits, as plain mathematics. -/
import Derived.Laws.BitsAllLaws
namespace Go.Proofs.Ythflglejhhebeaa.bigm
set_option linter.unusedVariables false

/-- the i-th part of a number -/
def limb (n i : Nat) : Nat := n / 4294967296 ^ i % 4294967296

theorem limb_lt (n i : Nat) : limb n i < 4294967296 := Nat.mod_lt _ (by omega)

theorem pow_pos32 (i : Nat) : 0 < 4294967296 ^ i := Nat.pow_pos (by omega)

/-- the lower parts, and one more -/
theorem mod_step (n i : Nat) : n % 4294967296 ^ (i + 1) = n % 4294967296 ^ i + limb n i * 4294967296 ^ i := by
  have h1 : n % 4294967296 ^ (i + 1) / 4294967296 ^ i = limb n i := by
    unfold limb; rw [Nat.pow_succ, Nat.mod_mul_right_div_self]
  have h2 : n % 4294967296 ^ (i + 1) % 4294967296 ^ i = n % 4294967296 ^ i := by
    rw [Nat.pow_succ, Nat.mod_mul_right_mod]
  have h3 := Nat.div_add_mod (n % 4294967296 ^ (i + 1)) (4294967296 ^ i)
  rw [h1, h2, Nat.mul_comm] at h3
  omega

/-- what is carried -/
def over (n m i : Nat) : Nat := (n % 4294967296 ^ i + m % 4294967296 ^ i) / 4294967296 ^ i

theorem over_zero (n m : Nat) : over n m 0 = 0 := by unfold over; simp [Nat.mod_one]

theorem over_le (n m i : Nat) : over n m i ≤ 1 := by
  unfold over
  have hp := pow_pos32 i
  have h1 := Nat.mod_lt n hp
  have h2 := Nat.mod_lt m hp
  have : (n % 4294967296 ^ i + m % 4294967296 ^ i) / 4294967296 ^ i < 2 := by
    rw [Nat.div_lt_iff_lt_mul hp]; omega
  omega

theorem add_step (n m i : Nat) : (limb n i + limb m i + over n m i) % 4294967296 = limb (n + m) i ∧ (limb n i + limb m i + over n m i) / 4294967296 = over n m (i + 1) := by
  have hp := pow_pos32 i
  have e : (n % 4294967296 ^ (i + 1) + m % 4294967296 ^ (i + 1)) / 4294967296 ^ i = limb n i + limb m i + over n m i := by
    rw [mod_step n i, mod_step m i]
    unfold over
    rw [show n % 4294967296 ^ i + limb n i * 4294967296 ^ i + (m % 4294967296 ^ i + limb m i * 4294967296 ^ i) = (n % 4294967296 ^ i + m % 4294967296 ^ i) + (limb n i + limb m i) * 4294967296 ^ i by rw [Nat.add_mul]; omega]
    rw [Nat.add_mul_div_right _ _ hp]; omega
  constructor
  · rw [← e]
    unfold limb
    rw [← Nat.mod_mul_right_div_self, ← Nat.mod_mul_right_div_self (n + m)]
    rw [← Nat.pow_succ, ← Nat.add_mod]
  · rw [← e]
    unfold over
    rw [Nat.div_div_eq_div_mul, ← Nat.pow_succ]

/-- a number's parts, put together -/
def val (A : Nat → Nat) : Nat → Nat
  | 0 => 0
  | k + 1 => val A k + A k * 4294967296 ^ k

theorem val_lt (A : Nat → Nat) (k : Nat) (h : ∀ i, i < k → A i < 4294967296) : val A k < 4294967296 ^ k := by
  induction k with
  | zero => simp [val]
  | succ k ih =>
    have h1 := ih (fun i hi => h i (by omega))
    have h2 := h k (by omega)
    show val A k + A k * 4294967296 ^ k < _
    rw [Nat.pow_succ]
    have : A k * 4294967296 ^ k ≤ 4294967295 * 4294967296 ^ k := Nat.mul_le_mul_right _ (by omega)
    omega

theorem val_limb (n k : Nat) : val (limb n) k = n % 4294967296 ^ k := by
  induction k with
  | zero => simp [val, Nat.mod_one]
  | succ k ih => show val (limb n) k + limb n k * 4294967296 ^ k = _; rw [ih, mod_step]

/-- parts are those of what they come to -/
theorem limb_val (A : Nat → Nat) (k : Nat) (h : ∀ i, i < k → A i < 4294967296) : ∀ i, i < k → limb (val A k) i = A i := by
  induction k with
  | zero => intro i hi; omega
  | succ k ih =>
    intro i hi
    have hlt := val_lt A k (fun j hj => h j (by omega))
    have hp := pow_pos32 k
    by_cases hik : i = k
    · subst hik
      unfold limb
      show (val A i + A i * 4294967296 ^ i) / 4294967296 ^ i % 4294967296 = A i
      rw [Nat.add_mul_div_right _ _ hp, Nat.div_eq_of_lt hlt, Nat.zero_add, Nat.mod_eq_of_lt (h i (by omega))]
    · have h1 := ih (fun j hj => h j (by omega)) i (by omega)
      have h2 : val A (k + 1) % 4294967296 ^ (i + 1) = val A k % 4294967296 ^ (i + 1) := by
        show (val A k + A k * 4294967296 ^ k) % _ = _
        obtain ⟨d, hd⟩ : ∃ d, k = i + 1 + d := ⟨k - (i + 1), by omega⟩
        rw [hd, Nat.pow_add, Nat.mul_left_comm, Nat.add_mul_mod_self_left]
      have h3 : ∀ x, limb x i = x % 4294967296 ^ (i + 1) / 4294967296 ^ i := fun x => by
        unfold limb; rw [Nat.pow_succ, Nat.mod_mul_right_div_self]
      rw [h3, h2, ← h3, h1]

theorem sub_mod {n m K : Nat} (hK : 0 < K) (h : m ≤ n) : (n - m) % K + m % K = n % K + (if n % K < m % K then K else 0) := by
  have hn := Nat.div_add_mod n K
  have hm := Nat.div_add_mod m K
  have ln := Nat.mod_lt n hK
  have lm := Nat.mod_lt m hK
  by_cases hlt : n % K < m % K
  · rw [if_pos hlt]
    have hq : m / K < n / K := by
      rcases Nat.lt_or_ge (m / K) (n / K) with h1 | h1
      · exact h1
      · have := Nat.mul_le_mul_left K h1; omega
    obtain ⟨t, ht⟩ : ∃ t, n / K = m / K + 1 + t := ⟨n / K - (m / K + 1), by omega⟩
    have e : K * (n / K) = K * (m / K) + K + K * t := by rw [ht, Nat.mul_add, Nat.mul_add, Nat.mul_one]
    have e2 : n - m = (n % K + K - m % K) + K * t := by omega
    rw [e2, Nat.add_mul_mod_self_left, Nat.mod_eq_of_lt (by omega)]; omega
  · rw [if_neg hlt]
    have hq : m / K ≤ n / K := Nat.div_le_div_right h
    obtain ⟨t, ht⟩ : ∃ t, n / K = m / K + t := ⟨n / K - m / K, by omega⟩
    have e : K * (n / K) = K * (m / K) + K * t := by rw [ht, Nat.mul_add]
    have e2 : n - m = (n % K - m % K) + K * t := by omega
    rw [e2, Nat.add_mul_mod_self_left, Nat.mod_eq_of_lt (by omega)]; omega

/-- what is borrowed -/
def under (n m i : Nat) : Nat := if n % 4294967296 ^ i < m % 4294967296 ^ i then 1 else 0
theorem under_zero (n m : Nat) : under n m 0 = 0 := by unfold under; simp [Nat.mod_one]
theorem under_le (n m i : Nat) : under n m i ≤ 1 := by unfold under; split <;> omega

theorem sub_step {n m : Nat} (h : m ≤ n) (i : Nat) : limb n i + 4294967296 * under n m (i + 1) = limb (n - m) i + limb m i + under n m i := by
  have hp := pow_pos32 i
  have h1 := sub_mod (K := 4294967296 ^ i) hp h
  have h2 := sub_mod (K := 4294967296 ^ (i + 1)) (pow_pos32 (i + 1)) h
  rw [mod_step n i, mod_step m i, mod_step (n - m) i] at h2
  have e1 : (if n % 4294967296 ^ i < m % 4294967296 ^ i then 4294967296 ^ i else 0) = under n m i * 4294967296 ^ i := by
    unfold under; split <;> simp
  have e2 : (if n % 4294967296 ^ i + limb n i * 4294967296 ^ i < m % 4294967296 ^ i + limb m i * 4294967296 ^ i then 4294967296 ^ (i + 1) else 0) = under n m (i + 1) * 4294967296 * 4294967296 ^ i := by
    rw [← mod_step, ← mod_step]
    unfold under
    split
    · rw [Nat.pow_succ, Nat.one_mul, Nat.mul_comm]
    · simp
  rw [e1] at h1
  rw [e2] at h2
  have h3 : (limb n i + 4294967296 * under n m (i + 1)) * 4294967296 ^ i = (limb (n - m) i + limb m i + under n m i) * 4294967296 ^ i := by
    rw [Nat.add_mul, Nat.add_mul, Nat.add_mul, Nat.mul_comm 4294967296 (under n m (i + 1))]
    omega
  exact Nat.eq_of_mul_eq_mul_right hp h3

theorem div_step (n k : Nat) : n / 4294967296 ^ k = n / 4294967296 ^ (k + 1) * 4294967296 + limb n k := by
  unfold limb
  rw [Nat.pow_succ, ← Nat.div_div_eq_div_mul]
  have := Nat.div_add_mod (n / 4294967296 ^ k) 4294967296
  omega

theorem lt_of_div {n m k : Nat} (h : n / 4294967296 ^ k < m / 4294967296 ^ k) : n < m := by
  rcases Nat.lt_or_ge n m with h1 | h1
  · exact h1
  · have := Nat.div_le_div_right (c := 4294967296 ^ k) h1
    omega

theorem less_at {n m k : Nat} (h : n / 4294967296 ^ (k + 1) = m / 4294967296 ^ (k + 1)) (hne : limb n k ≠ limb m k) : decide (n < m) = decide (limb n k < limb m k) := by
  have h1 := div_step n k
  have h2 := div_step m k
  rcases Nat.lt_or_gt_of_ne hne with hl | hl
  · have : n < m := lt_of_div (k := k) (by omega)
    simp [this, hl]
  · have : m < n := lt_of_div (k := k) (by omega)
    have a : ¬ n < m := by omega
    have b : ¬ limb n k < limb m k := by omega
    simp [a, b]

theorem div_top {n k : Nat} (h : n < 4294967296 ^ k) : n / 4294967296 ^ k = 0 := Nat.div_eq_of_lt h

theorem big_of_limb {n i : Nat} (hi : 2 ≤ i) (h : ¬ limb n i = 0) : 18446744073709551616 ≤ n := by
  rcases Nat.lt_or_ge n 18446744073709551616 with h1 | h1
  · exfalso
    apply h
    unfold limb
    have : 4294967296 ^ 2 ≤ 4294967296 ^ i := Nat.pow_le_pow_right (by omega) hi
    rw [Nat.div_eq_of_lt (by omega)]
  · exact h1

theorem val_high (n : Nat) (h : ∀ j, 2 ≤ j → j < 10 → limb n j = 0) : ∀ k, k + 2 ≤ 10 → val (limb n) (k + 2) = val (limb n) 2 := by
  intro k
  induction k with
  | zero => intro _; rfl
  | succ k ih =>
    intro h2
    show val (limb n) (k + 2) + limb n (k + 2) * 4294967296 ^ (k + 2) = val (limb n) 2
    rw [ih (by omega), h (k + 2) (by omega) (by omega), Nat.zero_mul, Nat.add_zero]

theorem small_of {n a b : Nat} (h1 : a = n) (h2 : b = n % 18446744073709551616) (h3 : a = b) : n < 18446744073709551616 := by omega

theorem small_of_limbs {n : Nat} (hn : n < 4294967296 ^ 10) (h : ∀ j, 2 ≤ j → j < 10 → limb n j = 0) : n < 18446744073709551616 :=
  small_of ((val_limb n 10).trans (Nat.mod_eq_of_lt hn)) (val_limb n 2) (val_high n h 8 (Nat.le_refl _))

theorem or_limbs {n a b : Nat} (hn : n < 18446744073709551616) (ha : a = n % 4294967296) (hb : b = n / 4294967296) : bits .or .u64 (a : Int) (IntKind.u64.wrap ((b : Int) * 4294967296)) = (n : Int) := by
  have hw : IntKind.u64.wrap ((b : Int) * 4294967296) = ((b * 4294967296 : Nat) : Int) := by
    rw [IntKind.wrap_u64]; omega
  rw [hw, u64_or_nat _ _ (by omega) (by omega)]
  have h2 := Nat.shiftLeft_add_eq_or_of_lt (b := a) (i := 32) (by omega) b
  rw [Nat.shiftLeft_eq] at h2
  have e : (2 : Nat) ^ 32 = 4294967296 := by decide
  rw [e] at h2
  rw [Nat.or_comm, ← h2]
  congr 1
  omega
end Go.Proofs.Ythflglejhhebeaa.bigm
