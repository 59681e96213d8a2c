/- Whole numbers as floats of 64 bits: below 2^53 each is one, and what is done with them is exact. -/
import Derived.Laws.ComplexArith
namespace Go.Proofs.Ytlldecklngcklaa.fltm
open Ieee
set_option linter.unusedVariables false

/-- the word of a whole number and its sign -/
def W (s : Bool) (n : Nat) : Nat := double.nearest s n 0
def val (s : Bool) (n : Nat) : Int := if s then -(n : Int) else n

theorem log2_shift (n k : Nat) (h : n ≠ 0) : (n <<< k).log2 = n.log2 + k := by
  have hp : 0 < 2 ^ k := Nat.two_pow_pos k
  have hn : n <<< k ≠ 0 := by rw [Nat.shiftLeft_eq]; exact Nat.mul_ne_zero h (by omega)
  rw [Nat.log2_eq_iff hn, Nat.shiftLeft_eq]
  have h1 := Nat.log2_self_le h
  have h2 := @Nat.lt_log2_self n
  constructor
  · rw [Nat.pow_add]; exact Nat.mul_le_mul_right _ h1
  · rw [show n.log2 + k + 1 = (n.log2 + 1) + k by omega, Nat.pow_add]; exact Nat.mul_lt_mul_of_pos_right h2 hp

theorem cut_exact (way : Toward) (s : Bool) (n d : Nat) (hd : d ≤ (n <<< d).log2 + 2) : way.cut s (n <<< d) d = n := by
  unfold Toward.cut
  have e : min d ((n <<< d).log2 + 2) = d := by omega
  simp only [e]
  have hg : (1 : Nat) <<< d = 2 ^ d := by rw [Nat.shiftLeft_eq, Nat.one_mul]
  have hp : 0 < 2 ^ d := Nat.two_pow_pos d
  rw [hg, Nat.shiftLeft_eq, Nat.mul_div_cancel _ hp, Nat.mul_mod_left]
  cases way <;> simp
theorem cut_zero (way : Toward) (s : Bool) (d : Nat) : way.cut s 0 d = 0 := by
  unfold Toward.cut
  simp only [Nat.zero_div, Nat.zero_mod]
  cases way <;> simp

theorem mag_bounds (n : Nat) (h0 : n ≠ 0) (h : n < 9007199254740992) : 4503599627370496 ≤ n <<< (52 - n.log2) ∧ n <<< (52 - n.log2) < 9007199254740992 ∧ n.log2 ≤ 52 := by
  have hL : n.log2 ≤ 52 := by have := (Nat.log2_lt h0 (k := 53)).2 (by omega); omega
  have e := log2_shift n (52 - n.log2) h0
  have hn : n <<< (52 - n.log2) ≠ 0 := by rw [Nat.shiftLeft_eq]; exact Nat.mul_ne_zero h0 (by have := Nat.two_pow_pos (52 - n.log2); omega)
  rw [show n.log2 + (52 - n.log2) = 52 by omega] at e
  have h2 := (Nat.log2_eq_iff hn).1 e
  exact ⟨by have := h2.1; omega, by have := h2.2; omega, hL⟩

theorem d_least : double.leastPlace = -1074 := by decide
theorem d_bin : double.binade = 4503599627370496 := by decide
theorem d_inf : double.infRung = 2047 * 4503599627370496 := by decide
theorem d_sign : double.signWeight = 9223372036854775808 := by decide
theorem d_frac : double.fractionBits = 52 := rfl

theorem nearest_shift (s : Bool) (n k : Nat) (h0 : n ≠ 0) (h : n < 9007199254740992) :
    double.nearest s (n <<< k) (-(k : Int)) = double.word s ((n.log2 + 1022) * 4503599627370496 + n <<< (52 - n.log2)) := by
  obtain ⟨b1, b2, hL⟩ := mag_bounds n h0 h
  have hn : n <<< k ≠ 0 := by rw [Nat.shiftLeft_eq]; exact Nat.mul_ne_zero h0 (by have := Nat.two_pow_pos k; omega)
  unfold Format.nearest
  rw [if_neg hn, log2_shift n k h0]
  have hlast : max (-(k : Int) + ((n.log2 + k : Nat) : Int) - ((52 : Nat) : Int)) (-1074) = (n.log2 : Int) - 52 := by omega
  simp only [d_least, d_frac, d_bin, d_inf, hlast]
  have hkept : Toward.even.cut s ((n <<< k) <<< (-(k : Int) - ((n.log2 : Int) - 52)).toNat) ((n.log2 : Int) - 52 - -(k : Int)).toNat = n <<< (52 - n.log2) := by
    by_cases hk : k ≤ 52 - n.log2
    · have e1 : (-(k : Int) - ((n.log2 : Int) - 52)).toNat = 52 - n.log2 - k := by omega
      have e2 : ((n.log2 : Int) - 52 - -(k : Int)).toNat = 0 := by omega
      rw [e1, e2, ← Nat.shiftLeft_add, show k + (52 - n.log2 - k) = 52 - n.log2 by omega]
      exact cut_exact .even s (n <<< (52 - n.log2)) 0 (by omega)
    · have e1 : (-(k : Int) - ((n.log2 : Int) - 52)).toNat = 0 := by omega
      have e2 : ((n.log2 : Int) - 52 - -(k : Int)).toNat = k - (52 - n.log2) := by omega
      have e3 : n <<< k = (n <<< (52 - n.log2)) <<< (k - (52 - n.log2)) := by rw [← Nat.shiftLeft_add, show 52 - n.log2 + (k - (52 - n.log2)) = k by omega]
      rw [e1, e2, Nat.shiftLeft_zero, e3]
      refine cut_exact .even s _ _ ?_
      rw [← e3, log2_shift n k h0]; omega
  rw [hkept]
  have e4 : ((n.log2 : Int) - 52 - -1074).toNat = n.log2 + 1022 := by omega
  rw [e4, Nat.min_eq_left (by omega)]

theorem nearest_zero (s : Bool) (p : Int) : double.nearest s 0 p = double.word s 0 := by unfold Format.nearest; rw [if_pos rfl]
theorem nearest_W (s : Bool) (n k : Nat) (h : n < 9007199254740992) : double.nearest s (n <<< k) (-(k : Int)) = W s n := by
  by_cases h0 : n = 0
  · subst h0
    rw [Nat.zero_shiftLeft, W, nearest_zero, nearest_zero]
  · have e := nearest_shift s n 0 h0 h
    rw [nearest_shift s n k h0 h, ← e]
    rfl

/-- by how much a word's digits stand further to the left -/
def kOf (n : Nat) : Nat := if n = 0 then 1074 else 52 - n.log2

theorem word_read (s : Bool) (r : Nat) (h : r < 9223372036854775808) : (double.word s r / 9223372036854775808 % 2 == 1) = s ∧ double.word s r % 9223372036854775808 = r := by
  unfold Format.word
  rw [d_sign]
  cases s
  · simp; omega
  · simp; omega
theorem read_W (s : Bool) (n : Nat) (h : n < 9007199254740992) : double.read (W s n) = .number s (n <<< kOf n) (-(kOf n : Int)) := by
  by_cases h0 : n = 0
  · subst h0
    have hw := word_read s 0 (by omega)
    rw [W, nearest_zero]
    unfold Format.read
    simp only [d_sign, d_bin, d_least, hw.1, hw.2]
    rw [if_pos (by omega)]
    simp [kOf]
  · obtain ⟨b1, b2, hL⟩ := mag_bounds n h0 h
    have e : W s n = double.word s ((n.log2 + 1022) * 4503599627370496 + n <<< (52 - n.log2)) := nearest_shift s n 0 h0 h
    have hk : kOf n = 52 - n.log2 := by unfold kOf; rw [if_neg h0]
    rw [e, hk]
    generalize n <<< (52 - n.log2) = m at *
    generalize n.log2 = L at *
    have hw := word_read s ((L + 1022) * 4503599627370496 + m) (by omega)
    unfold Format.read
    simp only [d_sign, d_bin, d_least, d_inf, hw.1, hw.2]
    rw [if_neg (by omega), if_pos (by omega)]
    have e1 : 4503599627370496 + ((L + 1022) * 4503599627370496 + m) % 4503599627370496 = m := by omega
    have e2 : (-1074 : Int) + ((((L + 1022) * 4503599627370496 + m) / 4503599627370496 - 1 : Nat) : Int) = -((52 - L : Nat) : Int) := by omega
    rw [e1, e2]

theorem signed_val (s : Bool) (n i K : Nat) (h : i ≤ K) : signed s (n <<< i) (-(i : Int) - -(K : Int)).toNat = val s n * 2 ^ K := by
  unfold signed val
  have e : (-(i : Int) - -(K : Int)).toNat = K - i := by omega
  rw [e, ← Nat.shiftLeft_add, show i + (K - i) = K by omega, Nat.shiftLeft_eq]
  cases s <;> simp [Int.neg_mul]

theorem pow_pos_int (K : Nat) : (0 : Int) < 2 ^ K := Int.pow_pos (by omega)
theorem mul_lt_iff (x y : Int) (K : Nat) : x * 2 ^ K < y * 2 ^ K ↔ x < y := Int.mul_lt_mul_right (pow_pos_int K)
theorem mul_eq_iff (x y : Int) (K : Nat) : x * 2 ^ K = y * 2 ^ K ↔ x = y := Int.mul_eq_mul_right_iff (by have := pow_pos_int K; omega)

/-- the sign of a sum -/
def sgn (s t : Bool) (v : Int) : Bool := if v = 0 then s && t else decide (v < 0)
theorem add_W (s t : Bool) (a b : Nat) (ha : a < 9007199254740992) (hb : b < 9007199254740992) (hs : (val s a + val t b).natAbs < 9007199254740992) :
    double.add (W s a) (W t b) = some (W (sgn s t (val s a + val t b)) (val s a + val t b).natAbs) := by
  unfold Format.add
  rw [read_W s a ha, read_W t b hb]
  generalize kOf a = i
  generalize kOf b = j
  obtain ⟨K, hK⟩ : ∃ K, K = max i j := ⟨_, rfl⟩
  have hbase : min (-(i : Int)) (-(j : Int)) = -(K : Int) := by omega
  simp only [Datum.sum]
  rw [hbase, signed_val s a i K (by omega), signed_val t b j K (by omega), ← Int.add_mul]
  generalize val s a + val t b = v at *
  have e1 : (v * 2 ^ K = 0) = (v = 0) := by
    have := mul_eq_iff v 0 K
    rw [Int.zero_mul] at this
    exact propext this
  have e2 : (v * 2 ^ K < 0) = (v < 0) := by
    have := mul_lt_iff v 0 K
    rw [Int.zero_mul] at this
    exact propext this
  have e3 : (v * 2 ^ K).natAbs = v.natAbs <<< K := by
    rw [Int.natAbs_mul, Nat.shiftLeft_eq, Int.natAbs_pow]
    rfl
  show some (double.nearest _ _ _) = _
  rw [e3, nearest_W _ _ _ hs]
  simp only [e1, e2]
  rfl
theorem sub_W (s t : Bool) (a b : Nat) (ha : a < 9007199254740992) (hb : b < 9007199254740992) (hs : (val s a - val t b).natAbs < 9007199254740992) :
    double.sub (W s a) (W t b) = some (W (sgn s (!t) (val s a - val t b)) (val s a - val t b).natAbs) := by
  have e : double.sub (W s a) (W t b) = double.add (W s a) (W (!t) b) := by
    unfold Format.sub Format.add
    rw [read_W t b hb, read_W (!t) b hb]
    rfl
  have e2 : val (!t) b = - val t b := by cases t <;> simp [val]
  have := add_W s (!t) a b ha hb (by rw [e2]; rw [← Int.sub_eq_add_neg]; exact hs)
  rw [e, this, e2, ← Int.sub_eq_add_neg]
theorem mul_W (s t : Bool) (a b : Nat) (ha : a < 9007199254740992) (hb : b < 9007199254740992) (hm : a * b < 9007199254740992) :
    double.mul (W s a) (W t b) = some (W (s ^^ t) (a * b)) := by
  unfold Format.mul
  rw [read_W s a ha, read_W t b hb]
  generalize kOf a = i
  generalize kOf b = j
  simp only [Datum.product]
  have e1 : a <<< i * b <<< j = (a * b) <<< (i + j) := by
    rw [Nat.shiftLeft_eq, Nat.shiftLeft_eq, Nat.shiftLeft_eq, Nat.pow_add, Nat.mul_mul_mul_comm]
  have e2 : -(i : Int) + -(j : Int) = -((i + j : Nat) : Int) := by omega
  show some (double.nearest _ _ _) = _
  rw [e1, e2, nearest_W _ _ _ hm]
theorem order_W (s t : Bool) (a b : Nat) (ha : a < 9007199254740992) (hb : b < 9007199254740992) : double.order (W s a) (W t b) = some (compare (val s a) (val t b)) := by
  unfold Format.order
  rw [read_W s a ha, read_W t b hb]
  generalize kOf a = i
  generalize kOf b = j
  obtain ⟨K, hK⟩ : ∃ K, K = max i j := ⟨_, rfl⟩
  have hbase : min (-(i : Int)) (-(j : Int)) = -(K : Int) := by omega
  simp only [Datum.order]
  rw [hbase, signed_val s a i K (by omega), signed_val t b j K (by omega)]
  show some (compareOfLessAndEq _ _) = some (compareOfLessAndEq _ _)
  unfold compareOfLessAndEq
  simp only [mul_lt_iff, mul_eq_iff]
theorem toInt_W (s : Bool) (a : Nat) (ha : a < 9007199254740992) : (double.read (W s a)).toInt .zero = some (val s a) := by
  rw [read_W s a ha]
  have e1 : (-(kOf a : Int)).toNat = 0 := by omega
  have e2 : (- -(kOf a : Int)).toNat = kOf a := by omega
  have hc : Toward.zero.cut s (a <<< kOf a) (kOf a) = a := by
    by_cases h0 : a = 0
    · subst h0; rw [Nat.zero_shiftLeft, cut_zero]
    · exact cut_exact .zero s a (kOf a) (by rw [log2_shift a _ h0]; omega)
  unfold Datum.toInt Datum.integral
  simp only [e1, e2, Nat.shiftLeft_zero, hc]
  unfold signed val
  cases s <;> simp

/-- a whole number as a float -/
def fl (v : Int) : Nat := W (decide (v < 0)) v.natAbs
theorem val_fl (v : Int) : val (decide (v < 0)) v.natAbs = v := by
  unfold val
  by_cases h : v < 0
  · simp [h]; omega
  · simp [h]; omega
theorem floatOfInt_fl (v : Int) : floatOfInt .f64 v = fl v := rfl
end Go.Proofs.Ytlldecklngcklaa.fltm
