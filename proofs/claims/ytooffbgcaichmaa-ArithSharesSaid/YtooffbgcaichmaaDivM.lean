/- The two steps of a long division by a number of two digits (of 32 bits), as plain mathematics. -/
import Derived.Laws.BitsAllLaws
namespace Go.Proofs.Ytooffbgcaichmaa.divm
set_option linter.unusedVariables false

theorem mulV (q V : Nat) : q * V = q * (V / 4294967296) * 4294967296 + q * (V % 4294967296) := by
  have h := Nat.div_add_mod V 4294967296
  have h2 : q * V = q * (4294967296 * (V / 4294967296) + V % 4294967296) := by rw [h]
  rw [h2, Nat.mul_add, ← Nat.mul_assoc, Nat.mul_comm q 4294967296, Nat.mul_assoc, Nat.mul_comm 4294967296 (q * (V / 4294967296))]

/-- a guess of a digit and what it leaves of the upper part -/
structure Guess (V u d q r : Nat) : Prop where
  eq : q * (V / 4294967296) + r = u
  up : (u * 4294967296 + d) / V ≤ q

theorem guess_start {V u d : Nat} (hV : 9223372036854775808 ≤ V) (hd : d < 4294967296) :
    Guess V u d (u / (V / 4294967296)) (u % (V / 4294967296)) := by
  have h1 : 0 < V / 4294967296 := by omega
  refine ⟨by rw [Nat.mul_comm]; exact Nat.div_add_mod _ _, ?_⟩
  have h2 := Nat.lt_succ_self (u / (V / 4294967296))
  rw [Nat.succ_eq_add_one, Nat.div_lt_iff_lt_mul h1] at h2
  obtain ⟨q, hq⟩ : ∃ q, u / (V / 4294967296) = q := ⟨_, rfl⟩
  rw [hq] at h2 ⊢
  have h3 : (u * 4294967296 + d) / V < q + 1 := by
    rw [Nat.div_lt_iff_lt_mul (by omega), mulV (q + 1) V]
    generalize (q + 1) * (V / 4294967296) = a at *
    generalize (q + 1) * (V % 4294967296) = b at *
    omega
  omega

theorem quot_lt {V u d : Nat} (hV : 0 < V) (hu : u < V) (hd : d < 4294967296) : (u * 4294967296 + d) / V < 4294967296 := by
  rw [Nat.div_lt_iff_lt_mul hV]; omega

/-- the guess is too great -/
theorem guess_down {V u d q r : Nat} (hV : 9223372036854775808 ≤ V) (hu : u < V) (hd : d < 4294967296) (g : Guess V u d q r)
    (h : 4294967296 ≤ q ∨ 4294967296 * r + d < q * (V % 4294967296)) : 1 ≤ q ∧ Guess V u d (q - 1) (r + V / 4294967296) := by
  have hlt : (u * 4294967296 + d) / V < q := by
    rcases h with h | h
    · have := quot_lt (V := V) (u := u) (d := d) (by omega) hu hd; omega
    · rw [Nat.div_lt_iff_lt_mul (by omega), mulV q V]
      have := g.eq
      generalize q * (V / 4294967296) = a at *
      generalize q * (V % 4294967296) = b at *
      omega
  generalize hN : (u * 4294967296 + d) / V = N at hlt
  refine ⟨by omega, ⟨?_, by rw [hN]; omega⟩⟩
  have := g.eq
  obtain ⟨p, rfl⟩ : ∃ p, q = p + 1 := ⟨q - 1, by omega⟩
  rw [Nat.add_mul, Nat.one_mul] at this
  rw [Nat.add_sub_cancel]
  generalize p * (V / 4294967296) = a at *
  omega

/-- it is the digit -/
theorem guess_end {V u d q r : Nat} (hV : 9223372036854775808 ≤ V) (g : Guess V u d q r)
    (h : ¬ 4294967296 * r + d < q * (V % 4294967296)) : q = (u * 4294967296 + d) / V := by
  have h2 : q ≤ (u * 4294967296 + d) / V := by
    rw [Nat.le_div_iff_mul_le (by omega), mulV q V]
    have := g.eq
    generalize q * (V / 4294967296) = a at *
    generalize q * (V % 4294967296) = b at *
    omega
  have := g.up
  omega

theorem guess_break {V u d q r : Nat} (hV : 9223372036854775808 ≤ V) (hu : u < V) (g : Guess V u d q r) (h : 4294967296 ≤ r) : q = (u * 4294967296 + d) / V := by
  apply guess_end hV g
  have hq : q < 4294967296 := by
    rcases Nat.lt_or_ge q 4294967296 with h1 | h1
    · exact h1
    · exfalso
      have h2 := Nat.mul_le_mul_right (V / 4294967296) h1
      have := g.eq
      generalize q * (V / 4294967296) = a at *
      generalize hb : 4294967296 * (V / 4294967296) = b at *
      omega
  have h3 : q * (V % 4294967296) ≤ 4294967295 * 4294967295 := Nat.mul_le_mul (by omega) (by omega)
  omega

/-- a digit leaves less than the divisor -/
theorem digit_rest {V u d : Nat} (hV : 0 < V) (hV2 : V < 18446744073709551616) : ((u * 4294967296 + d : Nat) : Int) - (((u * 4294967296 + d) / V : Nat) : Int) * (V : Int) = (((u * 4294967296 + d) % V : Nat) : Int) := by
  have h := Nat.div_add_mod (u * 4294967296 + d) V
  rw [Nat.mul_comm] at h
  have h2 : (((u * 4294967296 + d) / V * V + (u * 4294967296 + d) % V : Nat) : Int) = ((u * 4294967296 + d : Nat) : Int) := by rw [h]
  rw [Int.natCast_add, Int.natCast_mul] at h2
  omega

theorem two_aux {a b N d : Nat} (h : a + b = N) : N * 4294967296 + d = b * 4294967296 + d + a * 4294967296 := by omega

/-- both digits together -/
theorem two_digits {V hi d1 d0 : Nat} (hV : 0 < V) :
    ((hi * 4294967296 + d1) * 4294967296 + d0) / V = (hi * 4294967296 + d1) / V * 4294967296 + ((hi * 4294967296 + d1) % V * 4294967296 + d0) / V ∧
    ((hi * 4294967296 + d1) * 4294967296 + d0) % V = ((hi * 4294967296 + d1) % V * 4294967296 + d0) % V := by
  obtain ⟨N, hN⟩ : ∃ N, hi * 4294967296 + d1 = N := ⟨_, rfl⟩
  rw [hN]
  have h := Nat.div_add_mod N V
  have e : N * 4294967296 + d0 = (N % V * 4294967296 + d0) + V * (N / V * 4294967296) := by
    have h3 : V * (N / V * 4294967296) = V * (N / V) * 4294967296 := (Nat.mul_assoc ..).symm
    rw [h3]
    exact two_aux h
  rw [e, Nat.add_mul_div_left _ _ hV, Nat.add_mul_mod_self_left]
  exact ⟨by omega, rfl⟩

/-- a fraction widened -/
theorem widen {U y s : Nat} (hy : 0 < y) : U * 2 ^ s / (y * 2 ^ s) = U / y ∧ U * 2 ^ s % (y * 2 ^ s) / 2 ^ s = U % y := by
  have hp : 0 < 2 ^ s := Nat.two_pow_pos s
  refine ⟨Nat.mul_div_mul_right _ _ hp, ?_⟩
  rw [Nat.mul_mod_mul_right, Nat.mul_div_cancel _ hp]

/-- the upper word of what is widened -/
theorem upper {hi lo s : Nat} (h0 : 0 < s) (hs : s < 64) (hlo : lo < 18446744073709551616) (hhi : hi * 2 ^ s + lo / 2 ^ (64 - s) < 18446744073709551616) :
    (hi * 2 ^ s + lo / 2 ^ (64 - s)) * 18446744073709551616 + lo * 2 ^ s % 18446744073709551616 = (hi * 18446744073709551616 + lo) * 2 ^ s := by
  have hp : 2 ^ (64 - s) * 2 ^ s = 18446744073709551616 := by rw [← Nat.pow_add, show 64 - s + s = 64 by omega]
  have e : lo * 2 ^ s / 18446744073709551616 = lo / 2 ^ (64 - s) := by
    rw [← hp, Nat.mul_div_mul_right _ _ (Nat.two_pow_pos s)]
  generalize 2 ^ s = t at *
  have h := Nat.div_add_mod (lo * t) 18446744073709551616
  rw [e] at h
  rw [Nat.add_mul, Nat.add_mul, Nat.mul_right_comm hi]
  omega

theorem fits {hi lo y s : Nat} (h0 : 0 < s) (hs : s < 64) (hlo : lo < 18446744073709551616) (hhi : hi < y) (hy : y * 2 ^ s < 18446744073709551616) : hi * 2 ^ s + lo / 2 ^ (64 - s) < y * 2 ^ s := by
  have hp : 2 ^ s * 2 ^ (64 - s) = 18446744073709551616 := by rw [← Nat.pow_add, show s + (64 - s) = 64 by omega]
  have h1 : lo / 2 ^ (64 - s) < 2 ^ s := by
    rw [Nat.div_lt_iff_lt_mul (Nat.two_pow_pos _), hp]; exact hlo
  have h2 : (hi + 1) * 2 ^ s ≤ y * 2 ^ s := Nat.mul_le_mul_right _ hhi
  rw [Nat.add_mul] at h2
  omega

theorem or_add {a b s : Nat} (h : b < 2 ^ s) : a * 2 ^ s ||| b = a * 2 ^ s + b := by
  have := Nat.shiftLeft_add_eq_or_of_lt (b := b) (i := s) h a
  rw [Nat.shiftLeft_eq] at this
  exact this.symm
end Go.Proofs.Ytooffbgcaichmaa.divm
