/- Blocks of units, as mathematics. -/
import Derived.Test.YtonacdjaimokeaaArBl
import Derived.Test.YtonacdjaimokeaaRatG
namespace Go.Proofs.Ytonacdjaimokeaa.tirw
open Go.RowKit mem tirm intm bigm bigw
set_option linter.unusedVariables false

theorem bk_mul {q B : Int} (hq : 0 ≤ q) (hB : 1 ≤ B) : bk (q * B) B = q := by
  unfold bk
  have h0 : 0 ≤ q * B := Int.mul_nonneg hq (by omega)
  rw [if_pos ⟨h0, hB⟩, if_pos (Int.mul_emod_left q B), Int.mul_ediv_cancel q (by omega)]
theorem bk_mul1 {q B : Int} (hq : 0 ≤ q) (hB : 1 ≤ B) : bk (q * B + 1) B = q + 1 := by
  unfold bk
  have h0 : 0 ≤ q * B := Int.mul_nonneg hq (by omega)
  rw [if_pos ⟨by omega, hB⟩]
  by_cases h1 : B = 1
  · subst h1
    rw [if_pos (Int.emod_one _), Int.ediv_one, Int.mul_one]
  · have h2 : (q * B + 1) / B = q := by
      rw [show q * B + 1 = 1 + q * B by omega, Int.add_mul_ediv_right _ _ (show B ≠ 0 by omega), Int.ediv_eq_zero_of_lt (by omega) (by omega)]
      omega
    have h3 := Int.mul_ediv_add_emod (q * B + 1) B
    rw [h2, Int.mul_comm B q] at h3
    rw [if_neg (by omega), h2]
theorem bk_lt {u B q : Int} (hu : 0 ≤ u) (hB : 1 ≤ B) (h : q < bk u B) : q * B < u := by
  unfold bk at h
  rw [if_pos ⟨hu, hB⟩] at h
  have h1 := Int.mul_ediv_add_emod u B
  have h3 := Int.emod_nonneg u (show B ≠ 0 by omega)
  generalize hr : u % B = r at *
  generalize u / B = e at *
  have hc : e * B = B * e := Int.mul_comm _ _
  by_cases h0 : r = 0
  · rw [if_pos h0] at h
    have h2 := Int.mul_le_mul_of_nonneg_right (show q + 1 ≤ e by omega) (show 0 ≤ B by omega)
    rw [Int.add_mul, Int.one_mul] at h2
    omega
  · rw [if_neg h0] at h
    have h2 := Int.mul_le_mul_of_nonneg_right (show q ≤ e by omega) (show 0 ≤ B by omega)
    omega
/-- no more units are no more blocks -/
theorem bk_mono {u v B : Int} (hu : 0 ≤ u) (h : u ≤ v) (hB : 1 ≤ B) : bk u B ≤ bk v B := by
  rcases Int.lt_or_le (bk v B) (bk u B) with e | e
  · exfalso
    have h1 := bk_lt hu hB e
    have hv : bk v B * B < v := by omega
    unfold bk at hv
    rw [if_pos ⟨by omega, hB⟩] at hv
    have h2 := Int.mul_ediv_add_emod v B
    have h4 := Int.emod_lt_of_pos v (show 0 < B by omega)
    have h3 := Int.emod_nonneg v (show B ≠ 0 by omega)
    have hc : v / B * B = B * (v / B) := Int.mul_comm _ _
    split at hv
    · omega
    · rw [Int.add_mul, Int.one_mul] at hv
      omega
  · exact e
end Go.Proofs.Ytonacdjaimokeaa.tirw
