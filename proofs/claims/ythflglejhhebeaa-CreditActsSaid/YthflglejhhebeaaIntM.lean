/- Signs under the operations on bits, and what a wrapped sum, difference or product tells. -/
import Derived.Laws.BitsAllLaws
import Derived.IntWalk
import Derived.RowKit
namespace Go.Proofs.Ythflglejhhebeaa.intm
open Go.RowKit
set_option linter.unusedVariables false

/-- the answer of a sum: a number that is an int, or none -/
def isInt (z : Int) : Bool := decide (-9223372036854775808 ≤ z) && decide (z ≤ 9223372036854775807)
def intOr (z : Int) : Int := if isInt z then z else 0

theorem isInt_iff (z : Int) : isInt z = true ↔ (-9223372036854775808 ≤ z ∧ z ≤ 9223372036854775807) := by
  unfold isInt; rw [Bool.and_eq_true, decide_eq_true_eq, decide_eq_true_eq]
theorem isInt_not (z : Int) : isInt z = false ↔ ¬ (-9223372036854775808 ≤ z ∧ z ≤ 9223372036854775807) := by
  rw [← isInt_iff]; simp

theorem wrap_i64 (n : Int) : IntKind.i64.wrap n = (n + 9223372036854775808) % 18446744073709551616 - 9223372036854775808 := by
  simp [IntKind.wrap, IntKind.bits, IntKind.signed]
  split <;> omega
theorem wrap64_eq (n : Int) : wrap64 n = (n + 9223372036854775808) % 18446744073709551616 - 9223372036854775808 := by unfold wrap64; rfl

theorem wrap_neg (v : BitVec 64) : IntKind.i64.wrap (v.toNat : Int) < 0 ↔ v.msb = true := by
  rw [wrap_i64, BitVec.msb_eq_decide, decide_eq_true_eq]
  have := v.isLt
  have e : (2 : Nat) ^ (64 - 1) = 9223372036854775808 := by decide
  rw [e]
  omega

theorem ofInt_msb {x : Int} (h : -9223372036854775808 ≤ x ∧ x ≤ 9223372036854775807) : (BitVec.ofInt 64 x).msb = decide (x < 0) := by
  rw [BitVec.msb_eq_decide, BitVec.toNat_ofInt]
  have e : (2 : Nat) ^ (64 - 1) = 9223372036854775808 := by decide
  have e2 : ((2 ^ 64 : Nat) : Int) = 18446744073709551616 := by decide
  rw [e, e2, decide_eq_decide]
  omega

theorem xor_neg {x y : Int} (hx : -9223372036854775808 ≤ x ∧ x ≤ 9223372036854775807) (hy : -9223372036854775808 ≤ y ∧ y ≤ 9223372036854775807) : bits .xor .i64 x y < 0 ↔ ¬ (x < 0 ↔ y < 0) := by
  unfold bits
  show IntKind.i64.wrap ((BitVec.ofInt 64 x ^^^ BitVec.ofInt 64 y).toNat : Int) < 0 ↔ _
  rw [wrap_neg, BitVec.msb_xor, ofInt_msb hx, ofInt_msb hy]
  by_cases h1 : x < 0 <;> by_cases h2 : y < 0 <;> simp [h1, h2]

theorem and_neg {x y : Int} (hx : -9223372036854775808 ≤ x ∧ x ≤ 9223372036854775807) (hy : -9223372036854775808 ≤ y ∧ y ≤ 9223372036854775807) : bits .and .i64 x y < 0 ↔ (x < 0 ∧ y < 0) := by
  unfold bits
  show IntKind.i64.wrap ((BitVec.ofInt 64 x &&& BitVec.ofInt 64 y).toNat : Int) < 0 ↔ _
  rw [wrap_neg, BitVec.msb_and, ofInt_msb hx, ofInt_msb hy]
  by_cases h1 : x < 0 <;> by_cases h2 : y < 0 <;> simp [h1, h2]

theorem bits_in (op : BinOp) (x y : Int) : -9223372036854775808 ≤ bits op .i64 x y ∧ bits op .i64 x y ≤ 9223372036854775807 := by
  unfold bits
  rw [wrap_i64]; omega

theorem wrap64_in (z : Int) : -9223372036854775808 ≤ wrap64 z ∧ wrap64 z ≤ 9223372036854775807 := by rw [wrap64_eq]; omega

theorem add_over {a b : Int} (ha : -9223372036854775808 ≤ a ∧ a ≤ 9223372036854775807) (hb : -9223372036854775808 ≤ b ∧ b ≤ 9223372036854775807) :
    bits .and .i64 (bits .xor .i64 a (wrap64 (a + b))) (bits .xor .i64 b (wrap64 (a + b))) < 0 ↔ isInt (a + b) = false := by
  rw [and_neg (bits_in _ _ _) (bits_in _ _ _), xor_neg ha (wrap64_in _), xor_neg hb (wrap64_in _), isInt_not, wrap64_eq]
  omega

theorem sub_over {a b : Int} (ha : -9223372036854775808 ≤ a ∧ a ≤ 9223372036854775807) (hb : -9223372036854775808 ≤ b ∧ b ≤ 9223372036854775807) :
    bits .and .i64 (bits .xor .i64 a b) (bits .xor .i64 a (wrap64 (a - b))) < 0 ↔ isInt (a - b) = false := by
  rw [and_neg (bits_in _ _ _) (bits_in _ _ _), xor_neg ha hb, xor_neg ha (wrap64_in _), isInt_not, wrap64_eq]
  omega

theorem wrap64_of {z : Int} (h : isInt z = true) : wrap64 z = z := by
  rw [isInt_iff] at h
  rw [wrap64_eq]; omega

/-- a product is told by the quotient -/
theorem mul_over {a b : Int} (ha : -9223372036854775808 ≤ a ∧ a ≤ 9223372036854775807) (hb : -9223372036854775808 ≤ b ∧ b ≤ 9223372036854775807) (h0 : b ≠ 0) (hmin : ¬ (a = -9223372036854775808 ∧ b = -1)) :
    wrap64 ((wrap64 (a * b)).tdiv b) = a ↔ isInt (a * b) = true := by
  constructor
  · intro h
    have hc := wrap64_in (a * b)
    obtain ⟨p, hp⟩ : ∃ p, a * b = p := ⟨_, rfl⟩
    rw [hp] at h hc ⊢
    obtain ⟨c, hcc⟩ : ∃ c, wrap64 p = c := ⟨_, rfl⟩
    have hmod : ∃ k : Int, c = p + 18446744073709551616 * k := by
      rw [← hcc, wrap64_eq]
      exact ⟨-((p + 9223372036854775808) / 18446744073709551616), by omega⟩
    rw [hcc] at h hc
    have hdiv := Int.mul_tdiv_add_tmod c b
    have hr : (c.tmod b).natAbs < b.natAbs := by
      rw [Int.natAbs_tmod]; exact Nat.mod_lt _ (by omega)
    have hq : (c.tdiv b).natAbs ≤ c.natAbs := by rw [Int.natAbs_tdiv]; exact Nat.div_le_self _ _
    have hqa : c.tdiv b = a := by
      rw [wrap64_eq] at h
      by_cases hb1 : c = -9223372036854775808 ∧ b = -1
      · obtain ⟨rfl, rfl⟩ := hb1
        have hd : (-9223372036854775808 : Int).tdiv (-1) = 9223372036854775808 := by decide
        rw [hd] at h
        exact absurd (And.intro (show a = -9223372036854775808 by omega) rfl) hmin
      · have hin : c.tdiv b ≤ 9223372036854775807 := by
          by_cases hc1 : c = -9223372036854775808
          · have hb2 : b ≠ -1 := fun e => hb1 ⟨hc1, e⟩
            by_cases hbp : 0 < b
            · have h2 : (c.tdiv b).natAbs = c.natAbs / b.natAbs := Int.natAbs_tdiv ..
              have h3 : c.tdiv b ≤ 0 := by
                have e := Int.mul_tdiv_add_tmod c b
                rcases Int.lt_or_le 0 (c.tdiv b) with h4 | h4
                · have h5 : b * 1 ≤ b * c.tdiv b := Int.mul_le_mul_of_nonneg_left (by omega) (by omega)
                  omega
                · exact h4
              omega
            · have h2 : (c.tdiv b).natAbs = c.natAbs / b.natAbs := Int.natAbs_tdiv ..
              have h3 : c.natAbs / b.natAbs ≤ c.natAbs / 2 := Nat.div_le_div_left (by omega) (by omega)
              omega
          · omega
        omega
    rw [hqa] at hdiv
    have hba : b * a = p := by rw [Int.mul_comm]; exact hp
    rw [hba] at hdiv
    obtain ⟨k, hk⟩ := hmod
    rw [isInt_iff]
    omega
  · intro h
    rw [wrap64_of h, Int.mul_tdiv_cancel _ h0, wrap64_of (by rw [isInt_iff]; exact ha)]
end Go.Proofs.Ythflglejhhebeaa.intm
