/- Several texts together: IntM, BigInt. -/
import Derived.Test.YtkbaafgaaiekpaaGreatPeriodBalancesZ13
import Derived.Laws.BitsAllLaws
import Derived.IntWalk
import Derived.RowKit
namespace Go.Proofs.YtkbaafgaaiekpaaGreat.intm
open Go.RowKit
set_option linter.unusedVariables false

def isInt (z : Int) : Bool := decide (-9223372036854775808 ≤ z) && decide (z ≤ 9223372036854775807)
def intOr (z : Int) : Int := if isInt z then z else 0

theorem isInt_iff (z : Int) : isInt z = true ↔ (-9223372036854775808 ≤ z ∧ z ≤ 9223372036854775807) := by
  unfold isInt; rw [Bool.and_eq_true, decide_eq_true_eq, decide_eq_true_eq]
theorem isInt_not (z : Int) : isInt z = false ↔ ¬ (-9223372036854775808 ≤ z ∧ z ≤ 9223372036854775807) := by
  rw [← isInt_iff]; simp

theorem wrap_i64 (n : Int) : IntKind.i64.wrap n = (n + 9223372036854775808) % 18446744073709551616 - 9223372036854775808 := by
  simp [IntKind.wrap, IntKind.bits, IntKind.signed]
  split <;> omega
theorem wrap64_eq (n : Int) : wrap64 n = (n + 9223372036854775808) % 18446744073709551616 - 9223372036854775808 := by unfold wrap64; rfl

theorem wrap_neg (v : BitVec 64) : IntKind.i64.wrap (v.toNat : Int) < 0 ↔ v.msb = true := by
  rw [wrap_i64, BitVec.msb_eq_decide, decide_eq_true_eq]
  have := v.isLt
  have e : (2 : Nat) ^ (64 - 1) = 9223372036854775808 := by decide
  rw [e]
  omega

theorem ofInt_msb {x : Int} (h : -9223372036854775808 ≤ x ∧ x ≤ 9223372036854775807) : (BitVec.ofInt 64 x).msb = decide (x < 0) := by
  rw [BitVec.msb_eq_decide, BitVec.toNat_ofInt]
  have e : (2 : Nat) ^ (64 - 1) = 9223372036854775808 := by decide
  have e2 : ((2 ^ 64 : Nat) : Int) = 18446744073709551616 := by decide
  rw [e, e2, decide_eq_decide]
  omega

theorem xor_neg {x y : Int} (hx : -9223372036854775808 ≤ x ∧ x ≤ 9223372036854775807) (hy : -9223372036854775808 ≤ y ∧ y ≤ 9223372036854775807) : bits .xor .i64 x y < 0 ↔ ¬ (x < 0 ↔ y < 0) := by
  unfold bits
  show IntKind.i64.wrap ((BitVec.ofInt 64 x ^^^ BitVec.ofInt 64 y).toNat : Int) < 0 ↔ _
  rw [wrap_neg, BitVec.msb_xor, ofInt_msb hx, ofInt_msb hy]
  by_cases h1 : x < 0 <;> by_cases h2 : y < 0 <;> simp [h1, h2]

theorem and_neg {x y : Int} (hx : -9223372036854775808 ≤ x ∧ x ≤ 9223372036854775807) (hy : -9223372036854775808 ≤ y ∧ y ≤ 9223372036854775807) : bits .and .i64 x y < 0 ↔ (x < 0 ∧ y < 0) := by
  unfold bits
  show IntKind.i64.wrap ((BitVec.ofInt 64 x &&& BitVec.ofInt 64 y).toNat : Int) < 0 ↔ _
  rw [wrap_neg, BitVec.msb_and, ofInt_msb hx, ofInt_msb hy]
  by_cases h1 : x < 0 <;> by_cases h2 : y < 0 <;> simp [h1, h2]

theorem bits_in (op : BinOp) (x y : Int) : -9223372036854775808 ≤ bits op .i64 x y ∧ bits op .i64 x y ≤ 9223372036854775807 := by
  unfold bits
  rw [wrap_i64]; omega

theorem wrap64_in (z : Int) : -9223372036854775808 ≤ wrap64 z ∧ wrap64 z ≤ 9223372036854775807 := by rw [wrap64_eq]; omega

theorem add_over {a b : Int} (ha : -9223372036854775808 ≤ a ∧ a ≤ 9223372036854775807) (hb : -9223372036854775808 ≤ b ∧ b ≤ 9223372036854775807) :
    bits .and .i64 (bits .xor .i64 a (wrap64 (a + b))) (bits .xor .i64 b (wrap64 (a + b))) < 0 ↔ isInt (a + b) = false := by
  rw [and_neg (bits_in _ _ _) (bits_in _ _ _), xor_neg ha (wrap64_in _), xor_neg hb (wrap64_in _), isInt_not, wrap64_eq]
  omega

theorem sub_over {a b : Int} (ha : -9223372036854775808 ≤ a ∧ a ≤ 9223372036854775807) (hb : -9223372036854775808 ≤ b ∧ b ≤ 9223372036854775807) :
    bits .and .i64 (bits .xor .i64 a b) (bits .xor .i64 a (wrap64 (a - b))) < 0 ↔ isInt (a - b) = false := by
  rw [and_neg (bits_in _ _ _) (bits_in _ _ _), xor_neg ha hb, xor_neg ha (wrap64_in _), isInt_not, wrap64_eq]
  omega

theorem wrap64_of {z : Int} (h : isInt z = true) : wrap64 z = z := by
  rw [isInt_iff] at h
  rw [wrap64_eq]; omega

end Go.Proofs.YtkbaafgaaiekpaaGreat.intm
namespace Go.Proofs.YtkbaafgaaiekpaaGreat.bigw
open Go.RowKit mem bigm intm
set_option linter.unusedVariables false

set_option maxRecDepth 100000 in
theorem aadd_any (a b : Int) (ha : -9223372036854775808 ≤ a ∧ a ≤ 9223372036854775807) (hb : -9223372036854775808 ≤ b ∧ b ≤ 9223372036854775807) (w : World) :
    Calls Tryz.prog 89 #[.int .i64 a, .int .i64 b] w fun e w' => e = .returned (.tuple #[.int .i64 (intOr (a + b)), .bool (isInt (a + b))]) ∧ w = w' := by
  have HO := Lib.hid (add_over ha hb)
  go_enter Tryz.func89, Tryz.ntmps89
  go_wp2
  · have h : isInt (a + b) = false := HO.out.1 (by assumption)
    have hi : intOr (a + b) = 0 := by unfold intOr; rw [h]; rfl
    rw [hi, h]
    go_ret2
    exact ⟨rfl, rfl⟩
  · have h : isInt (a + b) = true := by
      cases h : isInt (a + b) with
      | true => rfl
      | false => have h2 := HO.out.2 h; omega
    have hi : intOr (a + b) = wrap64 (a + b) := by unfold intOr; rw [h, wrap64_of h]; rfl
    rw [hi, h]
    go_ret2
    exact ⟨rfl, rfl⟩

set_option maxRecDepth 100000 in
theorem asub_any (a b : Int) (ha : -9223372036854775808 ≤ a ∧ a ≤ 9223372036854775807) (hb : -9223372036854775808 ≤ b ∧ b ≤ 9223372036854775807) (w : World) :
    Calls Tryz.prog 90 #[.int .i64 a, .int .i64 b] w fun e w' => e = .returned (.tuple #[.int .i64 (intOr (a - b)), .bool (isInt (a - b))]) ∧ w = w' := by
  have HO := Lib.hid (sub_over ha hb)
  go_enter Tryz.func90, Tryz.ntmps90
  go_wp2
  · have h : isInt (a - b) = false := HO.out.1 (by assumption)
    have hi : intOr (a - b) = 0 := by unfold intOr; rw [h]; rfl
    rw [hi, h]
    go_ret2
    exact ⟨rfl, rfl⟩
  · have h : isInt (a - b) = true := by
      cases h : isInt (a - b) with
      | true => rfl
      | false => have h2 := HO.out.2 h; omega
    have hi : intOr (a - b) = wrap64 (a - b) := by unfold intOr; rw [h, wrap64_of h]; rfl
    rw [hi, h]
    go_ret2
    exact ⟨rfl, rfl⟩

end Go.Proofs.YtkbaafgaaiekpaaGreat.bigw
