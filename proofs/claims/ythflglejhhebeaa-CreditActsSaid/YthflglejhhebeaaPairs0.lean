/- Sums, differences and products of two numbers: what the law answers. -/
import Derived.Test.YthflglejhhebeaaBigTimes
namespace Go.Proofs.Ythflglejhhebeaa.bigw
open Go.RowKit mem bigm intm
set_option linter.unusedVariables false

theorem of_sb (n : Int) (hn : -9223372036854775808 ≤ n ∧ n ≤ 9223372036854775807) (w : World) :
    Calls Try.prog 73 #[.int .i64 n] w fun e w' => e = .returned (sb n) ∧ Only (fun _ => False) w w' := of_any n hn w

theorem lt9 {k : Nat} (h : k ≤ 85070591730234615865843651857942052864) : k < 4294967296 ^ 9 := Nat.lt_of_le_of_lt h (Nat.le_of_ble_eq_true rfl)
theorem lt10 {k : Nat} (h : k ≤ 85070591730234615865843651857942052864) : k < 4294967296 ^ 10 := Nat.lt_of_le_of_lt h (Nat.le_of_ble_eq_true rfl)
theorem lt5 {k : Nat} (h : k ≤ 85070591730234615865843651857942052864) : k < 4294967296 ^ 5 := Nat.lt_of_le_of_lt h (Nat.le_of_ble_eq_true rfl)

theorem mul_le {a b : Int} (ha : -9223372036854775808 ≤ a ∧ a ≤ 9223372036854775807) (hb : -9223372036854775808 ≤ b ∧ b ≤ 9223372036854775807) : (a * b).natAbs ≤ 85070591730234615865843651857942052864 := by
  rw [Int.natAbs_mul]
  have h1 : a.natAbs ≤ 9223372036854775808 := by omega
  have h2 : b.natAbs ≤ 9223372036854775808 := by omega
  exact Nat.mul_le_mul h1 h2

end Go.Proofs.Ythflglejhhebeaa.bigw
