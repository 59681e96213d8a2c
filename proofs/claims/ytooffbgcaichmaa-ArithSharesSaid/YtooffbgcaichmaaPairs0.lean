/- Sums, differences and products of two numbers: what the law answers. -/
import Derived.Test.YtooffbgcaichmaaBigTimes
namespace Go.Proofs.Ytooffbgcaichmaa.bigw
open Go.RowKit mem bigm intm
set_option linter.unusedVariables false

theorem of_sb (n : Int) (hn : -9223372036854775808 ≤ n ∧ n ≤ 9223372036854775807) (w : World) :
    Calls Try.prog 12 #[.int .i64 n] w fun e w' => e = .returned (sb n) ∧ Only (fun _ => False) w w' := of_any n hn w

theorem lt9 {k : Nat} (h : k ≤ 85070591730234615865843651857942052864) : k < 4294967296 ^ 9 := Nat.lt_of_le_of_lt h (Nat.le_of_ble_eq_true rfl)
theorem lt10 {k : Nat} (h : k ≤ 85070591730234615865843651857942052864) : k < 4294967296 ^ 10 := Nat.lt_of_le_of_lt h (Nat.le_of_ble_eq_true rfl)
theorem lt5 {k : Nat} (h : k ≤ 85070591730234615865843651857942052864) : k < 4294967296 ^ 5 := Nat.lt_of_le_of_lt h (Nat.le_of_ble_eq_true rfl)

theorem mul_le {a b : Int} (ha : -9223372036854775808 ≤ a ∧ a ≤ 9223372036854775807) (hb : -9223372036854775808 ≤ b ∧ b ≤ 9223372036854775807) : (a * b).natAbs ≤ 85070591730234615865843651857942052864 := by
  rw [Int.natAbs_mul]
  have h1 : a.natAbs ≤ 9223372036854775808 := by omega
  have h2 : b.natAbs ≤ 9223372036854775808 := by omega
  exact Nat.mul_le_mul h1 h2

set_option maxRecDepth 100000 in
theorem sums_any (w : World) : Calls Try.prog 17 #[] w fun e w' => e = .returned (.bool true) ∧ w = w' := by
  go_enter Try.func17, Try.ntmps17
  go_wp2_with fail
  refine (aadd_any 2 3 (by omega) (by omega) _).mono ?_
  rintro e1 w1 ⟨rfl, rfl⟩
  rw [show intOr (2 + 3) = 5 from rfl, show isInt (2 + 3) = true from rfl]
  go_wp2_with fail
  refine (aadd_any 4611686018427387904 4611686018427387904 (by omega) (by omega) _).mono ?_
  rintro e1 w1 ⟨rfl, rfl⟩
  rw [show intOr (4611686018427387904 + 4611686018427387904) = 0 from rfl, show isInt (4611686018427387904 + 4611686018427387904) = false from rfl]
  go_wp2
  go_ret
  exact ⟨rfl, rfl⟩

set_option maxRecDepth 100000 in
set_option maxHeartbeats 4000000 in
theorem pairs_walk (a b : Int) (ha : -9223372036854775808 ≤ a ∧ a ≤ 9223372036854775807) (hb : -9223372036854775808 ≤ b ∧ b ≤ 9223372036854775807) (w : World) :
    Calls Try.prog 3 #[.int .i64 a, .int .i64 b] w fun en w' => en = .returned (.bool true) ∧ Below w.heap.size w w' := by
  have HA := Lib.hid ha
  have HB := Lib.hid hb
  have HAN : Hid (a.natAbs ≤ 85070591730234615865843651857942052864) := Lib.hid (by omega)
  have HBN : Hid (b.natAbs ≤ 85070591730234615865843651857942052864) := Lib.hid (by omega)
  have HMN : Hid ((-b).natAbs ≤ 85070591730234615865843651857942052864) := Lib.hid (by omega)
  have HPN : Hid ((a + b).natAbs ≤ 85070591730234615865843651857942052864) := Lib.hid (by omega)
  have HDN : Hid ((a + -b).natAbs ≤ 85070591730234615865843651857942052864) := Lib.hid (by omega)
  have HTN : Hid ((a * b).natAbs ≤ 85070591730234615865843651857942052864) := Lib.hid (mul_le ha hb)
  have HSUB : Hid (a - b = a + -b) := Lib.hid (by omega)
  clear ha hb
  go_enter Try.func3, Try.ntmps3
  go_wp2_with fail
  refine (aadd_any a b HA.out HB.out _).mono ?_
  rintro e1 w1 ⟨rfl, rfl⟩
  go_wp2_with fail
  refine (of_sb a HA.out _).mono ?_
  rintro e1 w1 ⟨rfl, hO1⟩
  go_wp2_with fail
  refine (of_sb b HB.out _).mono ?_
  rintro e2 w2 ⟨rfl, hO2⟩
  go_wp2_with fail
  refine (plus_any a b (lt9 HAN.out) (lt9 HBN.out) _).mono ?_
  rintro e3 w3 ⟨rfl, hO3⟩
  go_wp2_with fail
  refine (bint_any (a + b) (lt10 HPN.out) _).mono ?_
  rintro e4 w4 ⟨rfl, hO4⟩
  go_wp2_with fail
  refine (asub_any a b HA.out HB.out _).mono ?_
  rintro e5 w5 ⟨rfl, rfl⟩
  rw [HSUB.out]
  go_wp2_with fail
  refine (of_sb a HA.out _).mono ?_
  rintro e5 w5 ⟨rfl, hO5⟩
  go_wp2_with fail
  refine (of_sb b HB.out _).mono ?_
  rintro e6 w6 ⟨rfl, hO6⟩
  go_wp2_with fail
  refine (minus_any b (lt10 HBN.out) _).mono ?_
  rintro e7 w7 ⟨rfl, hO7⟩
  go_wp2_with fail
  refine (plus_any a (-b) (lt9 HAN.out) (lt9 HMN.out) _).mono ?_
  rintro e8 w8 ⟨rfl, hO8⟩
  go_wp2_with fail
  refine (bint_any (a + -b) (lt10 HDN.out) _).mono ?_
  rintro e9 w9 ⟨rfl, hO9⟩
  go_wp2_with fail
  refine (amul_any a b HA.out HB.out _).mono ?_
  rintro e10 w10 ⟨rfl, rfl⟩
  go_wp2_with fail
  refine (of_sb a HA.out _).mono ?_
  rintro e10 w10 ⟨rfl, hO10⟩
  go_wp2_with fail
  refine (of_sb b HB.out _).mono ?_
  rintro e11 w11 ⟨rfl, hO11⟩
  go_wp2_with fail
  refine (times_any a b (lt5 HAN.out) (lt5 HBN.out) _).mono ?_
  rintro e12 w12 ⟨rfl, hO12⟩
  go_wp2_with fail
  refine (bint_any (a * b) (lt10 HTN.out) _).mono ?_
  rintro e13 w13 ⟨rfl, hO13⟩
  have OW := Lib.hid (hO1.trans (hO2.trans (hO3.trans (hO4.trans (hO5.trans (hO6.trans (hO7.trans (hO8.trans (hO9.trans (hO10.trans (hO11.trans (hO12.trans hO13))))))))))))
  clear hO1 hO2 hO3 hO4 hO5 hO6 hO7 hO8 hO9 hO10 hO11 hO12 hO13
  generalize intOr (a + b) = x1
  generalize isInt (a + b) = q1
  generalize intOr (a + -b) = x2
  generalize isInt (a + -b) = q2
  generalize intOr (a * b) = x3
  generalize isInt (a * b) = q3
  go_wp2_with fail
  refine (sums_any _).mono ?_
  rintro e14 w14 ⟨rfl, rfl⟩
  cases q1 <;> cases q2 <;> cases q3
  all_goals
    go_wp2
    go_ret
    exact ⟨rfl, OW.out.none⟩
end Go.Proofs.Ytooffbgcaichmaa.bigw
