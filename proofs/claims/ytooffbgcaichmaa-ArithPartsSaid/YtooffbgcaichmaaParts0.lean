/- The law of parts: what it answers. -/
import Derived.Test.YtooffbgcaichmaaPart0
namespace Go.Proofs.Ytooffbgcaichmaa.bigw
open Go.RowKit mem bigm intm
set_option linter.unusedVariables false

set_option maxRecDepth 100000 in
set_option maxHeartbeats 1000000 in
theorem parts_walk (a b c : Int) (ha : -9223372036854775808 ≤ a ∧ a ≤ 9223372036854775807) (hb : -9223372036854775808 ≤ b ∧ b ≤ 9223372036854775807) (hc : -9223372036854775808 ≤ c ∧ c ≤ 9223372036854775807) (w : World) :
    Calls Try.prog 5 #[.int .i64 a, .int .i64 b, .int .i64 c] w fun en w' => en = .returned (.bool true) ∧ Below w.heap.size w w' := by
  have HA := Lib.hid ha
  have HB := Lib.hid hb
  have HC := Lib.hid hc
  clear ha hb hc
  go_enter Try.func5, Try.ntmps5
  go_wp2_with fail
  refine (apart_any a b c HA.out HB.out HC.out _).mono ?_
  rintro e1 w1 ⟨rfl, hO1⟩
  go_wp2_with fail
  refine (rpart_any a b c HA.out HB.out HC.out _).mono ?_
  rintro e2 w2 ⟨rfl, hO2⟩
  go_wp2_with fail
  refine (ablocks_any a c HA.out HC.out _).mono ?_
  rintro e3 w3 ⟨rfl, rfl⟩
  go_wp2_with fail
  refine (rblocks_any a c HA.out HC.out _).mono ?_
  rintro e4 w4 ⟨rfl, rfl⟩
  have OW := Lib.hid (hO1.trans hO2)
  clear hO1 hO2
  generalize pq a b c = x1
  generalize pr a b c = x2
  generalize pk a b c = q1
  generalize bk a c = x3
  generalize bok a c = q2
  go_wp2_with fail
  refine (sums_any _).mono ?_
  rintro e5 w5 ⟨rfl, rfl⟩
  cases q1 <;> cases q2
  all_goals
    go_wp2
    go_ret
    exact ⟨rfl, OW.out.none⟩
end Go.Proofs.Ytooffbgcaichmaa.bigw
