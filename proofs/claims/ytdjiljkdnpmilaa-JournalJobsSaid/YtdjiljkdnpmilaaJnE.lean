/- The journal's Post: of what is no entry. -/
import Derived.Test.YtdjiljkdnpmilaaJnD
namespace Go.Proofs.Ytdjiljkdnpmilaa.jnw
open Go.RowKit mem accm accn entw entm
set_option linter.unusedVariables false

set_option maxRecDepth 100000 in
set_option maxHeartbeats 2000000 in
theorem post_no (p : Nat) (kind : Int) (a : Option Addr) (n cap : Nat) (ls : List Lg) (w : World) (hr : ReadsL w a n ls) (hc : chk kind ls ≠ 0) :
    Calls Try.prog 13 #[.pointer (some ⟨p, 0, none⟩), .agg #[.int .i64 kind, .slice a n cap]] w fun e w' => e = .returned (.tuple #[.int .i64 0, .int .i64 (chk kind ls)]) ∧ Only (fun _ => False) w w' := by
  obtain ⟨w1, hw1⟩ : ∃ x, x = w.alloc (.cells #[.int .i64 kind, .slice a n cap] 25) := ⟨_, rfl⟩
  obtain ⟨q, hq⟩ : ∃ x, x = w.heap.size := ⟨_, rfl⟩
  have ho1 : Only (fun _ => False) w w1 := by rw [hw1]; exact (Only.refl _ w).alloc _
  have c0 : w1.cell? ⟨q, 0, none⟩ = some (.int .i64 kind) := by rw [hw1]; exact alloc_new _ _ _ _ _ _ hq rfl
  have c1 : w1.cell? ⟨q, 1, none⟩ = some (.slice a n cap) := by rw [hw1]; exact alloc_new _ _ _ _ _ _ hq rfl
  have HO1 := Lib.hid ho1
  have HCK := Lib.hid (check_any kind a n cap ls w1 (hr.only ho1 (fun _ _ f => f)))
  have hcz : (chk kind ls != 0) = true := by simpa using hc
  generalize chk kind ls = e at *
  clear hr hc ho1
  go_enter Try.func13, Try.ntmps13
  go_upto_region 3 with fail
  simp only [← hw1, ← hq]
  clear hw1 hq
  go_wp2_with fail
  refine HCK.out.mono ?_
  rintro _ w2 ⟨rfl, ho⟩
  have HO2 := Lib.hid (HO1.out.trans ho)
  clear ho HCK c0 c1
  go_wp2_with fail
  go_ret2
  exact ⟨rfl, HO2.out⟩
end Go.Proofs.Ytdjiljkdnpmilaa.jnw
