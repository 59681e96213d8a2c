/- RhythmJoins's walk, of all rhythms. -/
import Derived.Test.YtlldecklngcklaaRhyYa
import Derived.Test.YtlldecklngcklaaRhyYb
import Derived.Test.YtlldecklngcklaaRhyYc
import Derived.Test.YtlldecklngcklaaRhyYd
namespace Go.Proofs.Ytlldecklngcklaa.rhyw
open Go.RowKit mem rhym
set_option linter.unusedVariables false

theorem joins_any (a0 a1 a2 a3 b0 b1 b2 b3 n : Int) (w : World) : Calls Try.prog 14 #[.agg #[.int .i64 a0, .int .i64 a1, .int .i64 a2, .int .i64 a3], .agg #[.int .i64 b0, .int .i64 b1, .int .i64 b2, .int .i64 b3], .int .i64 n] w fun e w' => e = .returned (.bool true) ∧ Only (fun _ => False) w w' := by
  cases ha : rightB a0 a1 a2 a3 with
  | false => exact joins_no1 a0 a1 a2 a3 b0 b1 b2 b3 n ha w
  | true =>
    cases hb : rightB b0 b1 b2 b3 with
    | false => exact joins_no2 a0 a1 a2 a3 b0 b1 b2 b3 n ha hb w
    | true =>
      cases hs : rightB (a0 + b0) (a1 + b1) (a2 + b2) (a3 + b3) with
      | false => exact joins_over a0 a1 a2 a3 b0 b1 b2 b3 n ha hb hs w
      | true =>
        obtain ⟨E, hE⟩ : ∃ E, IntKind.u64.wrap n % 1125899906842624 = E := ⟨_, rfl⟩
        cases hg : rightB (a0 + E) (a1 + E) (a2 + E) (a3 + E) with
        | false => exact joins_ok0 a0 a1 a2 a3 b0 b1 b2 b3 n ha hb hs E hE hg w
        | true => exact joins_ok1 a0 a1 a2 a3 b0 b1 b2 b3 n ha hb hs E hE hg w
theorem joins_walk (a0 a1 a2 a3 b0 b1 b2 b3 n : Int) (w : World) : Calls Try.prog 14 #[.agg #[.int .i64 a0, .int .i64 a1, .int .i64 a2, .int .i64 a3], .agg #[.int .i64 b0, .int .i64 b1, .int .i64 b2, .int .i64 b3], .int .i64 n] w fun e w' => e = .returned (.bool true) ∧ Below w.heap.size w w' :=
  (joins_any a0 a1 a2 a3 b0 b1 b2 b3 n w).mono fun _ _ ⟨h1, h2⟩ => ⟨h1, h2.none⟩
end Go.Proofs.Ytlldecklngcklaa.rhyw
