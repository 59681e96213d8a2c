/- RhythmTurns, of every count of quarters. -/
import Derived.Test.YtlldecklngcklaaRhyU0
import Derived.Test.YtlldecklngcklaaRhyU1
import Derived.Test.YtlldecklngcklaaRhyU2
import Derived.Test.YtlldecklngcklaaRhyU3
namespace Go.Proofs.Ytlldecklngcklaa.rhyw
open Go.RowKit mem
set_option linter.unusedVariables false

theorem turns_walk (a b c d n : Int) (w : World) : Calls Try.prog 13 #[.agg #[.int .i64 a, .int .i64 b, .int .i64 c, .int .i64 d], .int .i64 n] w fun e w' => e = .returned (.bool true) ∧ Below w.heap.size w w' := by
  have h4 : n % 4 = 0 ∨ n % 4 = 1 ∨ n % 4 = 2 ∨ n % 4 = 3 := by omega
  rcases h4 with h | h | h | h
  · exact (turns_0 a b c d n h w).mono fun _ _ ⟨h1, h2⟩ => ⟨h1, h2.none⟩
  · exact (turns_1 a b c d n h w).mono fun _ _ ⟨h1, h2⟩ => ⟨h1, h2.none⟩
  · exact (turns_2 a b c d n h w).mono fun _ _ ⟨h1, h2⟩ => ⟨h1, h2.none⟩
  · exact (turns_3 a b c d n h w).mono fun _ _ ⟨h1, h2⟩ => ⟨h1, h2.none⟩
end Go.Proofs.Ytlldecklngcklaa.rhyw
