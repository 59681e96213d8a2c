/- The document's numbers in parts: what Minus and Int answer; the program's own Add, Sub and Mul. -/
import Derived.Test.YtfdaokjigjpomaaBigPlus
import Derived.Test.YtfdaokjigjpomaaIntM
namespace Go.Proofs.Ytfdaokjigjpomaa.bigw
open Go.RowKit mem bigm intm
set_option linter.unusedVariables false

theorem ret_pair {a b : Int} {c : Bool} (h : a = b) : Ending.returned (.tuple #[.int .i64 a, .bool c]) = .returned (.tuple #[.int .i64 b, .bool c]) := by rw [h]

end Go.Proofs.Ytfdaokjigjpomaa.bigw
