/- Tariffs: a split of nothing, or out of bounds; the document's tier of a block. -/
import Derived.Test.YtfdaokjigjpomaaTirG
namespace Go.Proofs.Ytfdaokjigjpomaa.tirw
open Go.RowKit mem tirm intm
set_option linter.unusedVariables false

end Go.Proofs.Ytfdaokjigjpomaa.tirw
