/- Books: the document's DocMove. -/
import Derived.Test.YtkbaafgaaiekpaaFuF
import Derived.Deep.RegionHeld3
namespace Go.Proofs.Ytkbaafgaaiekpaa.fnd
open Go.RowKit mem tre
set_option linter.unusedVariables false

end Go.Proofs.Ytkbaafgaaiekpaa.fnd
