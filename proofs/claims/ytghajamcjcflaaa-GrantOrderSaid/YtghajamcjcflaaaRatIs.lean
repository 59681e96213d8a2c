/- Plans: the tariff at a time: the document's. -/
import Derived.Test.YtghajamcjcflaaaRatG
namespace Go.Proofs.Ytghajamcjcflaaa.tirw
open Go.RowKit mem tirm intm bigw
set_option linter.unusedVariables false

end Go.Proofs.Ytghajamcjcflaaa.tirw
