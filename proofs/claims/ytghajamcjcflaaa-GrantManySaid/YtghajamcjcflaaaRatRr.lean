/- Plans: what so many units come to: the document's Rate. -/
import Derived.Test.YtghajamcjcflaaaRatX
import Derived.Test.YtghajamcjcflaaaRatRw
namespace Go.Proofs.Ytghajamcjcflaaa.tirw
open Go.RowKit mem tirm intm bigm bigw
set_option linter.unusedVariables false

end Go.Proofs.Ytghajamcjcflaaa.tirw
