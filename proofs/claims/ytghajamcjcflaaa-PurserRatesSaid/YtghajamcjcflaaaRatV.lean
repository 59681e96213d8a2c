/- RateFits's walk. -/
import Derived.Test.YtghajamcjcflaaaRatS
namespace Go.Proofs.Ytghajamcjcflaaa.tirw
open Go.RowKit mem tirm intm bigm bigw
set_option linter.unusedVariables false

theorem TiersR.only {w w' : World} {a : Option Addr} {len cap : Nat} {ts : List Tr} (h : TiersR w a len cap ts) (ho : Only (fun _ => False) w w') : TiersR w' a len cap ts := ⟨h.1.only ho (fun _ _ f => f), h.2⟩
end Go.Proofs.Ytghajamcjcflaaa.tirw
