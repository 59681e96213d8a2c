/- TreePaths, for its frame. -/
import Derived.Test.YtginfnceindojaaTrQ
namespace Go.Proofs.Ytginfnceindojaa.tre
open Go.RowKit mem
theorem paths_walk (a1 : Option Addr) (l1 c1 : Nat) (w : World) (h1 : RowS w a1 l1) :
    Calls Try.prog 4 #[.slice a1 l1 c1] w fun e w' => e = .returned (.bool true) ∧ Below w.heap.size w w' :=
  (paths_any a1 l1 c1 w h1).mono fun _ _ ⟨p, q⟩ => ⟨p, q.none⟩
end Go.Proofs.Ytginfnceindojaa.tre
