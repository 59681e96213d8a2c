/- TreeMoves, for its frame. -/
import Derived.Test.YtginfnceindojaaTrW
namespace Go.Proofs.Ytginfnceindojaa.tre
open Go.RowKit mem
theorem moves_walk (a1 : Option Addr) (l1 c1 : Nat) (id par : Int) (w : World) (h1 : RowS w a1 l1) :
    Calls Try.prog 5 #[.slice a1 l1 c1, .int .i64 id, .int .i64 par] w fun e w' => e = .returned (.bool true) ∧ Below w.heap.size w w' :=
  (moves_any a1 l1 c1 id par w h1).mono fun _ _ ⟨p, q⟩ => ⟨p, q.none⟩
end Go.Proofs.Ytginfnceindojaa.tre
