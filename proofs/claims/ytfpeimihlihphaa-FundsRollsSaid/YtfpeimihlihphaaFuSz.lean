/- FundsRolls, for its frame. -/
import Derived.Test.YtfpeimihlihphaaFuS
namespace Go.Proofs.Ytfpeimihlihphaa.fnd
open Go.RowKit mem
theorem rolls_walk (a1 : Option Addr) (l1 c1 : Nat) (node : Int) (carry : Bool) (w : World) (h1 : RowF w a1 l1) :
    Calls Try.prog 10 #[.slice a1 l1 c1, .int .i64 node, .bool carry] w fun e w' => e = .returned (.bool true) ∧ Below w.heap.size w w' :=
  (rolls_any a1 l1 c1 node carry w h1).mono fun _ _ ⟨p, q⟩ => ⟨p, q.none⟩
end Go.Proofs.Ytfpeimihlihphaa.fnd
