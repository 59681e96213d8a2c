/- FundsActs, for its frame. -/
import Derived.Test.YtfpeimihlihphaaFuU
namespace Go.Proofs.Ytfpeimihlihphaa.fnd
open Go.RowKit mem
theorem facts_walk (a1 : Option Addr) (l1 c1 : Nat) (ask : Int) (w : World) (h1 : RowF w a1 l1) :
    Calls Try.prog 7 #[.slice a1 l1 c1, .int .i64 ask] w fun e w' => e = .returned (.bool true) ∧ Below w.heap.size w w' :=
  (acts_any a1 l1 c1 ask w h1).mono fun _ _ ⟨p, q⟩ => ⟨p, q.none⟩
end Go.Proofs.Ytfpeimihlihphaa.fnd
