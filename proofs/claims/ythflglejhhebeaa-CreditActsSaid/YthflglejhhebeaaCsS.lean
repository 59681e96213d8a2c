/- CreditActs' walk, as the frame asks for it. -/
import Derived.Test.YthflglejhhebeaaCsR
namespace Go.Proofs.Ythflglejhhebeaa.cs
open Go.RowKit mem rwg
theorem cacts_walk (pl : Int) (a1 : Option Addr) (l1 c1 : Nat) (ask : Int) (w : World) (h : RowS w a1 l1) :
      Calls Try.prog 3 #[.int .i64 pl, .slice a1 l1 c1, .int .i64 ask] w fun e w' => e = .returned (.bool true) ∧ Below w.heap.size w w' :=
    (cacts_any pl a1 l1 c1 ask w h).mono fun _ _ ⟨p, q⟩ => ⟨p, q.none⟩
end Go.Proofs.Ythflglejhhebeaa.cs
