/- Books: Room. -/
import Derived.Test.YtkbaafgaaiekpaaFuH
import Derived.Lib.MinMax
namespace Go.Proofs.Ytkbaafgaaiekpaa.fnd
open Go.RowKit mem tre
set_option linter.unusedVariables false

def stepR (r : Int) (a : Ac) (m : Int) : Int := if 0 ≤ m then min (min r (left a)) (max 0 (m - a.u - a.h)) else min r (left a)
def roomR (A : List Ac) : List Int → List Int → Int → Int
  | n :: l, m :: ls, r => roomR A l ls (stepR r (nd A n) m)
  | _, _, r => r
def RoomOk (l ls : List Int) : Prop := PathOk l ∧ ls.length = l.length ∧ LOk ls ls.length
instance (l ls : List Int) : Decidable (RoomOk l ls) := inferInstanceAs (Decidable (_ ∧ _ ∧ _))
def roomN (A : List Ac) (l ls : List Int) : Int := if RoomOk l ls then roomR A l ls 9007199254740992 else 0
def roomE (l ls : List Int) : Int := if RoomOk l ls then 0 else 1
end Go.Proofs.Ytkbaafgaaiekpaa.fnd
