/- What the document's own codec answers: the same groups, as strings. -/
import Derived.Test.YtnhlmodhmodilaaCodKnownE
namespace Go.Proofs.Ytnhlmodhmodilaa.codw
open Go.RowKit mem codm
set_option linter.unusedVariables false

theorem strN_append (l r : List Nat) : strN l ++ strN r = strN (l ++ r) := by
  have h : (strN l ++ strN r).data = (strN (l ++ r)).data := by simp [strN]
  exact congrArg ByteArray.mk h

theorem strN_size (l : List Nat) : (strN l).size = l.length := by simp [strN, ByteArray.size]

/-- what the document writes for a count -/
def rucount (n : Int) : List Nat := if n < 0 then [] else enc n.toNat

end Go.Proofs.Ytnhlmodhmodilaa.codw
