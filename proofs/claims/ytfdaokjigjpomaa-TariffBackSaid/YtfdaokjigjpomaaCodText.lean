/- What codec's Reader.Flag and Reader.Text answer, where the part is there. -/
import Derived.Test.YtfdaokjigjpomaaCodParts
namespace Go.Proofs.Ytfdaokjigjpomaa.codw
open Go.RowKit mem codm
set_option linter.unusedVariables false

theorem only_set {w w1 : World} (h : Only (fun _ => False) w w1) (p o : Nat) (v : Value) : Only (fun k => k = p) w (w1.setCell ⟨p, o, none⟩ v) :=
  Only.setCell (S := fun k => k = p) (h.mono (fun _ _ f => f.elim)) (p := ⟨p, o, none⟩) (.inl rfl) v

end Go.Proofs.Ytfdaokjigjpomaa.codw
