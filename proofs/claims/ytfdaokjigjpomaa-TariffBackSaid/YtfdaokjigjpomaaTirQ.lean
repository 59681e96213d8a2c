/- Tariffs: the document's split. -/
import Derived.Test.YtfdaokjigjpomaaTirP
namespace Go.Proofs.Ytfdaokjigjpomaa.tirw
open Go.RowKit mem tirm intm
set_option linter.unusedVariables false

/-- how far the tier ahead goes -/
def pru (ts : List Tr) (k : Nat) : Int := if k = 0 then 0 else (ts.getD (k - 1) default).u
theorem gradR_step {ts : List Tr} {k : Nat} (q l v : Int) (h : k < ts.length) : gradR q l k v (ts.drop k) =
    if max q v < (if 0 < (ts.getD k default).u then min l (ts.getD k default).u else l) then ⟨k, (if 0 < (ts.getD k default).u then min l (ts.getD k default).u else l) - max q v, (ts.getD k default).p⟩ :: gradR q l ((k + 1 : Nat) : Int) (ts.getD k default).u (ts.drop (k + 1)) else gradR q l ((k + 1 : Nat) : Int) (ts.getD k default).u (ts.drop (k + 1)) := by
  rw [drop_getT ts k h]
  rfl
end Go.Proofs.Ytfdaokjigjpomaa.tirw
