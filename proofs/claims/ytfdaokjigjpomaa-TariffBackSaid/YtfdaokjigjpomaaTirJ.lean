/- Lines: how many blocks, and what they cost: the program's. -/
import Derived.Test.YtfdaokjigjpomaaTirL
import Derived.Test.YtfdaokjigjpomaaTirU
import Derived.Test.YtfdaokjigjpomaaRowI
import Derived.Test.YtfdaokjigjpomaaSumAT
import Derived.Deep.OwnRows
namespace Go.Proofs.Ytfdaokjigjpomaa.tirw
open Go.RowKit mem tirm intm bigm bigw
set_option linter.unusedVariables false

theorem getN_mem (ls : List Ln) (k : Nat) (h : k < ls.length) : ls.getD k default ∈ ls := by
  have : ls.getD k default = ls[k] := by simp [List.getD, h]
  rw [this]; exact List.getElem_mem h
theorem range_map {β : Type} (f : Ln → β) (ls : List Ln) : (List.range ls.length).map (fun j => f (ls.getD j default)) = ls.map f := by
  apply List.ext_getElem
  · simp
  · intro i h1 h2
    simp at h1
    simp [List.getD, h1]
/-- each field an int -/
def LnsI (ls : List Ln) : Prop := ∀ x ∈ ls, InI x.t ∧ InI x.b ∧ InI x.p
/-- blocks are told: with which sum, and whether it is one -/
def BlocksAt (ls : List Ln) (w : World) (e : Ending) (w' : World) : Prop :=
  e = .returned (.tuple #[.int .i64 (intOr (sumB ls)), .bool (isInt (sumB ls))]) ∧ Only (fun _ => False) w w'

/-- what lines cost, if that can be told -/
def costOk (ls : List Ln) : Bool := (ls.all fun x => isInt (x.b * x.p)) && isInt (costB ls)
def costN (ls : List Ln) : Int := if costOk ls then costB ls else 0
def CostAt (ls : List Ln) (w : World) (e : Ending) (w' : World) : Prop :=
  e = .returned (.tuple #[.int .i64 (costN ls), .bool (costOk ls)]) ∧ Only (fun _ => False) w w'
theorem costB_map (ls : List Ln) : costB ls = (ls.map fun x => x.b * x.p).sum := by
  induction ls with
  | nil => rfl
  | cons x r ih => rw [List.map_cons, List.sum_cons, ← ih]; rfl
theorem cost_no {ls : List Ln} {x : Ln} (hx : x ∈ ls) (h : isInt (x.b * x.p) = false) : costN ls = 0 ∧ costOk ls = false := by
  have e : costOk ls = false := by
    unfold costOk
    rw [Bool.and_eq_false_iff]
    left
    rw [List.all_eq_false]
    exact ⟨x, hx, by rw [h]; simp⟩
  unfold costN
  rw [e]
  exact ⟨rfl, rfl⟩
theorem cost_all {ls : List Ln} (h : ∀ x ∈ ls, isInt (x.b * x.p) = true) : costN ls = intOr (costB ls) ∧ costOk ls = isInt (costB ls) := by
  have e : costOk ls = isInt (costB ls) := by
    unfold costOk
    rw [List.all_eq_true.2 h, Bool.true_and]
  unfold costN intOr
  rw [e]
  exact ⟨rfl, rfl⟩

end Go.Proofs.Ytfdaokjigjpomaa.tirw
