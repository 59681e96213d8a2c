/- Lines: what Merge answers, as mathematics. -/
import Derived.Test.YtdfghdccbpnohaaTirJ
namespace Go.Proofs.Ytdfghdccbpnohaa.tirw
open Go.RowKit mem tirm intm bigm bigw
set_option linter.unusedVariables false

/-- each sum is an int -/
def okM (all : List Ln) : Prop := ∀ x ∈ all, isInt (sumK x all) = true
theorem okM_perm {a b : List Ln} (h : a.Perm b) : okM a ↔ okM b :=
  ⟨fun k x hx => by rw [← sumK_perm h]; exact k x (h.mem_iff.2 hx), fun k x hx => by rw [sumK_perm h]; exact k x (h.mem_iff.1 hx)⟩
theorem okM_of {all out : List Ln} (h : MergeOf all out) (k : ∀ x ∈ out, isInt x.b = true) : okM all := by
  intro x hx
  obtain ⟨y, hy, h2⟩ := (h.keys x).2 ⟨x, hx, lk_refl x⟩
  rw [sumK_lk h2, ← h.blocks y hy]
  exact k y hy
/-- what Merge answers of all lines -/
def MergedAt (all : List Ln) (w : World) (e : Ending) (w' : World) : Prop :=
  (okM all ∧ ∃ out a cap, e = .returned (.tuple #[.slice a out.length cap, .bool true]) ∧ MergeOf all out ∧ ReadsN w' a out.length out ∧ (∀ x, a = some x → w.heap.size ≤ x.block) ∧ Only (fun _ => False) w w') ∨
  (¬ okM all ∧ e = .returned (.tuple #[.slice none 0 0, .bool false]) ∧ Only (fun _ => False) w w')

end Go.Proofs.Ytdfghdccbpnohaa.tirw
