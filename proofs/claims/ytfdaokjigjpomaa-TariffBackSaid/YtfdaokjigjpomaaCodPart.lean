/- The Writer's Flag and Text; the parts of the statements. -/
import Derived.Test.YtfdaokjigjpomaaRefCod
namespace Go.Proofs.Ytfdaokjigjpomaa.codw
open Go.RowKit mem codm
set_option linter.unusedVariables false

/-- an append of bytes that lie elsewhere -/
theorem app_facts0 {w w2 : World} {v v2 : Value} {l r : List Nat} (h : OwnB w v l) (hown : w2.ownsRow 0 5 1 v2 (l.length + r.length) (bv l ++ bv r)) (hgrow : w.grownBy w2 v.ownBlock)
    (hk : ∀ k, v2.ownBlock = some k → v.ownBlock = some k ∨ w.heap.size ≤ k) (hr : ∀ c ∈ r, c < 256) (hm : (l ++ r).length ≤ maxLen) :
    OwnB w2 v2 (l ++ r) ∧ Only (fun k => v.ownBlock = some k) w w2 ∧ (∀ k, v2.ownBlock = some k → v.ownBlock = some k ∨ w.heap.size ≤ k) := by
  refine ⟨⟨by rw [List.length_append, bv_append]; exact hown, ?_, hm⟩, Only.of_grown hgrow, hk⟩
  intro c hc
  rcases List.mem_append.1 hc with h1 | h1
  · exact h.2.1 c h1
  · exact hr c h1

end Go.Proofs.Ytfdaokjigjpomaa.codw
