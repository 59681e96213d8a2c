/- Tariffs: in which tier a block is. Tariffs: blocks spread over tiers, one behind the other. Tariffs: a block's tier; so many blocks spread over tiers. -/
import Derived.Test.YtfdaokjigjpomaaTirL
import Derived.Test.YtfdaokjigjpomaaTirB
namespace Go.Proofs.Ytfdaokjigjpomaa.tirw
open Go.RowKit mem tirm intm
set_option linter.unusedVariables false

theorem idx_step {ts : List Tr} {k : Nat} (n : Int) (h : k < ts.length) : idxF n k (ts.drop k) = if (ts.getD k default).u = 0 ∨ n ≤ (ts.getD k default).u then (k : Int) else idxF n ((k + 1 : Nat) : Int) (ts.drop (k + 1)) := by
  rw [drop_getT ts k h]
  rfl

end Go.Proofs.Ytfdaokjigjpomaa.tirw

namespace Go.Proofs.Ytfdaokjigjpomaa.tirw
open Go.RowKit mem tirm intm
set_option linter.unusedVariables false

theorem news_line {W : World} {g : Nat} {x y z : Int} (hg : g = W.heap.size) (t : TypeId) : ∀ j u, (encN ⟨x, y, z⟩)[j]? = some u → (W.alloc (.cells #[.int .i64 x, .int .i64 y, .int .i64 z] t)).cell? ((Addr.mk g 0 none).add j) = some u := by
  intro j u hu
  rw [add_none, Nat.zero_add]
  exact alloc_new _ _ _ _ _ _ hg (by rw [← List.getElem?_toArray] at hu; exact hu)
theorem grad_step {ts : List Tr} {k : Nat} (l p : Int) (h : k < ts.length) : gradF l k p (ts.drop k) =
    if p < (if (ts.getD k default).u ≠ 0 then min l (ts.getD k default).u else l) then ⟨k, (if (ts.getD k default).u ≠ 0 then min l (ts.getD k default).u else l) - p, (ts.getD k default).p⟩ :: gradF l ((k + 1 : Nat) : Int) (if (ts.getD k default).u ≠ 0 then min l (ts.getD k default).u else l) (ts.drop (k + 1)) else gradF l ((k + 1 : Nat) : Int) p (ts.drop (k + 1)) := by
  rw [drop_getT ts k h]
  rfl

end Go.Proofs.Ytfdaokjigjpomaa.tirw

namespace Go.Proofs.Ytfdaokjigjpomaa.tirw
open Go.RowKit mem tirm intm
set_option linter.unusedVariables false

/-- lines in memory, and no error -/
def LinesAt (ls : List Ln) (w : World) (e : Ending) (w' : World) : Prop :=
  ∃ a cap, e = .returned (.tuple #[.slice a ls.length cap, .int .i64 0]) ∧ ReadsN w' a ls.length ls ∧ Only (fun _ => False) w w'

/-- within their bounds -/
def inB (p n : Int) : Prop := 0 ≤ p ∧ p ≤ 1099511627776 ∧ 0 ≤ n ∧ n ≤ 1073741824
end Go.Proofs.Ytfdaokjigjpomaa.tirw

