/- The parts of the statements: their kind, their text, and what write does. -/
import Derived.Test.YtfdaokjigjpomaaCodPart
namespace Go.Proofs.Ytfdaokjigjpomaa.codw
open Go.RowKit mem codm
set_option linter.unusedVariables false

/-- a part as a value -/
def partV (k n : Int) (y : Bool) (a : Option Addr) (len cap : Nat) : Value := .agg #[.int .i64 k, .int .i64 n, .bool y, .slice a len cap]

theorem kind_arith (k : Int) : wrap64 ((IntKind.u64.wrap k).tmod 4) = k % 4 := by
  have h0 := wrap_u64_nonneg k
  rw [Int.tmod_eq_emod_of_nonneg h0, IntKind.wrap_u64, IntWalk.wrap64_in _ (by omega)]
  omega

theorem own_lit (w : World) (g : Nat) (t : TypeId) (hg : g = w.heap.size) : (w.alloc (.cells #[] t)).ownsRow 0 t 1 (.slice (some ⟨g, 0, none⟩) 0 0) 0 [] := by
  subst hg; exact World.ownsRow_lit w #[] 0 (Nat.zero_le _) (by decide) rfl

/-- an append to an empty row of the call's own -/
theorem app_empty {w w2 : World} {g : Nat} {v2 : Value} {r : List Nat} (hown : w2.ownsRow 0 5 1 v2 r.length (bv r)) (hgrow : w.grownBy w2 (some g))
    (hk : ∀ k, v2.ownBlock = some k → some g = some k ∨ w.heap.size ≤ k) (hr : ∀ c ∈ r, c < 256) (hm : r.length ≤ maxLen) :
    OwnB w2 v2 r ∧ Only (fun k => g = k) w w2 ∧ (∀ k, v2.ownBlock = some k → g = k ∨ w.heap.size ≤ k) := by
  refine ⟨⟨hown, hr, hm⟩, (Only.of_grown hgrow).mono (fun k _ h => by simpa using h), fun k h => by simpa using hk k h⟩

end Go.Proofs.Ytfdaokjigjpomaa.codw
