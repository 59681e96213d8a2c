/- Blocks, the program's and the document's: what they answer. -/
import Derived.Test.YtfdaokjigjpomaaMem
import Derived.Test.YtfdaokjigjpomaaIntM
namespace Go.Proofs.Ytfdaokjigjpomaa.bigw
open Go.RowKit mem intm
set_option linter.unusedVariables false

/-- the answer of Blocks -/
def bk (a c : Int) : Int := if 0 ≤ a ∧ 1 ≤ c then (if a % c = 0 then a / c else a / c + 1) else 0

def bok (a c : Int) : Bool := decide (0 ≤ a ∧ 1 ≤ c)

theorem div_small {a c : Int} (ha : 0 ≤ a) (ha2 : a ≤ 9223372036854775807) (hc : 1 ≤ c) (h : a % c ≠ 0) : a / c + 1 ≤ 9223372036854775807 := by
  by_cases h1 : c = 1
  · subst h1; exact absurd (Int.emod_one a) h
  · obtain ⟨x, rfl⟩ := Int.eq_ofNat_of_zero_le ha
    obtain ⟨z, rfl⟩ := Int.eq_ofNat_of_zero_le (show 0 ≤ c by omega)
    rw [← Int.natCast_ediv]
    rcases Nat.eq_zero_or_pos x with h0 | h0
    · subst h0; simp
    · have := Nat.div_lt_self h0 (show 1 < z by omega)
      omega

end Go.Proofs.Ytfdaokjigjpomaa.bigw
