/- Blocks, the program's and the document's: what they answer. -/
import Derived.Test.YtghajamcjcflaaaMem
import Derived.Test.YtghajamcjcflaaaIntM
namespace Go.Proofs.Ytghajamcjcflaaa.bigw
open Go.RowKit mem intm
set_option linter.unusedVariables false

/-- the answer of Blocks -/
def bk (a c : Int) : Int := if 0 ≤ a ∧ 1 ≤ c then (if a % c = 0 then a / c else a / c + 1) else 0

def bok (a c : Int) : Bool := decide (0 ≤ a ∧ 1 ≤ c)

theorem div_small {a c : Int} (ha : 0 ≤ a) (ha2 : a ≤ 9223372036854775807) (hc : 1 ≤ c) (h : a % c ≠ 0) : a / c + 1 ≤ 9223372036854775807 := by
  by_cases h1 : c = 1
  · subst h1; exact absurd (Int.emod_one a) h
  · obtain ⟨x, rfl⟩ := Int.eq_ofNat_of_zero_le ha
    obtain ⟨z, rfl⟩ := Int.eq_ofNat_of_zero_le (show 0 ≤ c by omega)
    rw [← Int.natCast_ediv]
    rcases Nat.eq_zero_or_pos x with h0 | h0
    · subst h0; simp
    · have := Nat.div_lt_self h0 (show 1 < z by omega)
      omega

set_option maxRecDepth 100000 in
theorem ablocks_any (a c : Int) (ha : -9223372036854775808 ≤ a ∧ a ≤ 9223372036854775807) (hc : -9223372036854775808 ≤ c ∧ c ≤ 9223372036854775807) (w : World) :
    Calls Try.prog 48 #[.int .i64 a, .int .i64 c] w fun e w' => e = .returned (.tuple #[.int .i64 (bk a c), .bool (bok a c)]) ∧ w = w' := by
  unfold bk bok
  by_cases h0 : 0 ≤ a ∧ 1 ≤ c
  · rw [if_pos h0, decide_eq_true h0]
    have hn := Int.emod_nonneg a (show c ≠ 0 by omega)
    obtain ⟨h1, h2⟩ := h0
    have hd := Int.ediv_nonneg h1 (show 0 ≤ c by omega)
    by_cases hm : a % c = 0
    · rw [if_pos hm]
      go_enter Try.func48, Try.ntmps48
      go_wp2_with fail
      go_ret2
      exact ⟨rfl, rfl⟩
    · rw [if_neg hm]
      have hs := div_small h1 ha.2 h2 hm
      have hp : 0 < a % c := by omega
      go_enter Try.func48, Try.ntmps48
      go_wp2_with fail
      go_ret2
      exact ⟨rfl, rfl⟩
  · rw [if_neg h0, decide_eq_false h0]
    by_cases a1 : a < 0
    · clear h0
      go_enter Try.func48, Try.ntmps48
      go_wp2_with fail
      go_ret2
      exact ⟨rfl, rfl⟩
    · have c1 : c < 1 := by omega
      clear h0
      go_enter Try.func48, Try.ntmps48
      go_wp2_with fail
      go_ret2
      exact ⟨rfl, rfl⟩

set_option maxRecDepth 100000 in
theorem rblocks_any (a c : Int) (ha : -9223372036854775808 ≤ a ∧ a ≤ 9223372036854775807) (hc : -9223372036854775808 ≤ c ∧ c ≤ 9223372036854775807) (w : World) :
    Calls Try.prog 102 #[.int .i64 a, .int .i64 c] w fun e w' => e = .returned (.tuple #[.int .i64 (bk a c), .bool (bok a c)]) ∧ w = w' := by
  unfold bk bok
  by_cases h0 : 0 ≤ a ∧ 1 ≤ c
  · rw [if_pos h0, decide_eq_true h0]
    have hn := Int.emod_nonneg a (show c ≠ 0 by omega)
    obtain ⟨h1, h2⟩ := h0
    have hd := Int.ediv_nonneg h1 (show 0 ≤ c by omega)
    by_cases hm : a % c = 0
    · rw [if_pos hm]
      go_enter Try.func102, Try.ntmps102
      go_wp2_with fail
      go_ret2
      exact ⟨rfl, rfl⟩
    · rw [if_neg hm]
      have hs := div_small h1 ha.2 h2 hm
      have hp : 0 < a % c := by omega
      go_enter Try.func102, Try.ntmps102
      go_wp2_with fail
      go_ret2
      exact ⟨rfl, rfl⟩
  · rw [if_neg h0, decide_eq_false h0]
    by_cases a1 : a < 0
    · clear h0
      go_enter Try.func102, Try.ntmps102
      go_wp2_with fail
      go_ret2
      exact ⟨rfl, rfl⟩
    · have c1 : c < 1 := by omega
      clear h0
      go_enter Try.func102, Try.ntmps102
      go_wp2_with fail
      go_ret2
      exact ⟨rfl, rfl⟩
end Go.Proofs.Ytghajamcjcflaaa.bigw
