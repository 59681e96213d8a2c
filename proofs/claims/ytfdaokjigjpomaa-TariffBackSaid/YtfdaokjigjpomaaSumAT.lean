/- The program's own Sum: what it answers. -/
import Derived.Test.YtfdaokjigjpomaaMemI
import Derived.Test.YtfdaokjigjpomaaPairs0T
import Derived.Laws.Externs
namespace Go.Proofs.Ytfdaokjigjpomaa.bigw
open Go.RowKit mem bigm intm
set_option linter.unusedVariables false

/-- the upper word of a number -/
def up (n : Int) : Int := if n < 0 then 18446744073709551615 else 0

theorem u64_wrap (n : Int) : IntKind.u64.wrap n = n % 18446744073709551616 := by rfl

theorem sum_le : ∀ (l : List Int), (∀ c ∈ l, -9223372036854775808 ≤ c ∧ c ≤ 9223372036854775807) → -9223372036854775808 * (l.length : Int) ≤ l.sum ∧ l.sum ≤ 9223372036854775808 * (l.length : Int) := by
  intro l
  induction l with
  | nil => intro _; simp
  | cons c l ih =>
    intro h
    have h1 := ih (fun d hd => h d (by simp [hd]))
    have h2 := h c (by simp)
    rw [List.sum_cons, List.length_cons]
    omega

theorem sum_take_succ (l : List Int) (k : Nat) (h : k < l.length) : (l.take (k + 1)).sum = (l.take k).sum + l.getD k 0 := by
  rw [List.take_succ_eq_append_getElem h, List.sum_append]
  simp [List.getD, h]

/-- the two words of a sum on the way -/
def Two (hi lo s : Int) : Prop := 0 ≤ hi ∧ hi < 18446744073709551616 ∧ 0 ≤ lo ∧ lo < 18446744073709551616 ∧ ∃ m : Int, hi * 18446744073709551616 + lo = s + 340282366920938463463374607431768211456 * m

theorem two_step {hi lo s n : Int} (h : Two hi lo s) (hn : -9223372036854775808 ≤ n ∧ n ≤ 9223372036854775807) :
    Two ((hi + up n + (lo + n % 18446744073709551616) / 18446744073709551616) % 18446744073709551616) ((lo + n % 18446744073709551616) % 18446744073709551616) (s + n) := by
  obtain ⟨h1, h2, h3, h4, m, hm⟩ := h
  obtain ⟨q, hq⟩ : ∃ q, (hi + up n + (lo + n % 18446744073709551616) / 18446744073709551616) / 18446744073709551616 = q := ⟨_, rfl⟩
  refine ⟨by omega, by omega, by omega, by omega, m + (if n < 0 then 1 else 0) - q, ?_⟩
  unfold up at hq ⊢
  split <;> simp_all only [if_true, if_false] <;> omega

theorem two_end {hi lo s : Int} (h : Two hi lo s) (hs : -85070591730234615865843651857942052864 ≤ s ∧ s ≤ 85070591730234615865843651857942052864) :
    isInt s = decide (hi = up (wrap64 lo)) ∧ (hi = up (wrap64 lo) → wrap64 lo = s) := by
  obtain ⟨h1, h2, h3, h4, m, hm⟩ := h
  have hw : wrap64 lo = if lo < 9223372036854775808 then lo else lo - 18446744073709551616 := by
    unfold wrap64; split <;> omega
  rw [hw]
  have hiff : (hi = up (if lo < 9223372036854775808 then lo else lo - 18446744073709551616)) ↔ (-9223372036854775808 ≤ s ∧ s ≤ 9223372036854775807) := by
    unfold up; split <;> split <;> omega
  refine ⟨?_, ?_⟩
  · rw [Bool.eq_iff_iff, isInt_iff, decide_eq_true_eq]; exact hiff.symm
  · intro he
    have hb := hiff.1 he
    unfold up at he
    split at he <;> split at he <;> split <;> omega

end Go.Proofs.Ytfdaokjigjpomaa.bigw
