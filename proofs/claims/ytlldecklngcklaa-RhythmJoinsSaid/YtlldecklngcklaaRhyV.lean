/- RhythmTurns's walk. -/
import Derived.Test.YtlldecklngcklaaRhyT
namespace Go.Proofs.Ytlldecklngcklaa.rhyw
open Go.RowKit mem fltm rhym intm bigm bigw
set_option linter.unusedVariables false

theorem right_turn (a b c d : Int) : rightB d a b c = rightB a b c d := by
  unfold rightB Q4
  congr 1
  exact propext ⟨fun ⟨h1, h2, h3, h4⟩ => ⟨h2, h3, h4, h1⟩, fun ⟨h1, h2, h3, h4⟩ => ⟨h4, h1, h2, h3⟩⟩
theorem vx_turn (a b c d : Int) : vx d a b c = -(vy a b c d) := by
  unfold vx vy
  rw [right_turn]
  split <;> omega
theorem vy_turn (a b c d : Int) : vy d a b c = vx a b c d := by unfold vx vy; rw [right_turn]
theorem tot_turn (a b c d : Int) : totN d a b c = totN a b c d := by
  unfold totN
  rw [right_turn]
  split
  · omega
  · rfl
theorem sq_turn (a b c d : Int) : (d - b) * (d - b) + (a - c) * (a - c) = (a - c) * (a - c) + (b - d) * (b - d) := by
  have h : (d - b) * (d - b) = (b - d) * (b - d) := by
    have e : d - b = -(b - d) := by omega
    rw [e, Int.neg_mul_neg]
  omega
theorem st_turn (a b c d : Int) : stNQ d a b c = stNQ a b c d ∧ stBQ d a b c = stBQ a b c d := by
  unfold stNQ stBQ stN stB
  rw [right_turn, sq_turn]
  exact ⟨rfl, rfl⟩
theorem neg_any {v : Int} (hv : v.natAbs < 9007199254740992) : ∃ N, Op.unary .neg (.float .f64 (fl v)) = pure (.float .f64 N) ∧ (FloatKind.f64.format.order (fl (-v)) N == some Ordering.eq) = true := by
  refine ⟨W (!decide (v < 0)) v.natAbs, ?_, ?_⟩
  · rw [← neg_W _ _ hv]
    rfl
  · have h1 := order_W (decide (-v < 0)) (!decide (v < 0)) (-v).natAbs v.natAbs (by omega) hv
    have e1 : fltm.val (decide (-v < 0)) (-v).natAbs = -v := val_fl (-v)
    have e2 : fltm.val (!decide (v < 0)) v.natAbs = -v := by
      unfold fltm.val
      by_cases h : v < 0
      · simp [h]; omega
      · simp [h]; omega
    rw [e1, e2] at h1
    have h2 : FloatKind.f64.format.order (fl (-v)) (W (!decide (v < 0)) v.natAbs) = some (compare (-v) (-v)) := h1
    rw [h2, cmpz.2.2]
    simp

end Go.Proofs.Ytlldecklngcklaa.rhyw
