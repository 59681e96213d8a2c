/- Entries: the same; Opposite of any. -/
import Derived.Test.YtkbaafgaaiekpaaEntL
namespace Go.Proofs.Ytkbaafgaaiekpaa.entw
open Go.RowKit mem entm
set_option linter.unusedVariables false

theorem opp_opp (ls : List Lg) (h : ∀ l ∈ ls, InL l) : opp (opp ls) = ls := by
  unfold opp
  rw [List.map_map]
  refine (List.map_congr_left ?_).trans (List.map_id ls)
  intro l hl
  obtain ⟨_, _, _, ha⟩ := h l hl
  unfold InI at ha
  show ({ l with a := negI (negI l.a) } : Lg) = l
  have : negI (negI l.a) = l.a := by
    unfold negI
    by_cases e : l.a = -9223372036854775808
    · rw [if_pos e, if_pos e]
    · rw [if_neg e, if_neg (by omega)]; omega
  rw [this]

end Go.Proofs.Ytkbaafgaaiekpaa.entw
