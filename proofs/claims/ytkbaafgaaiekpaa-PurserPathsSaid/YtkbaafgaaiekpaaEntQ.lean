/- Entries: the document's own Check. -/
import Derived.Test.YtkbaafgaaiekpaaEntN
namespace Go.Proofs.Ytkbaafgaaiekpaa.entw
open Go.RowKit mem entm
set_option linter.unusedVariables false

def ltB (x y : Lg) : Bool := decide (ltA x y)
theorem ltB_k {x y : Lg} (h : ¬ x.k = y.k) : ltB x y = decide (x.k < y.k) := by
  unfold ltB
  rw [Bool.eq_iff_iff, decide_eq_true_eq, decide_eq_true_eq]
  unfold ltA
  omega
theorem ltB_n {x y : Lg} (h : x.k = y.k) (h2 : ¬ x.n = y.n) : ltB x y = decide (x.n < y.n) := by
  unfold ltB
  rw [Bool.eq_iff_iff, decide_eq_true_eq, decide_eq_true_eq]
  unfold ltA
  omega
theorem ltB_g {x y : Lg} (h : x.k = y.k) (h2 : x.n = y.n) : ltB x y = decide (x.g < y.g) := by
  unfold ltB
  rw [Bool.eq_iff_iff, decide_eq_true_eq, decide_eq_true_eq]
  unfold ltA
  omega

end Go.Proofs.Ytkbaafgaaiekpaa.entw
