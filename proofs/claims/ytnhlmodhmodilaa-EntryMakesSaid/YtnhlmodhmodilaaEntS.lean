/- Entries: the document's own Write. -/
import Derived.Test.YtnhlmodhmodilaaEntR
import Derived.Test.YtnhlmodhmodilaaRefCodI
namespace Go.Proofs.Ytnhlmodhmodilaa.entw
open Go.RowKit mem entm codm codw
set_option linter.unusedVariables false

/-- a leg's bytes, an entry's -/
def encG (l : Lg) : List Nat := rucount l.k ++ (rucount l.n ++ (rucount l.g ++ enc (zig l.a)))
def encS (ls : List Lg) : List Nat := ls.flatMap encG
def encE (kind : Int) (ls : List Lg) : List Nat := rucount kind ++ (rucount (ls.length : Int) ++ encS ls)

theorem rucount_len (n : Int) : (rucount n).length ≤ 11 := by
  unfold rucount
  split
  · simp
  · exact (enc_length _).1
theorem encG_len (l : Lg) : (encG l).length ≤ 44 := by
  have h1 := rucount_len l.k
  have h2 := rucount_len l.n
  have h3 := rucount_len l.g
  have h4 := (enc_length (zig l.a)).1
  unfold encG
  simp only [List.length_append]
  omega
theorem encS_step (ls : List Lg) (k : Nat) (h : k < ls.length) : encS (ls.take (k + 1)) = encS (ls.take k) ++ encG (ls.getD k default) := by
  have e : ls.getD k default = ls[k] := by simp [List.getD, h]
  rw [List.take_succ_eq_append_getElem h, e]
  unfold encS
  rw [List.flatMap_append]
  simp
theorem encS_len : ∀ (ls : List Lg), (encS ls).length ≤ 44 * ls.length := by
  intro ls
  induction ls with
  | nil => simp [encS]
  | cons l r ih =>
    have := encG_len l
    have e : encS (l :: r) = encG l ++ encS r := by simp [encS]
    rw [e, List.length_append, List.length_cons]
    omega
theorem encSt_len (ls : List Lg) (k : Nat) : (encS (ls.take k)).length ≤ 44 * k := by
  have h := encS_len (ls.take k)
  have h2 : (ls.take k).length ≤ k := by rw [List.length_take]; omega
  omega

end Go.Proofs.Ytnhlmodhmodilaa.entw
