/- Entries: an entry's bytes, read. -/
import Derived.Test.YtnhlmodhmodilaaEntT
namespace Go.Proofs.Ytnhlmodhmodilaa.entw
open Go.RowKit mem entm codm codw
set_option linter.unusedVariables false

theorem runt_enc (n : Nat) (most : Int) (r : List Nat) (h : (n : Int) ≤ most) (hm : most < 9223372036854775808) : runt (enc n ++ r) most 0 = (n, r, 0) := by
  have hd : dcount (enc n ++ r) most = (n, (enc n).length, 0) := by
    unfold dcount
    rw [dec_enc9 n (by omega) r, if_pos rfl, if_neg (by simp; omega)]
  unfold runt
  rw [if_pos rfl, hd, if_pos rfl]
  simp
theorem runt_ru (n : Int) (most : Int) (r : List Nat) (h0 : 0 ≤ n) (h : n ≤ most) (hm : most < 9223372036854775808) : runt (rucount n ++ r) most 0 = (n.toNat, r, 0) := by
  rw [← ru_of h0]
  exact runt_enc n.toNat most r (by omega) hm
theorem rint_enc (a : Int) (r : List Nat) (h : InI a) : rint (enc (zig a) ++ r) 0 = (a, r, 0) := by
  have hz := zig_lt h
  unfold rint
  rw [if_pos rfl, dec_enc10 (zig a) hz r, if_pos rfl]
  simp [zag_zig]
theorem encS_cons (l : Lg) (r : List Lg) : encS (l :: r) = encG l ++ encS r := by simp [encS]
theorem encS_drop (ls : List Lg) (k : Nat) (h : k < ls.length) : encS (ls.drop k) = rucount (ls.getD k default).k ++ (rucount (ls.getD k default).n ++ (rucount (ls.getD k default).g ++ (enc (zig (ls.getD k default).a) ++ encS (ls.drop (k + 1))))) := by
  rw [drop_getL ls k h, encS_cons]
  unfold encG
  simp only [List.append_assoc]
theorem acc_most {l : Lg} (h : accB l = true) : l.k ≤ 64 ∧ l.n ≤ 64 ∧ l.g ≤ 64 := by
  unfold accB nodeB at h
  repeat' split at h
  all_goals simp at h
  all_goals omega
theorem rend_nil : rend [] 0 = 0 := rfl
end Go.Proofs.Ytnhlmodhmodilaa.entw
