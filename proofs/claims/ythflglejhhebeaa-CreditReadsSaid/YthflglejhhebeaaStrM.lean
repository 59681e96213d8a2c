/- Bytes as a string: the first one, the others, one ahead. -/
import Derived.Test.YthflglejhhebeaaDskS
namespace Go.Proofs.Ythflglejhhebeaa.dskw
open Go.RowKit mem
set_option linter.unusedVariables false

theorem strN_head (c : Nat) (tl : List Nat) (hc : c < 256) (h : 0 < (strN (c :: tl)).size) : ((strN (c :: tl))[0]'h).toNat = c := by
  show ((strN (c :: tl)).data[0]'h).toNat = c
  simp [strN]
  omega
theorem strN_size (l : List Nat) : (strN l).size = l.length := by simp [strN, ByteArray.size]
theorem strN_append (l r : List Nat) : strN l ++ strN r = strN (l ++ r) := by
  apply ByteArray.ext
  simp [strN]
theorem strN_drop (l : List Nat) (k n : Nat) (hn : n = l.length) : (strN l).extract k n = strN (l.drop k) := by
  subst hn
  apply ByteArray.ext
  simp [strN, ByteArray.data_extract, List.map_drop]
  rw [List.take_of_length_le (by simp)]
theorem strN_take (l : List Nat) (n : Nat) : (strN l).extract 0 n = strN (l.take n) := by
  apply ByteArray.ext
  simp [strN, ByteArray.data_extract, List.map_take]
theorem strN_at (l : List Nat) (i : Nat) (hl : ∀ c ∈ l, c < 256) (h : i < (strN l).size) : ((strN l)[i]'h).toNat = l.getD i 0 := by
  have hi : i < l.length := by rwa [strN_size] at h
  show ((strN l).data[i]'h).toNat = _
  have : l[i] < 256 := hl _ (List.getElem_mem hi)
  simp [strN, List.getD, hi]
  omega
end Go.Proofs.Ythflglejhhebeaa.dskw
