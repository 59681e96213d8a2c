/- The known text has its sum. -/
import Derived.Test.YtcbpgplmphgcgaaCrcSum
import Derived.Outline
import Derived.Lib.SlBytesConst
import Derived.Lib.SmallJoins
namespace Go.Proofs.Ytcbpgplmphgcgaa.crcw
open Go.RowKit
open crcm

theorem heap_alloc (w : World) (o : Obj) (n : Nat) : (w.alloc o).heap[n]? = if n = w.heap.size then some o else w.heap[n]? := by
  show (w.heap.push o)[n]? = _
  rw [Array.getElem?_push]

theorem reads_block {w : World} {g len : Nat} {C : Array Value} {t : TypeId} {fr : Nat × Nat} {l : List Nat} (h : w.heap[g]? = some (.cells C t fr)) (hl : l.length = len) (hm : len ≤ maxLen) (hb : ∀ c ∈ l, c < 256)
    (hC : ∀ i, i < len → C[i]? = some (.int .u8 ((l.getD i 0 : Nat) : Int))) : Reads w (some ⟨g, 0, none⟩) len l :=
  ⟨hl, hm, hb, .inr ⟨g, 0, rfl, fun i hi => by rw [Nat.zero_add, Go.Joins.cell_of_block h]; exact hC i hi⟩⟩

theorem known (w : World) : Parts (((w.alloc (.cells #[.int .u8 49, .int .u8 50, .int .u8 51, .int .u8 52] 5 (4, 5))).alloc (.cells #[.int .u8 53, .int .u8 54, .int .u8 55, .int .u8 56, .int .u8 57] 5 (5, 6))).alloc
    (.cells #[.slice (some ⟨w.heap.size, 0, none⟩) 4 4, .slice (some ⟨w.heap.size + 1, 0, none⟩) 5 5] 47)) (some ⟨w.heap.size + 1 + 1, 0, none⟩) 2 [[49, 50, 51, 52], [53, 54, 55, 56, 57]] := by
  refine ⟨rfl, by unfold maxLen; omega, .inr ⟨_, _, rfl, ?_⟩⟩
  intro i hi
  rw [Nat.zero_add]
  have hs : ∀ (x : World) (o : Obj), (x.alloc o).heap.size = x.heap.size + 1 := fun x o => by show (x.heap.push o).size = _; simp
  have hc := Go.Joins.cell_of_block (w := (((w.alloc (.cells #[.int .u8 49, .int .u8 50, .int .u8 51, .int .u8 52] 5 (4, 5))).alloc (.cells #[.int .u8 53, .int .u8 54, .int .u8 55, .int .u8 56, .int .u8 57] 5 (5, 6))).alloc
    (.cells #[.slice (some ⟨w.heap.size, 0, none⟩) 4 4, .slice (some ⟨w.heap.size + 1, 0, none⟩) 5 5] 47))) (g := w.heap.size + 1 + 1) (by rw [heap_alloc, if_pos (by rw [hs, hs])]) i
  rw [hc]
  match i, hi with
  | 0, _ =>
    refine ⟨_, 4, 4, rfl, reads_block (C := #[.int .u8 49, .int .u8 50, .int .u8 51, .int .u8 52]) (t := 5) (fr := (4, 5)) ?_ rfl (by unfold maxLen; omega) (by decide) ?_⟩
    · rw [heap_alloc, if_neg (by rw [hs, hs]; omega), heap_alloc, if_neg (by rw [hs]; omega), heap_alloc, if_pos rfl]
    · intro j hj
      match j, hj with
      | 0, _ => rfl
      | 1, _ => rfl
      | 2, _ => rfl
      | 3, _ => rfl
  | 1, _ =>
    refine ⟨_, 5, 5, rfl, reads_block (C := #[.int .u8 53, .int .u8 54, .int .u8 55, .int .u8 56, .int .u8 57]) (t := 5) (fr := (5, 6)) ?_ rfl (by unfold maxLen; omega) (by decide) ?_⟩
    · rw [heap_alloc, if_neg (by rw [hs, hs]; omega), heap_alloc, if_pos (by rw [hs])]
    · intro j hj
      match j, hj with
      | 0, _ => rfl
      | 1, _ => rfl
      | 2, _ => rfl
      | 3, _ => rfl
      | 4, _ => rfl

theorem known_sum : sumP [[49, 50, 51, 52], [53, 54, 55, 56, 57]] = 3421780262 := by decide +kernel

end Go.Proofs.Ytcbpgplmphgcgaa.crcw
