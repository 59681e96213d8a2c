/- A block of ints of the call's own: written one by one. -/
import Derived.Test.YthflglejhhebeaaMemI
import Derived.Lib.SmallJoins
namespace Go.Proofs.Ythflglejhhebeaa.mem
open Go.RowKit
set_option linter.unusedVariables false

theorem offI_ne {b i j : Nat} (h : i ≠ j) : (⟨b, i, none⟩ : Addr) ≠ ⟨b, j, none⟩ := fun e => h (by injection e)
/-- a block's ints -/
def RowI (w : World) (g n : Nat) (f : Nat → Int) : Prop := ∀ j, j < n → w.cell? ⟨g, j, none⟩ = some (.int .i64 (f j)) ∧ w.frozen? ⟨g, j, none⟩ = false
theorem RowI.lt {w : World} {g n : Nat} {f : Nat → Int} (h : RowI w g n f) (hn : 0 < n) : g < w.heap.size := World.block_lt_of_cell? w ⟨g, 0, none⟩ (h 0 hn).1
theorem RowI.only {S : Nat → Prop} {w w' : World} {g n : Nat} {f : Nat → Int} (h : RowI w g n f) (ho : Only S w w') (hs : ¬ S g) : RowI w' g n f := fun j hj =>
  ⟨ho.cell' (h j hj).1 hs, (ho.frozen (p := ⟨g, j, none⟩) (h.lt (by omega)) hs).trans (h j hj).2⟩
theorem RowI.set {w : World} {g n : Nat} {f f' : Nat → Int} (h : RowI w g n f) (k : Nat) (hk : k < n) (hf : ∀ j, j < n → j ≠ k → f' j = f j) : RowI (w.setCell ⟨g, k, none⟩ (.int .i64 (f' k))) g n f' := by
  intro j hj
  rw [frozen_set]
  by_cases e : j = k
  · subst e; exact ⟨cell_same (h j hj).1, (h j hj).2⟩
  · rw [cell_other (offI_ne (by omega)), hf j hj e]; exact h j hj
theorem RowI.reads {w : World} {g n : Nat} {f : Nat → Int} (h : RowI w g n f) (hn : n ≤ maxLen) (hb : ∀ j, j < n → -9223372036854775808 ≤ f j ∧ f j ≤ 9223372036854775807) : ReadsI w (some ⟨g, 0, none⟩) n ((List.range n).map f) := by
  refine ⟨by simp, hn, ?_, .inr ⟨g, 0, rfl, fun i hi => ?_⟩⟩
  · intro c hc
    rw [List.mem_map] at hc
    obtain ⟨j, hj, rfl⟩ := hc
    exact hb j (List.mem_range.1 hj)
  · rw [Nat.zero_add, (h i hi).1]
    simp [List.getD, hi]
theorem made_row (w : World) (n : Nat) : RowI (w.alloc (.cells (madeCells #[.int .i64 0] n) 3)) w.heap.size n (fun _ => 0) := by
  intro j hj
  refine ⟨?_, by simp⟩
  rw [Go.Joins.cell_of_block (cs := madeCells #[.int .i64 0] n) (t := 3) (fr := (0, 0)) (by rw [heap_alloc, if_pos rfl])]
  simp [madeCells, hj, Nat.mod_one]
/-- written up to a place -/
def mixf (f g : Nat → Int) (k j : Nat) : Int := if j < k then f j else g j
theorem mix_next {f g : Nat → Int} {k : Nat} : ∀ j, j ≠ k → mixf f g (k + 1) j = mixf f g k j := by
  intro j hj
  unfold mixf
  by_cases h : j < k
  · rw [if_pos h, if_pos (by omega)]
  · rw [if_neg h, if_neg (by omega)]
theorem mix_at (f g : Nat → Int) (k : Nat) : mixf f g (k + 1) k = f k := by unfold mixf; rw [if_pos (by omega)]
theorem RowI.congr {w : World} {g n : Nat} {f f' : Nat → Int} (h : RowI w g n f) (hf : ∀ j, j < n → f' j = f j) : RowI w g n f' := fun j hj => by rw [hf j hj]; exact h j hj
theorem RowI.next {w : World} {g n : Nat} {f : Nat → Int} {k : Nat} (h : RowI w g n (mixf f (fun _ => 0) k)) (hk : k < n) : RowI (w.setCell ⟨g, k, none⟩ (.int .i64 (f k))) g n (mixf f (fun _ => 0) (k + 1)) := by
  have := h.set (f' := mixf f (fun _ => 0) (k + 1)) k hk (fun j _ hj => mix_next j hj)
  rw [mix_at] at this
  exact this
theorem RowI.whole {w : World} {g n : Nat} {f : Nat → Int} (h : RowI w g n (mixf f (fun _ => 0) n)) : RowI w g n f := h.congr (fun j hj => by unfold mixf; rw [if_pos hj])
theorem RowI.start {w : World} {g n : Nat} {f : Nat → Int} (h : RowI w g n (fun _ => 0)) : RowI w g n (mixf f (fun _ => 0) 0) := h.congr (fun j hj => by unfold mixf; rw [if_neg (by omega)])
end Go.Proofs.Ythflglejhhebeaa.mem
