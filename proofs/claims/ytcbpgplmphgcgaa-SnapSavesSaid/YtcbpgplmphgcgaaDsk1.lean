/- The disk: New and Read. -/
import Derived.Test.YtcbpgplmphgcgaaDsk0
import Derived.Deep.WholeRow
import Derived.Deep.OwnRows
namespace Go.Proofs.Ytcbpgplmphgcgaa.dskw
open Go.RowKit mem
set_option linter.unusedVariables false

theorem info_sec : (Try.prog.info? 109).map (fun i => (i.zero, i.size, i.bytes)) = some (some (sec zeros), 64, 64) := by kernel_rfl

theorem make_secs (n : Nat) (hn : n ≤ 8192) (w : World) : (Instr.makeSlice 94 (.int .i64 (n : Int)) (.int .i64 (n : Int))).run Try.prog w =
    .ok (.slice (some ⟨w.heap.size, 0, none⟩) n n) (w.alloc (.cells (madeCells (bv zeros).toArray (n * 64)) 109)) := by
  obtain ⟨i, hi, hzz⟩ := Option.map_eq_some_iff.1 info_sec
  simp only [Prod.mk.injEq] at hzz
  obtain ⟨hz, hs, hb⟩ := hzz
  have hr := run_make (P := Try.prog) w 94 109 i (sec zeros) Try.underlying94 hi hz .i64 .i64 n n (by omega) (Int.le_refl _) (by rw [hb]; omega) (by omega)
  simp only [Int.toNat_natCast, hs] at hr
  exact hr

theorem zeros_get (j : Nat) (h : j < 64) : (bv zeros)[j]? = some (.int .u8 0) := by
  have e : zeros.getD j 0 = 0 := by
    unfold zeros
    rw [List.getD_eq_getElem?_getD, List.getElem?_replicate, if_pos h]; rfl
  rw [bv_get zeros j (by simp [zeros]; omega), e]; rfl

theorem made_get (n i j : Nat) (hi : i < n) (hj : j < 64) : (madeCells (bv zeros).toArray (n * 64))[i * 64 + j]? = some (.int .u8 0) := by
  have h1 : i * 64 + j < n * 64 := by omega
  have h2 : (bv zeros).toArray.size = 64 := by rw [List.size_toArray, bv_length]; exact List.length_replicate
  have h3 : (i * 64 + j) % 64 = j := by omega
  have h4 := zeros_get j hj
  generalize bv zeros = Z at *
  unfold madeCells
  rw [Array.getElem?_eq_getElem (by simp; omega)]
  simp only [Array.getElem_map, Array.getElem_range, h2, h3]
  congr 1
  have h5 : j < Z.toArray.size := by omega
  rw [getElem!_pos Z.toArray j h5]
  rw [List.getElem?_eq_getElem (by simpa using h5)] at h4
  simpa using h4

theorem made_secs (w : World) (n i : Nat) (hi : i < n) (t : TypeId) : (w.alloc (.cells (madeCells (bv zeros).toArray (n * 64)) t)).rangeAt w.heap.size (i * 64) (bv zeros) ∧ (w.alloc (.cells (madeCells (bv zeros).toArray (n * 64)) t)).there w.heap.size (i * 64) 64 := by
  have hc : ∀ j, j < 64 → (w.alloc (.cells (madeCells (bv zeros).toArray (n * 64)) t)).cell? ⟨w.heap.size, i * 64 + j, none⟩ = some (.int .u8 0) := by
    intro j hj
    rw [Go.Joins.cell_of_block (cs := madeCells (bv zeros).toArray (n * 64)) (t := t) (fr := (0, 0)) (by rw [heap_alloc, if_pos rfl])]
    exact made_get n i j hi hj
  refine ⟨fun j v hv => ?_, fun j hj => ⟨by rw [hc j hj]; rfl, by simp⟩⟩
  have hj : j < 64 := by
    rcases Nat.lt_or_ge j 64 with g | g
    · exact g
    · rw [List.getElem?_eq_none (by simp [bv_length, zeros]; omega)] at hv; cases hv
  rw [hc j hj, ← hv, zeros_get j hj]

set_option maxRecDepth 100000 in
theorem new_no (n : Int) (hn : n < 1 ∨ 8192 < n) (w : World) :
    Calls Try.prog 13 #[.int .i64 n] w fun e w' => e = .returned (.tuple #[.pointer none, .int .i64 1]) ∧ w = w' := by
  rcases hn with h | h
  · go_enter Try.func13, Try.ntmps13
    go_wp2
    go_ret2
    exact ⟨rfl, rfl⟩
  · have h1 : ¬ n < 1 := by omega
    go_enter Try.func13, Try.ntmps13
    go_wp2
    go_ret2
    exact ⟨rfl, rfl⟩

/-- a new disk -/
def Newd (n : Nat) (w : World) (e : Ending) (w' : World) : Prop :=
  ∃ p bl bm, e = .returned (.tuple #[.pointer (some ⟨p, 0, none⟩), .int .i64 0]) ∧ DskAt w' p bl bm n (fun _ => zeros) (fun _ => none) 0 false ∧ Only (fun _ => False) w w' ∧ w.heap.size ≤ p ∧ w.heap.size ≤ bl ∧ w.heap.size ≤ bm

theorem new_at (w : World) (n : Nat) (h1 : 1 ≤ n) (h2 : n ≤ 8192) (t u : TypeId) : DskAt (((w.alloc (.cells (madeCells (bv zeros).toArray (n * 64)) t)).alloc (.map #[] 0)).alloc
    (.cells #[.slice (some ⟨w.heap.size, 0, none⟩) n n, .map (some (w.heap.size + 1)), .int .i64 0, .bool false] u)) (w.heap.size + 1 + 1) w.heap.size (w.heap.size + 1) n (fun _ => zeros) (fun _ => none) 0 false := by
  have hb : ((((w.alloc (.cells (madeCells (bv zeros).toArray (n * 64)) t)).alloc (.map #[] 0)).alloc
    (.cells #[.slice (some ⟨w.heap.size, 0, none⟩) n n, .map (some (w.heap.size + 1)), .int .i64 0, .bool false] u))).heap[w.heap.size + 1 + 1]? = some (.cells #[.slice (some ⟨w.heap.size, 0, none⟩) n n, .map (some (w.heap.size + 1)), .int .i64 0, .bool false] u (0, 0)) := by
    rw [heap_alloc, if_pos (by rw [size_alloc, size_alloc])]
  have hm := MapC.made (w.alloc (.cells (madeCells (bv zeros).toArray (n * 64)) t)) n
  rw [size_alloc] at hm
  refine ⟨by rw [Go.Joins.cell_of_block hb]; rfl, by rw [Go.Joins.cell_of_block hb]; rfl, by rw [Go.Joins.cell_of_block hb]; rfl, by rw [Go.Joins.cell_of_block hb]; rfl, ?_, ?_, ?_,
    hm.only (S := fun _ => False) ((Only.refl _ _).alloc _) (fun f => f), by omega, by omega, by omega, h1, h2, by omega⟩
  · exact frozen_of_row _ _ _ _ _ hb
  · exact frozen_of_row _ _ _ _ _ hb
  · intro i hi
    have h := made_secs w n i hi t
    have ho : Only (fun _ => False) (w.alloc (.cells (madeCells (bv zeros).toArray (n * 64)) t)) (((w.alloc (.cells (madeCells (bv zeros).toArray (n * 64)) t)).alloc (.map #[] 0)).alloc
      (.cells #[.slice (some ⟨w.heap.size, 0, none⟩) n n, .map (some (w.heap.size + 1)), .int .i64 0, .bool false] u)) := ((Only.refl _ _).alloc _).alloc _
    exact ⟨sec_zeros, range_only h.1 ho (fun f => f), there_only h.2 ho (fun f => f)⟩

set_option maxRecDepth 100000 in
theorem new_any (n : Nat) (h1 : 1 ≤ n) (h2 : n ≤ 8192) (w : World) :
    Calls Try.prog 13 #[.int .i64 (n : Int)] w (Newd n w) := by
  have hmk := make_secs n h2
  have hmm := @run_makeMap Try.prog
  have H1 := Lib.hid h1
  have H2 := Lib.hid h2
  have d1 : ¬ (n : Int) < 1 := by omega
  have d2 : ¬ (8192 : Int) < (n : Int) := by omega
  have HR := Lib.hid (made_secs w n)
  clear h1 h2
  go_enter Try.func13, Try.ntmps13
  go_wp2
  go_ret2
  exact ⟨_, _, _, rfl, new_at w n H1.out H2.out _ _, ((Only.refl _ _).alloc _).alloc _ |>.alloc _, by omega, by omega, by omega⟩
end Go.Proofs.Ytcbpgplmphgcgaa.dskw
