/- The statements' own small functions: a sector of one byte, again and again. -/
import Derived.Test.YtodmfljhojdbkaaDsk9
namespace Go.Proofs.Ytodmfljhojdbkaa.dskw
open Go.RowKit mem Go.Maps
set_option linter.unusedVariables false

theorem heap_set {w : World} {g i : Nat} {cur : Array Value} {t : TypeId} (v : Value) (h : w.heap[g]? = some (.cells cur t (0, 0))) : (w.setCell ⟨g, i, none⟩ v).heap[g]? = some (.cells (cur.setIfInBounds i v) t (0, 0)) := by
  obtain ⟨hlt, hk⟩ := Array.getElem?_eq_some_iff.1 h
  show (w.heap.modify g _)[g]? = _
  rw [Array.getElem?_eq_getElem (by rw [Array.size_modify]; exact hlt), Array.getElem_modify_self, hk]
  rfl

/-- on the way: k places are written -/
def Filling (w : World) (g k y : Nat) : Prop := ∃ cur : Array Value, w.heap[g]? = some (.cells cur 5 (0, 0)) ∧ cur.size = 64 ∧ ∀ j, j < 64 → cur[j]? = some (.int .u8 ((if j < k then y else 0 : Nat) : Int))

theorem Filling.cell {w : World} {g k y : Nat} (h : Filling w g k y) {j : Nat} (hj : j < 64) : (w.cell? ⟨g, j, none⟩).isSome = true ∧ w.frozen? ⟨g, j, none⟩ = false := by
  obtain ⟨cur, h1, h2, h3⟩ := h
  refine ⟨by rw [Go.Joins.cell_of_block h1, h3 j hj]; rfl, by simp [World.frozen?, h1]⟩
theorem Filling.step {w : World} {g k y : Nat} (h : Filling w g k y) (hk : k < 64) : Filling (w.setCell ⟨g, k, none⟩ (.int .u8 (y : Int))) g (k + 1) y := by
  obtain ⟨cur, h1, h2, h3⟩ := h
  refine ⟨_, heap_set _ h1, by simp [h2], fun j hj => ?_⟩
  by_cases e : j = k
  · subst e
    rw [Array.getElem?_setIfInBounds_self_of_lt (by omega), if_pos (by omega)]
  · rw [Array.getElem?_setIfInBounds_ne (fun e2 => e e2.symm), h3 j hj]
    by_cases h4 : j < k
    · rw [if_pos h4, if_pos (by omega)]
    · rw [if_neg h4, if_neg (by omega)]
theorem Filling.own {w : World} {g y : Nat} (h : Filling w g 64 y) (hy : y < 256) : OwnB w (.slice (some ⟨g, 0, none⟩) 64 64) (List.replicate 64 y) := by
  obtain ⟨cur, h1, h2, h3⟩ := h
  refine ⟨⟨by rw [bv_length, Nat.mul_one], .inr ⟨g, 64, cur, by rw [List.length_replicate], Nat.zero_le _, h1, by rw [List.length_replicate]; omega, by unfold maxLen; omega, by omega, ?_⟩⟩, fun c hc => by rw [List.mem_replicate] at hc; omega, by rw [List.length_replicate]; unfold maxLen; omega⟩
  rw [List.length_replicate]
  apply List.ext_getElem?
  intro j
  by_cases hj : j < 64
  · rw [List.getElem?_take_of_lt (by omega), Array.getElem?_toList, h3 j hj, if_pos hj, bv_get _ j (by rw [List.length_replicate]; omega), List.getD_eq_getElem?_getD, List.getElem?_replicate, if_pos hj]
    rfl
  · rw [List.getElem?_take_eq_none (by omega), List.getElem?_eq_none (by rw [bv_length, List.length_replicate]; omega)]

/-- a new slice of such bytes -/
def NewB (w : World) (bs : List Nat) (e : Ending) (w' : World) : Prop :=
  ∃ g cap, e = .returned (.slice (some ⟨g, 0, none⟩) bs.length cap) ∧ OwnB w' (.slice (some ⟨g, 0, none⟩) bs.length cap) bs ∧ Only (fun _ => False) w w' ∧ w.heap.size ≤ g

theorem make_64 (w : World) : ∃ cs : Array Value, (Instr.makeSlice 34 (.int .i64 64) (.int .i64 64)).run Try.prog w = .ok (.slice (some ⟨w.heap.size, 0, none⟩) 64 64) (w.alloc (.cells cs 5)) ∧ cs.size = 64 ∧ ∀ j, j < 64 → cs[j]? = some (.int .u8 0) := by
  obtain ⟨i, hi, hz0, hz1, hz2⟩ := info_parts info_u8
  have hr := run_make (P := Try.prog) w 34 5 i (.int .u8 0) Try.underlying34 hi hz0 .i64 .i64 64 64 (by omega) (Int.le_refl _) (by rw [hz2]; omega) (by omega)
  refine ⟨_, hr, ?_, fun j hj => ?_⟩
  · simp [madeCells, hz1]
  · have e : Int.toNat 64 * i.size = 64 := by rw [hz1]; rfl
    rw [e]
    unfold madeCells
    rw [Array.getElem?_eq_getElem (by simp; omega)]
    have e2 : (Value.int .u8 0).cells = #[Value.int .u8 0] := rfl
    simp [e2, Nat.mod_one]

set_option maxRecDepth 100000 in
set_option maxHeartbeats 1000000 in
theorem sector_any (y : Nat) (hy : y < 256) (w : World) : Calls Try.prog 9 #[.int .u8 (y : Int)] w (NewB w (List.replicate 64 y)) := by
  obtain ⟨cs, hmk, hcs, hc0⟩ := make_64 w
  have HF0 : Hid (Filling (w.alloc (.cells cs 5)) w.heap.size 0 y) := Lib.hid ⟨cs, by rw [heap_alloc, if_pos rfl], hcs, fun j hj => by rw [hc0 j hj, if_neg (by omega)]; rfl⟩
  have HO0 : Hid (Only (fun _ => False) w (w.alloc (.cells cs 5))) := Lib.hid ((Only.refl _ w).alloc _)
  clear hcs hc0
  go_enter Try.func9, Try.ntmps9
  go_wp2_with fail
  generalize w.alloc (.cells cs 5) = w1 at *
  go_loopw [4] (fun i wr => ∃ k : Nat, k ≤ 64 ∧ i = .int .i64 (k : Int) ∧ Hid (Filling wr w.heap.size k y) ∧ Hid (Only (fun _ => False) w wr)) (fun i _ => 64 - (intOf i).toNat)
  case atStart => exact ⟨0, by omega, rfl, HF0, HO0⟩
  case round =>
    clear HF0 HO0
    obtain ⟨k, hk, rfl, HF, HO⟩ := hrel
    by_cases h9 : k < 64
    · obtain ⟨u, hc⟩ := Option.isSome_iff_exists.1 (HF.out.cell h9).1
      have hfz := (HF.out.cell h9).2
      have HF2 := Lib.hid (HF.out.step h9)
      have HO2 := Lib.hid (HO.out.setCell (p := ⟨w.heap.size, k, none⟩) (.inr (Nat.le_refl _)) (.int .u8 (y : Int)))
      go_wp2_with fail
      go_roundw
      case rel => exact ⟨k + 1, by omega, by go_num, HF2, HO2⟩
      case measure => simp [intOf]; omega
    · obtain rfl : k = 64 := by omega
      have HR := Lib.hid (HF.out.own hy)
      go_wp2_with fail
      go_ret
      refine ⟨w.heap.size, 64, ?_, ?_, HO.out, Nat.le_refl _⟩
      · rw [List.length_replicate]; rfl
      · rw [List.length_replicate]; exact HR.out
end Go.Proofs.Ytodmfljhojdbkaa.dskw
