/- Rhythms: turned by quarters. -/
import Derived.Test.YtlldecklngcklaaRhyH
import Derived.Test.YtlldecklngcklaaRhyQ
namespace Go.Proofs.Ytlldecklngcklaa.rhyw
open Go.RowKit mem fltm rhym intm bigm bigw
set_option linter.unusedVariables false

/-- what is turned so far, in a box of its own -/
def TurnAt (W wr : World) (g : Nat) (x y z u : Int) : Prop := Only (fun q => q = g) W wr ∧ (wr.cell? ⟨g, 0, none⟩ = some (.int .i64 x) ∧ wr.cell? ⟨g, 1, none⟩ = some (.int .i64 y) ∧ wr.cell? ⟨g, 2, none⟩ = some (.int .i64 z) ∧ wr.cell? ⟨g, 3, none⟩ = some (.int .i64 u)) ∧
  (wr.frozen? ⟨g, 0, none⟩ = false ∧ wr.frozen? ⟨g, 1, none⟩ = false ∧ wr.frozen? ⟨g, 2, none⟩ = false ∧ wr.frozen? ⟨g, 3, none⟩ = false)
theorem TurnAt.start {w : World} {t : TypeId} {g : Nat} (hg : g = w.heap.size) : TurnAt (w.alloc (.cells #[.int .i64 0, .int .i64 0, .int .i64 0, .int .i64 0] t)) (w.alloc (.cells #[.int .i64 0, .int .i64 0, .int .i64 0, .int .i64 0] t)) g 0 0 0 0 :=
  ⟨Only.refl _ _, box4 hg (Only.refl _ _), alloc_froz _ _ _ _ _ hg, alloc_froz _ _ _ _ _ hg, alloc_froz _ _ _ _ _ hg, alloc_froz _ _ _ _ _ hg⟩
theorem TurnAt.set0 {W wr : World} {g : Nat} {x y z u : Int} (h : TurnAt W wr g x y z u) (v : Int) : TurnAt W (wr.setCell ⟨g, 0, none⟩ (.int .i64 v)) g v y z u := by
  obtain ⟨ho, ⟨h0, h1, h2, h3⟩, f0, f1, f2, f3⟩ := h
  refine ⟨ho.setCell (p := ⟨g, 0, none⟩) (.inl rfl) _, ⟨?_, ?_, ?_, ?_⟩, by rw [frozen_set]; exact f0, by rw [frozen_set]; exact f1, by rw [frozen_set]; exact f2, by rw [frozen_set]; exact f3⟩
  · exact cell_same h0
  · rw [cell_other (off_ne (by omega))]; exact h1
  · rw [cell_other (off_ne (by omega))]; exact h2
  · rw [cell_other (off_ne (by omega))]; exact h3
theorem TurnAt.set1 {W wr : World} {g : Nat} {x y z u : Int} (h : TurnAt W wr g x y z u) (v : Int) : TurnAt W (wr.setCell ⟨g, 1, none⟩ (.int .i64 v)) g x v z u := by
  obtain ⟨ho, ⟨h0, h1, h2, h3⟩, f0, f1, f2, f3⟩ := h
  refine ⟨ho.setCell (p := ⟨g, 1, none⟩) (.inl rfl) _, ⟨?_, ?_, ?_, ?_⟩, by rw [frozen_set]; exact f0, by rw [frozen_set]; exact f1, by rw [frozen_set]; exact f2, by rw [frozen_set]; exact f3⟩
  · rw [cell_other (off_ne (by omega))]; exact h0
  · exact cell_same h1
  · rw [cell_other (off_ne (by omega))]; exact h2
  · rw [cell_other (off_ne (by omega))]; exact h3
theorem TurnAt.set2 {W wr : World} {g : Nat} {x y z u : Int} (h : TurnAt W wr g x y z u) (v : Int) : TurnAt W (wr.setCell ⟨g, 2, none⟩ (.int .i64 v)) g x y v u := by
  obtain ⟨ho, ⟨h0, h1, h2, h3⟩, f0, f1, f2, f3⟩ := h
  refine ⟨ho.setCell (p := ⟨g, 2, none⟩) (.inl rfl) _, ⟨?_, ?_, ?_, ?_⟩, by rw [frozen_set]; exact f0, by rw [frozen_set]; exact f1, by rw [frozen_set]; exact f2, by rw [frozen_set]; exact f3⟩
  · rw [cell_other (off_ne (by omega))]; exact h0
  · rw [cell_other (off_ne (by omega))]; exact h1
  · exact cell_same h2
  · rw [cell_other (off_ne (by omega))]; exact h3
theorem TurnAt.set3 {W wr : World} {g : Nat} {x y z u : Int} (h : TurnAt W wr g x y z u) (v : Int) : TurnAt W (wr.setCell ⟨g, 3, none⟩ (.int .i64 v)) g x y z v := by
  obtain ⟨ho, ⟨h0, h1, h2, h3⟩, f0, f1, f2, f3⟩ := h
  refine ⟨ho.setCell (p := ⟨g, 3, none⟩) (.inl rfl) _, ⟨?_, ?_, ?_, ?_⟩, by rw [frozen_set]; exact f0, by rw [frozen_set]; exact f1, by rw [frozen_set]; exact f2, by rw [frozen_set]; exact f3⟩
  · rw [cell_other (off_ne (by omega))]; exact h0
  · rw [cell_other (off_ne (by omega))]; exact h1
  · rw [cell_other (off_ne (by omega))]; exact h2
  · exact cell_same h3
set_option maxRecDepth 100000 in
theorem turn_0 (a b c d n : Int) (hm : n % 4 = 0) (w : World) : Calls Try.prog 67 #[.agg #[.int .i64 a, .int .i64 b, .int .i64 c, .int .i64 d], .int .i64 n] w fun e w' => e = .returned (.agg #[.int .i64 a, .int .i64 b, .int .i64 c, .int .i64 d]) ∧ Only (fun _ => False) w w' := by
  have i0 : ∀ w : World, (Instr.index 108 (.agg #[.int .i64 a, .int .i64 b, .int .i64 c, .int .i64 d]) (.int .i64 0)).run Try.prog w = .ok (.int .i64 a) w := fun _ => by kernel_rfl
  have i1 : ∀ w : World, (Instr.index 108 (.agg #[.int .i64 a, .int .i64 b, .int .i64 c, .int .i64 d]) (.int .i64 1)).run Try.prog w = .ok (.int .i64 b) w := fun _ => by kernel_rfl
  have i2 : ∀ w : World, (Instr.index 108 (.agg #[.int .i64 a, .int .i64 b, .int .i64 c, .int .i64 d]) (.int .i64 2)).run Try.prog w = .ok (.int .i64 c) w := fun _ => by kernel_rfl
  have i3 : ∀ w : World, (Instr.index 108 (.agg #[.int .i64 a, .int .i64 b, .int .i64 c, .int .i64 d]) (.int .i64 3)).run Try.prog w = .ok (.int .i64 d) w := fun _ => by kernel_rfl
  have t0 : (IntKind.u64.wrap (IntKind.u64.wrap n)).tmod 4 = 0 := by rw [u64_wrap, u64_wrap, Int.tmod_eq_emod_of_nonneg (by omega)]; omega
  have t1 : (IntKind.u64.wrap (1 + IntKind.u64.wrap n)).tmod 4 = 1 := by rw [u64_wrap, u64_wrap, Int.tmod_eq_emod_of_nonneg (by omega)]; omega
  have t2 : (IntKind.u64.wrap (2 + IntKind.u64.wrap n)).tmod 4 = 2 := by rw [u64_wrap, u64_wrap, Int.tmod_eq_emod_of_nonneg (by omega)]; omega
  have t3 : (IntKind.u64.wrap (3 + IntKind.u64.wrap n)).tmod 4 = 3 := by rw [u64_wrap, u64_wrap, Int.tmod_eq_emod_of_nonneg (by omega)]; omega
  obtain ⟨W0, hW0⟩ : ∃ W0, W0 = ((w.alloc (.cells #[.int .i64 a, .int .i64 b, .int .i64 c, .int .i64 d] 110)).alloc (.cells #[.int .i64 0, .int .i64 0, .int .i64 0, .int .i64 0] 110)).alloc (.cells #[.int .i64 0, .int .i64 0, .int .i64 0, .int .i64 0] 110) := ⟨_, rfl⟩
  have HF0 : Hid (Only (fun _ => False) w W0) := Lib.hid (by rw [hW0]; exact (((Only.refl _ w).alloc _).alloc _).alloc _)
  have HSZ : Hid (w.heap.size < w.heap.size + 1 + 1) := Lib.hid (by omega)
  have HST : Hid (TurnAt W0 W0 (w.heap.size + 1 + 1) 0 0 0 0) := Lib.hid (by rw [hW0]; exact TurnAt.start (by simp))
  have HFO : Hid (Four W0 (w.heap.size + 1)) := Lib.hid (by rw [hW0]; exact (Four.new (by simp)).only ((Only.refl (fun _ => False) _).alloc _) (fun f => f))
  clear hm
  go_enter Try.func67, Try.ntmps67
  go_wp2_with fail
  rw [← hW0]
  clear hW0
  go_loopw [11] (fun i wr => (i = .int .i64 0 ∧ Hid (TurnAt W0 wr (w.heap.size + 1 + 1) 0 0 0 0)) ∨ (i = .int .i64 1 ∧ Hid (TurnAt W0 wr (w.heap.size + 1 + 1) a 0 0 0)) ∨ (i = .int .i64 2 ∧ Hid (TurnAt W0 wr (w.heap.size + 1 + 1) a b 0 0)) ∨ (i = .int .i64 3 ∧ Hid (TurnAt W0 wr (w.heap.size + 1 + 1) a b c 0)) ∨ (i = .int .i64 4 ∧ Hid (TurnAt W0 wr (w.heap.size + 1 + 1) a b c d))) (fun i _ => 4 - (intOf i).toNat)
  case atStart => exact .inl ⟨rfl, HST⟩
  case round =>
    rcases hrel with ⟨rfl, HT⟩ | ⟨rfl, HT⟩ | ⟨rfl, HT⟩ | ⟨rfl, HT⟩ | ⟨rfl, HT⟩
    · obtain ⟨_, ⟨p0, p1, p2, p3⟩, f0, f1, f2, f3⟩ := HT.out
      go_wp2_with fail
      exact ⟨.inr (.inl ⟨rfl, Lib.hid (HT.out.set0 a)⟩), by simp [intOf]⟩
    · obtain ⟨_, ⟨p0, p1, p2, p3⟩, f0, f1, f2, f3⟩ := HT.out
      go_wp2_with fail
      exact ⟨.inr (.inr (.inl ⟨rfl, Lib.hid (HT.out.set1 b)⟩)), by simp [intOf]⟩
    · obtain ⟨_, ⟨p0, p1, p2, p3⟩, f0, f1, f2, f3⟩ := HT.out
      go_wp2_with fail
      exact ⟨.inr (.inr (.inr (.inl ⟨rfl, Lib.hid (HT.out.set2 c)⟩))), by simp [intOf]⟩
    · obtain ⟨_, ⟨p0, p1, p2, p3⟩, f0, f1, f2, f3⟩ := HT.out
      go_wp2_with fail
      exact ⟨.inr (.inr (.inr (.inr (⟨rfl, Lib.hid (HT.out.set3 d)⟩)))), by simp [intOf]⟩
    · obtain ⟨ho, ⟨p0, p1, p2, p3⟩, f0, f1, f2, f3⟩ := HT.out
      have HR4 := HFO.out.only ho (fun e => by omega)
      have HE := Lib.hid (HR4.set (.int .i64 a) (.int .i64 b) (.int .i64 c) (.int .i64 d))
      obtain ⟨⟨_, r0⟩, ⟨_, r1⟩, ⟨_, r2⟩, ⟨_, r3⟩, g0, g1, g2, g3⟩ := HR4
      have HF := Lib.hid (HF0.out.then ho (fun q hq e => by have := HSZ.out; omega))
      clear ho
      go_wp2_with fail
      refine bodyPost_ret (v := .agg #[.int .i64 a, .int .i64 b, .int .i64 c, .int .i64 d]) (by simp [results, Try.results67, go_sem, HE.out.1, HE.out.2.1, HE.out.2.2.1, HE.out.2.2.2.1]) rfl ⟨rfl, HF.out.then HE.out.2.2.2.2 (fun q hq e => by omega)⟩
set_option maxRecDepth 100000 in
theorem turn_1 (a b c d n : Int) (hm : n % 4 = 1) (w : World) : Calls Try.prog 67 #[.agg #[.int .i64 a, .int .i64 b, .int .i64 c, .int .i64 d], .int .i64 n] w fun e w' => e = .returned (.agg #[.int .i64 d, .int .i64 a, .int .i64 b, .int .i64 c]) ∧ Only (fun _ => False) w w' := by
  have i0 : ∀ w : World, (Instr.index 108 (.agg #[.int .i64 a, .int .i64 b, .int .i64 c, .int .i64 d]) (.int .i64 0)).run Try.prog w = .ok (.int .i64 a) w := fun _ => by kernel_rfl
  have i1 : ∀ w : World, (Instr.index 108 (.agg #[.int .i64 a, .int .i64 b, .int .i64 c, .int .i64 d]) (.int .i64 1)).run Try.prog w = .ok (.int .i64 b) w := fun _ => by kernel_rfl
  have i2 : ∀ w : World, (Instr.index 108 (.agg #[.int .i64 a, .int .i64 b, .int .i64 c, .int .i64 d]) (.int .i64 2)).run Try.prog w = .ok (.int .i64 c) w := fun _ => by kernel_rfl
  have i3 : ∀ w : World, (Instr.index 108 (.agg #[.int .i64 a, .int .i64 b, .int .i64 c, .int .i64 d]) (.int .i64 3)).run Try.prog w = .ok (.int .i64 d) w := fun _ => by kernel_rfl
  have t0 : (IntKind.u64.wrap (IntKind.u64.wrap n)).tmod 4 = 1 := by rw [u64_wrap, u64_wrap, Int.tmod_eq_emod_of_nonneg (by omega)]; omega
  have t1 : (IntKind.u64.wrap (1 + IntKind.u64.wrap n)).tmod 4 = 2 := by rw [u64_wrap, u64_wrap, Int.tmod_eq_emod_of_nonneg (by omega)]; omega
  have t2 : (IntKind.u64.wrap (2 + IntKind.u64.wrap n)).tmod 4 = 3 := by rw [u64_wrap, u64_wrap, Int.tmod_eq_emod_of_nonneg (by omega)]; omega
  have t3 : (IntKind.u64.wrap (3 + IntKind.u64.wrap n)).tmod 4 = 0 := by rw [u64_wrap, u64_wrap, Int.tmod_eq_emod_of_nonneg (by omega)]; omega
  obtain ⟨W0, hW0⟩ : ∃ W0, W0 = ((w.alloc (.cells #[.int .i64 a, .int .i64 b, .int .i64 c, .int .i64 d] 110)).alloc (.cells #[.int .i64 0, .int .i64 0, .int .i64 0, .int .i64 0] 110)).alloc (.cells #[.int .i64 0, .int .i64 0, .int .i64 0, .int .i64 0] 110) := ⟨_, rfl⟩
  have HF0 : Hid (Only (fun _ => False) w W0) := Lib.hid (by rw [hW0]; exact (((Only.refl _ w).alloc _).alloc _).alloc _)
  have HSZ : Hid (w.heap.size < w.heap.size + 1 + 1) := Lib.hid (by omega)
  have HST : Hid (TurnAt W0 W0 (w.heap.size + 1 + 1) 0 0 0 0) := Lib.hid (by rw [hW0]; exact TurnAt.start (by simp))
  have HFO : Hid (Four W0 (w.heap.size + 1)) := Lib.hid (by rw [hW0]; exact (Four.new (by simp)).only ((Only.refl (fun _ => False) _).alloc _) (fun f => f))
  clear hm
  go_enter Try.func67, Try.ntmps67
  go_wp2_with fail
  rw [← hW0]
  clear hW0
  go_loopw [11] (fun i wr => (i = .int .i64 0 ∧ Hid (TurnAt W0 wr (w.heap.size + 1 + 1) 0 0 0 0)) ∨ (i = .int .i64 1 ∧ Hid (TurnAt W0 wr (w.heap.size + 1 + 1) 0 a 0 0)) ∨ (i = .int .i64 2 ∧ Hid (TurnAt W0 wr (w.heap.size + 1 + 1) 0 a b 0)) ∨ (i = .int .i64 3 ∧ Hid (TurnAt W0 wr (w.heap.size + 1 + 1) 0 a b c)) ∨ (i = .int .i64 4 ∧ Hid (TurnAt W0 wr (w.heap.size + 1 + 1) d a b c))) (fun i _ => 4 - (intOf i).toNat)
  case atStart => exact .inl ⟨rfl, HST⟩
  case round =>
    rcases hrel with ⟨rfl, HT⟩ | ⟨rfl, HT⟩ | ⟨rfl, HT⟩ | ⟨rfl, HT⟩ | ⟨rfl, HT⟩
    · obtain ⟨_, ⟨p0, p1, p2, p3⟩, f0, f1, f2, f3⟩ := HT.out
      go_wp2_with fail
      exact ⟨.inr (.inl ⟨rfl, Lib.hid (HT.out.set1 a)⟩), by simp [intOf]⟩
    · obtain ⟨_, ⟨p0, p1, p2, p3⟩, f0, f1, f2, f3⟩ := HT.out
      go_wp2_with fail
      exact ⟨.inr (.inr (.inl ⟨rfl, Lib.hid (HT.out.set2 b)⟩)), by simp [intOf]⟩
    · obtain ⟨_, ⟨p0, p1, p2, p3⟩, f0, f1, f2, f3⟩ := HT.out
      go_wp2_with fail
      exact ⟨.inr (.inr (.inr (.inl ⟨rfl, Lib.hid (HT.out.set3 c)⟩))), by simp [intOf]⟩
    · obtain ⟨_, ⟨p0, p1, p2, p3⟩, f0, f1, f2, f3⟩ := HT.out
      go_wp2_with fail
      exact ⟨.inr (.inr (.inr (.inr (⟨rfl, Lib.hid (HT.out.set0 d)⟩)))), by simp [intOf]⟩
    · obtain ⟨ho, ⟨p0, p1, p2, p3⟩, f0, f1, f2, f3⟩ := HT.out
      have HR4 := HFO.out.only ho (fun e => by omega)
      have HE := Lib.hid (HR4.set (.int .i64 d) (.int .i64 a) (.int .i64 b) (.int .i64 c))
      obtain ⟨⟨_, r0⟩, ⟨_, r1⟩, ⟨_, r2⟩, ⟨_, r3⟩, g0, g1, g2, g3⟩ := HR4
      have HF := Lib.hid (HF0.out.then ho (fun q hq e => by have := HSZ.out; omega))
      clear ho
      go_wp2_with fail
      refine bodyPost_ret (v := .agg #[.int .i64 d, .int .i64 a, .int .i64 b, .int .i64 c]) (by simp [results, Try.results67, go_sem, HE.out.1, HE.out.2.1, HE.out.2.2.1, HE.out.2.2.2.1]) rfl ⟨rfl, HF.out.then HE.out.2.2.2.2 (fun q hq e => by omega)⟩
set_option maxRecDepth 100000 in
theorem turn_2 (a b c d n : Int) (hm : n % 4 = 2) (w : World) : Calls Try.prog 67 #[.agg #[.int .i64 a, .int .i64 b, .int .i64 c, .int .i64 d], .int .i64 n] w fun e w' => e = .returned (.agg #[.int .i64 c, .int .i64 d, .int .i64 a, .int .i64 b]) ∧ Only (fun _ => False) w w' := by
  have i0 : ∀ w : World, (Instr.index 108 (.agg #[.int .i64 a, .int .i64 b, .int .i64 c, .int .i64 d]) (.int .i64 0)).run Try.prog w = .ok (.int .i64 a) w := fun _ => by kernel_rfl
  have i1 : ∀ w : World, (Instr.index 108 (.agg #[.int .i64 a, .int .i64 b, .int .i64 c, .int .i64 d]) (.int .i64 1)).run Try.prog w = .ok (.int .i64 b) w := fun _ => by kernel_rfl
  have i2 : ∀ w : World, (Instr.index 108 (.agg #[.int .i64 a, .int .i64 b, .int .i64 c, .int .i64 d]) (.int .i64 2)).run Try.prog w = .ok (.int .i64 c) w := fun _ => by kernel_rfl
  have i3 : ∀ w : World, (Instr.index 108 (.agg #[.int .i64 a, .int .i64 b, .int .i64 c, .int .i64 d]) (.int .i64 3)).run Try.prog w = .ok (.int .i64 d) w := fun _ => by kernel_rfl
  have t0 : (IntKind.u64.wrap (IntKind.u64.wrap n)).tmod 4 = 2 := by rw [u64_wrap, u64_wrap, Int.tmod_eq_emod_of_nonneg (by omega)]; omega
  have t1 : (IntKind.u64.wrap (1 + IntKind.u64.wrap n)).tmod 4 = 3 := by rw [u64_wrap, u64_wrap, Int.tmod_eq_emod_of_nonneg (by omega)]; omega
  have t2 : (IntKind.u64.wrap (2 + IntKind.u64.wrap n)).tmod 4 = 0 := by rw [u64_wrap, u64_wrap, Int.tmod_eq_emod_of_nonneg (by omega)]; omega
  have t3 : (IntKind.u64.wrap (3 + IntKind.u64.wrap n)).tmod 4 = 1 := by rw [u64_wrap, u64_wrap, Int.tmod_eq_emod_of_nonneg (by omega)]; omega
  obtain ⟨W0, hW0⟩ : ∃ W0, W0 = ((w.alloc (.cells #[.int .i64 a, .int .i64 b, .int .i64 c, .int .i64 d] 110)).alloc (.cells #[.int .i64 0, .int .i64 0, .int .i64 0, .int .i64 0] 110)).alloc (.cells #[.int .i64 0, .int .i64 0, .int .i64 0, .int .i64 0] 110) := ⟨_, rfl⟩
  have HF0 : Hid (Only (fun _ => False) w W0) := Lib.hid (by rw [hW0]; exact (((Only.refl _ w).alloc _).alloc _).alloc _)
  have HSZ : Hid (w.heap.size < w.heap.size + 1 + 1) := Lib.hid (by omega)
  have HST : Hid (TurnAt W0 W0 (w.heap.size + 1 + 1) 0 0 0 0) := Lib.hid (by rw [hW0]; exact TurnAt.start (by simp))
  have HFO : Hid (Four W0 (w.heap.size + 1)) := Lib.hid (by rw [hW0]; exact (Four.new (by simp)).only ((Only.refl (fun _ => False) _).alloc _) (fun f => f))
  clear hm
  go_enter Try.func67, Try.ntmps67
  go_wp2_with fail
  rw [← hW0]
  clear hW0
  go_loopw [11] (fun i wr => (i = .int .i64 0 ∧ Hid (TurnAt W0 wr (w.heap.size + 1 + 1) 0 0 0 0)) ∨ (i = .int .i64 1 ∧ Hid (TurnAt W0 wr (w.heap.size + 1 + 1) 0 0 a 0)) ∨ (i = .int .i64 2 ∧ Hid (TurnAt W0 wr (w.heap.size + 1 + 1) 0 0 a b)) ∨ (i = .int .i64 3 ∧ Hid (TurnAt W0 wr (w.heap.size + 1 + 1) c 0 a b)) ∨ (i = .int .i64 4 ∧ Hid (TurnAt W0 wr (w.heap.size + 1 + 1) c d a b))) (fun i _ => 4 - (intOf i).toNat)
  case atStart => exact .inl ⟨rfl, HST⟩
  case round =>
    rcases hrel with ⟨rfl, HT⟩ | ⟨rfl, HT⟩ | ⟨rfl, HT⟩ | ⟨rfl, HT⟩ | ⟨rfl, HT⟩
    · obtain ⟨_, ⟨p0, p1, p2, p3⟩, f0, f1, f2, f3⟩ := HT.out
      go_wp2_with fail
      exact ⟨.inr (.inl ⟨rfl, Lib.hid (HT.out.set2 a)⟩), by simp [intOf]⟩
    · obtain ⟨_, ⟨p0, p1, p2, p3⟩, f0, f1, f2, f3⟩ := HT.out
      go_wp2_with fail
      exact ⟨.inr (.inr (.inl ⟨rfl, Lib.hid (HT.out.set3 b)⟩)), by simp [intOf]⟩
    · obtain ⟨_, ⟨p0, p1, p2, p3⟩, f0, f1, f2, f3⟩ := HT.out
      go_wp2_with fail
      exact ⟨.inr (.inr (.inr (.inl ⟨rfl, Lib.hid (HT.out.set0 c)⟩))), by simp [intOf]⟩
    · obtain ⟨_, ⟨p0, p1, p2, p3⟩, f0, f1, f2, f3⟩ := HT.out
      go_wp2_with fail
      exact ⟨.inr (.inr (.inr (.inr (⟨rfl, Lib.hid (HT.out.set1 d)⟩)))), by simp [intOf]⟩
    · obtain ⟨ho, ⟨p0, p1, p2, p3⟩, f0, f1, f2, f3⟩ := HT.out
      have HR4 := HFO.out.only ho (fun e => by omega)
      have HE := Lib.hid (HR4.set (.int .i64 c) (.int .i64 d) (.int .i64 a) (.int .i64 b))
      obtain ⟨⟨_, r0⟩, ⟨_, r1⟩, ⟨_, r2⟩, ⟨_, r3⟩, g0, g1, g2, g3⟩ := HR4
      have HF := Lib.hid (HF0.out.then ho (fun q hq e => by have := HSZ.out; omega))
      clear ho
      go_wp2_with fail
      refine bodyPost_ret (v := .agg #[.int .i64 c, .int .i64 d, .int .i64 a, .int .i64 b]) (by simp [results, Try.results67, go_sem, HE.out.1, HE.out.2.1, HE.out.2.2.1, HE.out.2.2.2.1]) rfl ⟨rfl, HF.out.then HE.out.2.2.2.2 (fun q hq e => by omega)⟩
set_option maxRecDepth 100000 in
theorem turn_3 (a b c d n : Int) (hm : n % 4 = 3) (w : World) : Calls Try.prog 67 #[.agg #[.int .i64 a, .int .i64 b, .int .i64 c, .int .i64 d], .int .i64 n] w fun e w' => e = .returned (.agg #[.int .i64 b, .int .i64 c, .int .i64 d, .int .i64 a]) ∧ Only (fun _ => False) w w' := by
  have i0 : ∀ w : World, (Instr.index 108 (.agg #[.int .i64 a, .int .i64 b, .int .i64 c, .int .i64 d]) (.int .i64 0)).run Try.prog w = .ok (.int .i64 a) w := fun _ => by kernel_rfl
  have i1 : ∀ w : World, (Instr.index 108 (.agg #[.int .i64 a, .int .i64 b, .int .i64 c, .int .i64 d]) (.int .i64 1)).run Try.prog w = .ok (.int .i64 b) w := fun _ => by kernel_rfl
  have i2 : ∀ w : World, (Instr.index 108 (.agg #[.int .i64 a, .int .i64 b, .int .i64 c, .int .i64 d]) (.int .i64 2)).run Try.prog w = .ok (.int .i64 c) w := fun _ => by kernel_rfl
  have i3 : ∀ w : World, (Instr.index 108 (.agg #[.int .i64 a, .int .i64 b, .int .i64 c, .int .i64 d]) (.int .i64 3)).run Try.prog w = .ok (.int .i64 d) w := fun _ => by kernel_rfl
  have t0 : (IntKind.u64.wrap (IntKind.u64.wrap n)).tmod 4 = 3 := by rw [u64_wrap, u64_wrap, Int.tmod_eq_emod_of_nonneg (by omega)]; omega
  have t1 : (IntKind.u64.wrap (1 + IntKind.u64.wrap n)).tmod 4 = 0 := by rw [u64_wrap, u64_wrap, Int.tmod_eq_emod_of_nonneg (by omega)]; omega
  have t2 : (IntKind.u64.wrap (2 + IntKind.u64.wrap n)).tmod 4 = 1 := by rw [u64_wrap, u64_wrap, Int.tmod_eq_emod_of_nonneg (by omega)]; omega
  have t3 : (IntKind.u64.wrap (3 + IntKind.u64.wrap n)).tmod 4 = 2 := by rw [u64_wrap, u64_wrap, Int.tmod_eq_emod_of_nonneg (by omega)]; omega
  obtain ⟨W0, hW0⟩ : ∃ W0, W0 = ((w.alloc (.cells #[.int .i64 a, .int .i64 b, .int .i64 c, .int .i64 d] 110)).alloc (.cells #[.int .i64 0, .int .i64 0, .int .i64 0, .int .i64 0] 110)).alloc (.cells #[.int .i64 0, .int .i64 0, .int .i64 0, .int .i64 0] 110) := ⟨_, rfl⟩
  have HF0 : Hid (Only (fun _ => False) w W0) := Lib.hid (by rw [hW0]; exact (((Only.refl _ w).alloc _).alloc _).alloc _)
  have HSZ : Hid (w.heap.size < w.heap.size + 1 + 1) := Lib.hid (by omega)
  have HST : Hid (TurnAt W0 W0 (w.heap.size + 1 + 1) 0 0 0 0) := Lib.hid (by rw [hW0]; exact TurnAt.start (by simp))
  have HFO : Hid (Four W0 (w.heap.size + 1)) := Lib.hid (by rw [hW0]; exact (Four.new (by simp)).only ((Only.refl (fun _ => False) _).alloc _) (fun f => f))
  clear hm
  go_enter Try.func67, Try.ntmps67
  go_wp2_with fail
  rw [← hW0]
  clear hW0
  go_loopw [11] (fun i wr => (i = .int .i64 0 ∧ Hid (TurnAt W0 wr (w.heap.size + 1 + 1) 0 0 0 0)) ∨ (i = .int .i64 1 ∧ Hid (TurnAt W0 wr (w.heap.size + 1 + 1) 0 0 0 a)) ∨ (i = .int .i64 2 ∧ Hid (TurnAt W0 wr (w.heap.size + 1 + 1) b 0 0 a)) ∨ (i = .int .i64 3 ∧ Hid (TurnAt W0 wr (w.heap.size + 1 + 1) b c 0 a)) ∨ (i = .int .i64 4 ∧ Hid (TurnAt W0 wr (w.heap.size + 1 + 1) b c d a))) (fun i _ => 4 - (intOf i).toNat)
  case atStart => exact .inl ⟨rfl, HST⟩
  case round =>
    rcases hrel with ⟨rfl, HT⟩ | ⟨rfl, HT⟩ | ⟨rfl, HT⟩ | ⟨rfl, HT⟩ | ⟨rfl, HT⟩
    · obtain ⟨_, ⟨p0, p1, p2, p3⟩, f0, f1, f2, f3⟩ := HT.out
      go_wp2_with fail
      exact ⟨.inr (.inl ⟨rfl, Lib.hid (HT.out.set3 a)⟩), by simp [intOf]⟩
    · obtain ⟨_, ⟨p0, p1, p2, p3⟩, f0, f1, f2, f3⟩ := HT.out
      go_wp2_with fail
      exact ⟨.inr (.inr (.inl ⟨rfl, Lib.hid (HT.out.set0 b)⟩)), by simp [intOf]⟩
    · obtain ⟨_, ⟨p0, p1, p2, p3⟩, f0, f1, f2, f3⟩ := HT.out
      go_wp2_with fail
      exact ⟨.inr (.inr (.inr (.inl ⟨rfl, Lib.hid (HT.out.set1 c)⟩))), by simp [intOf]⟩
    · obtain ⟨_, ⟨p0, p1, p2, p3⟩, f0, f1, f2, f3⟩ := HT.out
      go_wp2_with fail
      exact ⟨.inr (.inr (.inr (.inr (⟨rfl, Lib.hid (HT.out.set2 d)⟩)))), by simp [intOf]⟩
    · obtain ⟨ho, ⟨p0, p1, p2, p3⟩, f0, f1, f2, f3⟩ := HT.out
      have HR4 := HFO.out.only ho (fun e => by omega)
      have HE := Lib.hid (HR4.set (.int .i64 b) (.int .i64 c) (.int .i64 d) (.int .i64 a))
      obtain ⟨⟨_, r0⟩, ⟨_, r1⟩, ⟨_, r2⟩, ⟨_, r3⟩, g0, g1, g2, g3⟩ := HR4
      have HF := Lib.hid (HF0.out.then ho (fun q hq e => by have := HSZ.out; omega))
      clear ho
      go_wp2_with fail
      refine bodyPost_ret (v := .agg #[.int .i64 b, .int .i64 c, .int .i64 d, .int .i64 a]) (by simp [results, Try.results67, go_sem, HE.out.1, HE.out.2.1, HE.out.2.2.1, HE.out.2.2.2.1]) rfl ⟨rfl, HF.out.then HE.out.2.2.2.2 (fun q hq e => by omega)⟩
end Go.Proofs.Ytlldecklngcklaa.rhyw
