/- Rhythms: two together; the document's answer likewise. -/
import Derived.Test.YtlldecklngcklaaRhyV
namespace Go.Proofs.Ytlldecklngcklaa.rhyw
open Go.RowKit mem fltm rhym intm bigm bigw
set_option linter.unusedVariables false

theorem TurnAt.new {w : World} {t : TypeId} {g : Nat} {x y z u : Int} (hg : g = w.heap.size) : TurnAt (w.alloc (.cells #[.int .i64 x, .int .i64 y, .int .i64 z, .int .i64 u] t)) (w.alloc (.cells #[.int .i64 x, .int .i64 y, .int .i64 z, .int .i64 u] t)) g x y z u :=
  ⟨Only.refl _ _, box4 hg (Only.refl _ _), alloc_froz _ _ _ _ _ hg, alloc_froz _ _ _ _ _ hg, alloc_froz _ _ _ _ _ hg, alloc_froz _ _ _ _ _ hg⟩
theorem TurnAt.later {W wr w' : World} {g : Nat} {x y z u : Int} (h : TurnAt W wr g x y z u) (ho : Only (fun _ => False) wr w') : TurnAt W w' g x y z u := by
  obtain ⟨h0, ⟨c0, c1, c2, c3⟩, f0, f1, f2, f3⟩ := h
  have hlt : g < wr.heap.size := World.block_lt_of_cell? wr _ c0
  exact ⟨h0.trans (ho.mono (fun _ _ f => f.elim)), ⟨ho.cell' c0 (fun f => f), ho.cell' c1 (fun f => f), ho.cell' c2 (fun f => f), ho.cell' c3 (fun f => f)⟩, (ho.frozen (p := ⟨g, 0, none⟩) hlt (fun f => f)).trans f0, (ho.frozen (p := ⟨g, 1, none⟩) hlt (fun f => f)).trans f1, (ho.frozen (p := ⟨g, 2, none⟩) hlt (fun f => f)).trans f2, (ho.frozen (p := ⟨g, 3, none⟩) hlt (fun f => f)).trans f3⟩
theorem TurnAt.first {W W' wr : World} {g : Nat} {x y z u : Int} (h : TurnAt W W g x y z u) (ho : Only (fun _ => False) W wr) : TurnAt W wr g x y z u := h.later ho

set_option maxRecDepth 100000 in
theorem join_no1 (a0 a1 a2 a3 b0 b1 b2 b3 : Int) (ha : rightB a0 a1 a2 a3 = false) (w : World) : Calls Try.prog 68 #[.agg #[.int .i64 a0, .int .i64 a1, .int .i64 a2, .int .i64 a3], .agg #[.int .i64 b0, .int .i64 b1, .int .i64 b2, .int .i64 b3]] w fun e w' => e = .returned (.tuple #[.agg #[.int .i64 0, .int .i64 0, .int .i64 0, .int .i64 0], .int .i64 1]) ∧ Only (fun _ => False) w w' := by
  obtain ⟨W0, hW0⟩ : ∃ W0, W0 = ((w.alloc (.cells #[.int .i64 a0, .int .i64 a1, .int .i64 a2, .int .i64 a3] 110)).alloc (.cells #[.int .i64 b0, .int .i64 b1, .int .i64 b2, .int .i64 b3] 110)).alloc (.cells #[.int .i64 0, .int .i64 0, .int .i64 0, .int .i64 0] 110) := ⟨_, rfl⟩
  have HF0 : Hid (Only (fun _ => False) w W0) := Lib.hid (by rw [hW0]; exact (((Only.refl _ w).alloc _).alloc _).alloc _)
  have HA : Hid (∀ w', Only (fun _ => False) W0 w' → (w'.cell? ⟨w.heap.size, 0, none⟩ = some (.int .i64 a0) ∧ w'.cell? ⟨w.heap.size, 1, none⟩ = some (.int .i64 a1) ∧ w'.cell? ⟨w.heap.size, 2, none⟩ = some (.int .i64 a2) ∧ w'.cell? ⟨w.heap.size, 3, none⟩ = some (.int .i64 a3))) := Lib.hid (fun w' ho => by rw [hW0] at ho; exact box4 rfl ((((Only.refl (fun _ => False) _).alloc _).alloc _).trans ho))
  have HB : Hid (∀ w', Only (fun q => q = w.heap.size) W0 w' → (w'.cell? ⟨w.heap.size + 1, 0, none⟩ = some (.int .i64 b0) ∧ w'.cell? ⟨w.heap.size + 1, 1, none⟩ = some (.int .i64 b1) ∧ w'.cell? ⟨w.heap.size + 1, 2, none⟩ = some (.int .i64 b2) ∧ w'.cell? ⟨w.heap.size + 1, 3, none⟩ = some (.int .i64 b3))) := Lib.hid (fun w' ho => by
    rw [hW0] at ho
    have h := box4 (w := w.alloc (.cells #[.int .i64 a0, .int .i64 a1, .int .i64 a2, .int .i64 a3] 110)) (a := b0) (b := b1) (c := b2) (d := b3) (t := 110) (g := w.heap.size + 1) (by simp) ((Only.refl (fun _ => False) _).alloc (.cells #[.int .i64 0, .int .i64 0, .int .i64 0, .int .i64 0] 110))
    exact ⟨ho.cell' h.1 (fun e => by have e' : w.heap.size + 1 = w.heap.size := e; omega), ho.cell' h.2.1 (fun e => by have e' : w.heap.size + 1 = w.heap.size := e; omega), ho.cell' h.2.2.1 (fun e => by have e' : w.heap.size + 1 = w.heap.size := e; omega), ho.cell' h.2.2.2 (fun e => by have e' : w.heap.size + 1 = w.heap.size := e; omega)⟩)
  have HFO : Hid (Four W0 (w.heap.size + 1 + 1)) := Lib.hid (by rw [hW0]; exact Four.new (by simp))
  have HT0 : Hid (TurnAt W0 W0 w.heap.size a0 a1 a2 a3) := Lib.hid (by
    rw [hW0]
    have h := (TurnAt.new (w := w) (t := 110) (g := w.heap.size) (x := a0) (y := a1) (z := a2) (u := a3) rfl).later (((Only.refl (fun _ => False) _).alloc (.cells #[.int .i64 b0, .int .i64 b1, .int .i64 b2, .int .i64 b3] 110)).alloc (.cells #[.int .i64 0, .int .i64 0, .int .i64 0, .int .i64 0] 110))
    exact ⟨Only.refl _ _, h.2⟩)
  go_enter Try.func68, Try.ntmps68
  go_wp2_with fail
  rw [← hW0]
  clear hW0
  refine (isright_any a0 a1 a2 a3 _).mono ?_
  rintro _ w1 ⟨rfl, h1⟩
  rw [ha]
  have H1 := Lib.hid h1
  clear h1
  have HR4 := HFO.out.only H1.out (fun f => f)
  have HE := Lib.hid (HR4.set (.int .i64 0) (.int .i64 0) (.int .i64 0) (.int .i64 0))
  obtain ⟨⟨_, r0⟩, ⟨_, r1⟩, ⟨_, r2⟩, ⟨_, r3⟩, g0, g1, g2, g3⟩ := HR4
  go_wp2_with fail
  refine bodyPost_ret (v := .tuple #[.agg #[.int .i64 0, .int .i64 0, .int .i64 0, .int .i64 0], .int .i64 1]) (by simp [results, Try.results68, go_sem, HE.out.1, HE.out.2.1, HE.out.2.2.1, HE.out.2.2.2.1]) rfl ⟨rfl, (HF0.out.trans H1.out).then HE.out.2.2.2.2 (fun q hq e => by omega)⟩
set_option maxRecDepth 100000 in
theorem join_no2 (a0 a1 a2 a3 b0 b1 b2 b3 : Int) (ha : rightB a0 a1 a2 a3 = true) (hb : rightB b0 b1 b2 b3 = false) (w : World) : Calls Try.prog 68 #[.agg #[.int .i64 a0, .int .i64 a1, .int .i64 a2, .int .i64 a3], .agg #[.int .i64 b0, .int .i64 b1, .int .i64 b2, .int .i64 b3]] w fun e w' => e = .returned (.tuple #[.agg #[.int .i64 0, .int .i64 0, .int .i64 0, .int .i64 0], .int .i64 1]) ∧ Only (fun _ => False) w w' := by
  obtain ⟨W0, hW0⟩ : ∃ W0, W0 = ((w.alloc (.cells #[.int .i64 a0, .int .i64 a1, .int .i64 a2, .int .i64 a3] 110)).alloc (.cells #[.int .i64 b0, .int .i64 b1, .int .i64 b2, .int .i64 b3] 110)).alloc (.cells #[.int .i64 0, .int .i64 0, .int .i64 0, .int .i64 0] 110) := ⟨_, rfl⟩
  have HF0 : Hid (Only (fun _ => False) w W0) := Lib.hid (by rw [hW0]; exact (((Only.refl _ w).alloc _).alloc _).alloc _)
  have HA : Hid (∀ w', Only (fun _ => False) W0 w' → (w'.cell? ⟨w.heap.size, 0, none⟩ = some (.int .i64 a0) ∧ w'.cell? ⟨w.heap.size, 1, none⟩ = some (.int .i64 a1) ∧ w'.cell? ⟨w.heap.size, 2, none⟩ = some (.int .i64 a2) ∧ w'.cell? ⟨w.heap.size, 3, none⟩ = some (.int .i64 a3))) := Lib.hid (fun w' ho => by rw [hW0] at ho; exact box4 rfl ((((Only.refl (fun _ => False) _).alloc _).alloc _).trans ho))
  have HB : Hid (∀ w', Only (fun q => q = w.heap.size) W0 w' → (w'.cell? ⟨w.heap.size + 1, 0, none⟩ = some (.int .i64 b0) ∧ w'.cell? ⟨w.heap.size + 1, 1, none⟩ = some (.int .i64 b1) ∧ w'.cell? ⟨w.heap.size + 1, 2, none⟩ = some (.int .i64 b2) ∧ w'.cell? ⟨w.heap.size + 1, 3, none⟩ = some (.int .i64 b3))) := Lib.hid (fun w' ho => by
    rw [hW0] at ho
    have h := box4 (w := w.alloc (.cells #[.int .i64 a0, .int .i64 a1, .int .i64 a2, .int .i64 a3] 110)) (a := b0) (b := b1) (c := b2) (d := b3) (t := 110) (g := w.heap.size + 1) (by simp) ((Only.refl (fun _ => False) _).alloc (.cells #[.int .i64 0, .int .i64 0, .int .i64 0, .int .i64 0] 110))
    exact ⟨ho.cell' h.1 (fun e => by have e' : w.heap.size + 1 = w.heap.size := e; omega), ho.cell' h.2.1 (fun e => by have e' : w.heap.size + 1 = w.heap.size := e; omega), ho.cell' h.2.2.1 (fun e => by have e' : w.heap.size + 1 = w.heap.size := e; omega), ho.cell' h.2.2.2 (fun e => by have e' : w.heap.size + 1 = w.heap.size := e; omega)⟩)
  have HFO : Hid (Four W0 (w.heap.size + 1 + 1)) := Lib.hid (by rw [hW0]; exact Four.new (by simp))
  have HT0 : Hid (TurnAt W0 W0 w.heap.size a0 a1 a2 a3) := Lib.hid (by
    rw [hW0]
    have h := (TurnAt.new (w := w) (t := 110) (g := w.heap.size) (x := a0) (y := a1) (z := a2) (u := a3) rfl).later (((Only.refl (fun _ => False) _).alloc (.cells #[.int .i64 b0, .int .i64 b1, .int .i64 b2, .int .i64 b3] 110)).alloc (.cells #[.int .i64 0, .int .i64 0, .int .i64 0, .int .i64 0] 110))
    exact ⟨Only.refl _ _, h.2⟩)
  go_enter Try.func68, Try.ntmps68
  go_wp2_with fail
  rw [← hW0]
  clear hW0
  refine (isright_any a0 a1 a2 a3 _).mono ?_
  rintro _ w1 ⟨rfl, h1⟩
  rw [ha]
  have H1 := Lib.hid h1
  clear h1
  obtain ⟨p0, p1, p2, p3⟩ := HB.out w1 (H1.out.mono (fun _ _ f => f.elim))
  go_wp2_with fail
  clear p0 p1 p2 p3
  refine (isright_any b0 b1 b2 b3 _).mono ?_
  rintro _ w2 ⟨rfl, h2⟩
  rw [hb]
  have H2 := Lib.hid (H1.out.trans h2)
  clear h2
  have HR4 := HFO.out.only H2.out (fun f => f)
  have HE := Lib.hid (HR4.set (.int .i64 0) (.int .i64 0) (.int .i64 0) (.int .i64 0))
  obtain ⟨⟨_, r0⟩, ⟨_, r1⟩, ⟨_, r2⟩, ⟨_, r3⟩, g0, g1, g2, g3⟩ := HR4
  go_wp2_with fail
  refine bodyPost_ret (v := .tuple #[.agg #[.int .i64 0, .int .i64 0, .int .i64 0, .int .i64 0], .int .i64 1]) (by simp [results, Try.results68, go_sem, HE.out.1, HE.out.2.1, HE.out.2.2.1, HE.out.2.2.2.1]) rfl ⟨rfl, (HF0.out.trans H2.out).then HE.out.2.2.2.2 (fun q hq e => by omega)⟩
set_option maxRecDepth 100000 in
theorem join_over (a0 a1 a2 a3 b0 b1 b2 b3 : Int) (ha : rightB a0 a1 a2 a3 = true) (hb : rightB b0 b1 b2 b3 = true) (hs : rightB (a0 + b0) (a1 + b1) (a2 + b2) (a3 + b3) = false) (w : World) : Calls Try.prog 68 #[.agg #[.int .i64 a0, .int .i64 a1, .int .i64 a2, .int .i64 a3], .agg #[.int .i64 b0, .int .i64 b1, .int .i64 b2, .int .i64 b3]] w fun e w' => e = .returned (.tuple #[.agg #[.int .i64 0, .int .i64 0, .int .i64 0, .int .i64 0], .int .i64 6]) ∧ Only (fun _ => False) w w' := by
  obtain ⟨⟨_, _⟩, ⟨_, _⟩, ⟨_, _⟩, ⟨_, _⟩⟩ := right_of ha
  obtain ⟨⟨_, _⟩, ⟨_, _⟩, ⟨_, _⟩, ⟨_, _⟩⟩ := right_of hb
  have i0 : ∀ w : World, (Instr.index 108 (.agg #[.int .i64 b0, .int .i64 b1, .int .i64 b2, .int .i64 b3]) (.int .i64 0)).run Try.prog w = .ok (.int .i64 b0) w := fun _ => by kernel_rfl
  have i1 : ∀ w : World, (Instr.index 108 (.agg #[.int .i64 b0, .int .i64 b1, .int .i64 b2, .int .i64 b3]) (.int .i64 1)).run Try.prog w = .ok (.int .i64 b1) w := fun _ => by kernel_rfl
  have i2 : ∀ w : World, (Instr.index 108 (.agg #[.int .i64 b0, .int .i64 b1, .int .i64 b2, .int .i64 b3]) (.int .i64 2)).run Try.prog w = .ok (.int .i64 b2) w := fun _ => by kernel_rfl
  have i3 : ∀ w : World, (Instr.index 108 (.agg #[.int .i64 b0, .int .i64 b1, .int .i64 b2, .int .i64 b3]) (.int .i64 3)).run Try.prog w = .ok (.int .i64 b3) w := fun _ => by kernel_rfl
  obtain ⟨W0, hW0⟩ : ∃ W0, W0 = ((w.alloc (.cells #[.int .i64 a0, .int .i64 a1, .int .i64 a2, .int .i64 a3] 110)).alloc (.cells #[.int .i64 b0, .int .i64 b1, .int .i64 b2, .int .i64 b3] 110)).alloc (.cells #[.int .i64 0, .int .i64 0, .int .i64 0, .int .i64 0] 110) := ⟨_, rfl⟩
  have HF0 : Hid (Only (fun _ => False) w W0) := Lib.hid (by rw [hW0]; exact (((Only.refl _ w).alloc _).alloc _).alloc _)
  have HA : Hid (∀ w', Only (fun _ => False) W0 w' → (w'.cell? ⟨w.heap.size, 0, none⟩ = some (.int .i64 a0) ∧ w'.cell? ⟨w.heap.size, 1, none⟩ = some (.int .i64 a1) ∧ w'.cell? ⟨w.heap.size, 2, none⟩ = some (.int .i64 a2) ∧ w'.cell? ⟨w.heap.size, 3, none⟩ = some (.int .i64 a3))) := Lib.hid (fun w' ho => by rw [hW0] at ho; exact box4 rfl ((((Only.refl (fun _ => False) _).alloc _).alloc _).trans ho))
  have HB : Hid (∀ w', Only (fun q => q = w.heap.size) W0 w' → (w'.cell? ⟨w.heap.size + 1, 0, none⟩ = some (.int .i64 b0) ∧ w'.cell? ⟨w.heap.size + 1, 1, none⟩ = some (.int .i64 b1) ∧ w'.cell? ⟨w.heap.size + 1, 2, none⟩ = some (.int .i64 b2) ∧ w'.cell? ⟨w.heap.size + 1, 3, none⟩ = some (.int .i64 b3))) := Lib.hid (fun w' ho => by
    rw [hW0] at ho
    have h := box4 (w := w.alloc (.cells #[.int .i64 a0, .int .i64 a1, .int .i64 a2, .int .i64 a3] 110)) (a := b0) (b := b1) (c := b2) (d := b3) (t := 110) (g := w.heap.size + 1) (by simp) ((Only.refl (fun _ => False) _).alloc (.cells #[.int .i64 0, .int .i64 0, .int .i64 0, .int .i64 0] 110))
    exact ⟨ho.cell' h.1 (fun e => by have e' : w.heap.size + 1 = w.heap.size := e; omega), ho.cell' h.2.1 (fun e => by have e' : w.heap.size + 1 = w.heap.size := e; omega), ho.cell' h.2.2.1 (fun e => by have e' : w.heap.size + 1 = w.heap.size := e; omega), ho.cell' h.2.2.2 (fun e => by have e' : w.heap.size + 1 = w.heap.size := e; omega)⟩)
  have HFO : Hid (Four W0 (w.heap.size + 1 + 1)) := Lib.hid (by rw [hW0]; exact Four.new (by simp))
  have HT0 : Hid (TurnAt W0 W0 w.heap.size a0 a1 a2 a3) := Lib.hid (by
    rw [hW0]
    have h := (TurnAt.new (w := w) (t := 110) (g := w.heap.size) (x := a0) (y := a1) (z := a2) (u := a3) rfl).later (((Only.refl (fun _ => False) _).alloc (.cells #[.int .i64 b0, .int .i64 b1, .int .i64 b2, .int .i64 b3] 110)).alloc (.cells #[.int .i64 0, .int .i64 0, .int .i64 0, .int .i64 0] 110))
    exact ⟨Only.refl _ _, h.2⟩)
  go_enter Try.func68, Try.ntmps68
  go_wp2_with fail
  rw [← hW0]
  clear hW0
  refine (isright_any a0 a1 a2 a3 _).mono ?_
  rintro _ w1 ⟨rfl, h1⟩
  rw [ha]
  have H1 := Lib.hid h1
  clear h1
  obtain ⟨p0, p1, p2, p3⟩ := HB.out w1 (H1.out.mono (fun _ _ f => f.elim))
  go_wp2_with fail
  clear p0 p1 p2 p3
  refine (isright_any b0 b1 b2 b3 _).mono ?_
  rintro _ w2 ⟨rfl, h2⟩
  rw [hb]
  have H2 := Lib.hid (H1.out.trans h2)
  clear h2
  obtain ⟨p0, p1, p2, p3⟩ := HB.out w2 (H2.out.mono (fun _ _ f => f.elim))
  go_wp2_with fail
  clear p0 p1 p2 p3

  go_loopw [19] (fun i wr => (i = .int .i64 0 ∧ Hid (TurnAt W0 wr w.heap.size a0 a1 a2 a3)) ∨ (i = .int .i64 1 ∧ Hid (TurnAt W0 wr w.heap.size (a0 + b0) a1 a2 a3)) ∨ (i = .int .i64 2 ∧ Hid (TurnAt W0 wr w.heap.size (a0 + b0) (a1 + b1) a2 a3)) ∨ (i = .int .i64 3 ∧ Hid (TurnAt W0 wr w.heap.size (a0 + b0) (a1 + b1) (a2 + b2) a3)) ∨ (i = .int .i64 4 ∧ Hid (TurnAt W0 wr w.heap.size (a0 + b0) (a1 + b1) (a2 + b2) (a3 + b3)))) (fun i _ => 4 - (intOf i).toNat)
  case atStart => exact .inl ⟨rfl, Lib.hid (HT0.out.later H2.out)⟩
  case round =>
    rcases hrel with ⟨rfl, HT⟩ | ⟨rfl, HT⟩ | ⟨rfl, HT⟩ | ⟨rfl, HT⟩ | ⟨rfl, HT⟩
    · obtain ⟨ho, ⟨p0, p1, p2, p3⟩, f0, f1, f2, f3⟩ := HT.out
      obtain ⟨q0, q1, q2, q3⟩ := HB.out wr ho
      clear ho
      go_wp2_with fail
      exact ⟨.inr (.inl ⟨rfl, Lib.hid (HT.out.set0 (a0 + b0))⟩), by simp [intOf]⟩
    · obtain ⟨ho, ⟨p0, p1, p2, p3⟩, f0, f1, f2, f3⟩ := HT.out
      obtain ⟨q0, q1, q2, q3⟩ := HB.out wr ho
      clear ho
      go_wp2_with fail
      exact ⟨.inr (.inr (.inl ⟨rfl, Lib.hid (HT.out.set1 (a1 + b1))⟩)), by simp [intOf]⟩
    · obtain ⟨ho, ⟨p0, p1, p2, p3⟩, f0, f1, f2, f3⟩ := HT.out
      obtain ⟨q0, q1, q2, q3⟩ := HB.out wr ho
      clear ho
      go_wp2_with fail
      exact ⟨.inr (.inr (.inr (.inl ⟨rfl, Lib.hid (HT.out.set2 (a2 + b2))⟩))), by simp [intOf]⟩
    · obtain ⟨ho, ⟨p0, p1, p2, p3⟩, f0, f1, f2, f3⟩ := HT.out
      obtain ⟨q0, q1, q2, q3⟩ := HB.out wr ho
      clear ho
      go_wp2_with fail
      exact ⟨.inr (.inr (.inr (.inr (⟨rfl, Lib.hid (HT.out.set3 (a3 + b3))⟩)))), by simp [intOf]⟩
    · obtain ⟨ho, ⟨p0, p1, p2, p3⟩, f0, f1, f2, f3⟩ := HT.out
      have HO := Lib.hid ho
      clear ho
      go_wp2_with fail
      refine (isright_any (a0 + b0) (a1 + b1) (a2 + b2) (a3 + b3) _).mono ?_
      rintro _ w3 ⟨rfl, h3⟩
      rw [hs]
      have HO3 : Hid (Only (fun q => q = w.heap.size) W0 w3) := Lib.hid (HO.out.then h3 (fun q hq e => e.elim))
      obtain ⟨_, ⟨q0, q1, q2, q3⟩, _⟩ := HT.out.later h3
      clear h3 p0 p1 p2 p3 f0 f1 f2 f3
      have HR4 := HFO.out.only HO3.out (fun e => by have e' : w.heap.size + 1 + 1 = w.heap.size := e; omega)
      have HE := Lib.hid (HR4.set (.int .i64 0) (.int .i64 0) (.int .i64 0) (.int .i64 0))
      obtain ⟨⟨_, r0⟩, ⟨_, r1⟩, ⟨_, r2⟩, ⟨_, r3⟩, g0, g1, g2, g3⟩ := HR4
      go_wp2_with fail
      refine bodyPost_ret (v := .tuple #[.agg #[.int .i64 0, .int .i64 0, .int .i64 0, .int .i64 0], .int .i64 6]) (by simp [results, Try.results68, go_sem, HE.out.1, HE.out.2.1, HE.out.2.2.1, HE.out.2.2.2.1]) rfl ⟨rfl, (HF0.out.then HO3.out (fun q hq e => by have e' : q = w.heap.size := e; omega)).then HE.out.2.2.2.2 (fun q hq e => by omega)⟩
set_option maxRecDepth 100000 in
theorem join_ok (a0 a1 a2 a3 b0 b1 b2 b3 : Int) (ha : rightB a0 a1 a2 a3 = true) (hb : rightB b0 b1 b2 b3 = true) (hs : rightB (a0 + b0) (a1 + b1) (a2 + b2) (a3 + b3) = true) (w : World) : Calls Try.prog 68 #[.agg #[.int .i64 a0, .int .i64 a1, .int .i64 a2, .int .i64 a3], .agg #[.int .i64 b0, .int .i64 b1, .int .i64 b2, .int .i64 b3]] w fun e w' => e = .returned (.tuple #[.agg #[.int .i64 (a0 + b0), .int .i64 (a1 + b1), .int .i64 (a2 + b2), .int .i64 (a3 + b3)], .int .i64 0]) ∧ Only (fun _ => False) w w' := by
  obtain ⟨⟨_, _⟩, ⟨_, _⟩, ⟨_, _⟩, ⟨_, _⟩⟩ := right_of ha
  obtain ⟨⟨_, _⟩, ⟨_, _⟩, ⟨_, _⟩, ⟨_, _⟩⟩ := right_of hb
  have i0 : ∀ w : World, (Instr.index 108 (.agg #[.int .i64 b0, .int .i64 b1, .int .i64 b2, .int .i64 b3]) (.int .i64 0)).run Try.prog w = .ok (.int .i64 b0) w := fun _ => by kernel_rfl
  have i1 : ∀ w : World, (Instr.index 108 (.agg #[.int .i64 b0, .int .i64 b1, .int .i64 b2, .int .i64 b3]) (.int .i64 1)).run Try.prog w = .ok (.int .i64 b1) w := fun _ => by kernel_rfl
  have i2 : ∀ w : World, (Instr.index 108 (.agg #[.int .i64 b0, .int .i64 b1, .int .i64 b2, .int .i64 b3]) (.int .i64 2)).run Try.prog w = .ok (.int .i64 b2) w := fun _ => by kernel_rfl
  have i3 : ∀ w : World, (Instr.index 108 (.agg #[.int .i64 b0, .int .i64 b1, .int .i64 b2, .int .i64 b3]) (.int .i64 3)).run Try.prog w = .ok (.int .i64 b3) w := fun _ => by kernel_rfl
  obtain ⟨W0, hW0⟩ : ∃ W0, W0 = ((w.alloc (.cells #[.int .i64 a0, .int .i64 a1, .int .i64 a2, .int .i64 a3] 110)).alloc (.cells #[.int .i64 b0, .int .i64 b1, .int .i64 b2, .int .i64 b3] 110)).alloc (.cells #[.int .i64 0, .int .i64 0, .int .i64 0, .int .i64 0] 110) := ⟨_, rfl⟩
  have HF0 : Hid (Only (fun _ => False) w W0) := Lib.hid (by rw [hW0]; exact (((Only.refl _ w).alloc _).alloc _).alloc _)
  have HA : Hid (∀ w', Only (fun _ => False) W0 w' → (w'.cell? ⟨w.heap.size, 0, none⟩ = some (.int .i64 a0) ∧ w'.cell? ⟨w.heap.size, 1, none⟩ = some (.int .i64 a1) ∧ w'.cell? ⟨w.heap.size, 2, none⟩ = some (.int .i64 a2) ∧ w'.cell? ⟨w.heap.size, 3, none⟩ = some (.int .i64 a3))) := Lib.hid (fun w' ho => by rw [hW0] at ho; exact box4 rfl ((((Only.refl (fun _ => False) _).alloc _).alloc _).trans ho))
  have HB : Hid (∀ w', Only (fun q => q = w.heap.size) W0 w' → (w'.cell? ⟨w.heap.size + 1, 0, none⟩ = some (.int .i64 b0) ∧ w'.cell? ⟨w.heap.size + 1, 1, none⟩ = some (.int .i64 b1) ∧ w'.cell? ⟨w.heap.size + 1, 2, none⟩ = some (.int .i64 b2) ∧ w'.cell? ⟨w.heap.size + 1, 3, none⟩ = some (.int .i64 b3))) := Lib.hid (fun w' ho => by
    rw [hW0] at ho
    have h := box4 (w := w.alloc (.cells #[.int .i64 a0, .int .i64 a1, .int .i64 a2, .int .i64 a3] 110)) (a := b0) (b := b1) (c := b2) (d := b3) (t := 110) (g := w.heap.size + 1) (by simp) ((Only.refl (fun _ => False) _).alloc (.cells #[.int .i64 0, .int .i64 0, .int .i64 0, .int .i64 0] 110))
    exact ⟨ho.cell' h.1 (fun e => by have e' : w.heap.size + 1 = w.heap.size := e; omega), ho.cell' h.2.1 (fun e => by have e' : w.heap.size + 1 = w.heap.size := e; omega), ho.cell' h.2.2.1 (fun e => by have e' : w.heap.size + 1 = w.heap.size := e; omega), ho.cell' h.2.2.2 (fun e => by have e' : w.heap.size + 1 = w.heap.size := e; omega)⟩)
  have HFO : Hid (Four W0 (w.heap.size + 1 + 1)) := Lib.hid (by rw [hW0]; exact Four.new (by simp))
  have HT0 : Hid (TurnAt W0 W0 w.heap.size a0 a1 a2 a3) := Lib.hid (by
    rw [hW0]
    have h := (TurnAt.new (w := w) (t := 110) (g := w.heap.size) (x := a0) (y := a1) (z := a2) (u := a3) rfl).later (((Only.refl (fun _ => False) _).alloc (.cells #[.int .i64 b0, .int .i64 b1, .int .i64 b2, .int .i64 b3] 110)).alloc (.cells #[.int .i64 0, .int .i64 0, .int .i64 0, .int .i64 0] 110))
    exact ⟨Only.refl _ _, h.2⟩)
  go_enter Try.func68, Try.ntmps68
  go_wp2_with fail
  rw [← hW0]
  clear hW0
  refine (isright_any a0 a1 a2 a3 _).mono ?_
  rintro _ w1 ⟨rfl, h1⟩
  rw [ha]
  have H1 := Lib.hid h1
  clear h1
  obtain ⟨p0, p1, p2, p3⟩ := HB.out w1 (H1.out.mono (fun _ _ f => f.elim))
  go_wp2_with fail
  clear p0 p1 p2 p3
  refine (isright_any b0 b1 b2 b3 _).mono ?_
  rintro _ w2 ⟨rfl, h2⟩
  rw [hb]
  have H2 := Lib.hid (H1.out.trans h2)
  clear h2
  obtain ⟨p0, p1, p2, p3⟩ := HB.out w2 (H2.out.mono (fun _ _ f => f.elim))
  go_wp2_with fail
  clear p0 p1 p2 p3

  go_loopw [19] (fun i wr => (i = .int .i64 0 ∧ Hid (TurnAt W0 wr w.heap.size a0 a1 a2 a3)) ∨ (i = .int .i64 1 ∧ Hid (TurnAt W0 wr w.heap.size (a0 + b0) a1 a2 a3)) ∨ (i = .int .i64 2 ∧ Hid (TurnAt W0 wr w.heap.size (a0 + b0) (a1 + b1) a2 a3)) ∨ (i = .int .i64 3 ∧ Hid (TurnAt W0 wr w.heap.size (a0 + b0) (a1 + b1) (a2 + b2) a3)) ∨ (i = .int .i64 4 ∧ Hid (TurnAt W0 wr w.heap.size (a0 + b0) (a1 + b1) (a2 + b2) (a3 + b3)))) (fun i _ => 4 - (intOf i).toNat)
  case atStart => exact .inl ⟨rfl, Lib.hid (HT0.out.later H2.out)⟩
  case round =>
    rcases hrel with ⟨rfl, HT⟩ | ⟨rfl, HT⟩ | ⟨rfl, HT⟩ | ⟨rfl, HT⟩ | ⟨rfl, HT⟩
    · obtain ⟨ho, ⟨p0, p1, p2, p3⟩, f0, f1, f2, f3⟩ := HT.out
      obtain ⟨q0, q1, q2, q3⟩ := HB.out wr ho
      clear ho
      go_wp2_with fail
      exact ⟨.inr (.inl ⟨rfl, Lib.hid (HT.out.set0 (a0 + b0))⟩), by simp [intOf]⟩
    · obtain ⟨ho, ⟨p0, p1, p2, p3⟩, f0, f1, f2, f3⟩ := HT.out
      obtain ⟨q0, q1, q2, q3⟩ := HB.out wr ho
      clear ho
      go_wp2_with fail
      exact ⟨.inr (.inr (.inl ⟨rfl, Lib.hid (HT.out.set1 (a1 + b1))⟩)), by simp [intOf]⟩
    · obtain ⟨ho, ⟨p0, p1, p2, p3⟩, f0, f1, f2, f3⟩ := HT.out
      obtain ⟨q0, q1, q2, q3⟩ := HB.out wr ho
      clear ho
      go_wp2_with fail
      exact ⟨.inr (.inr (.inr (.inl ⟨rfl, Lib.hid (HT.out.set2 (a2 + b2))⟩))), by simp [intOf]⟩
    · obtain ⟨ho, ⟨p0, p1, p2, p3⟩, f0, f1, f2, f3⟩ := HT.out
      obtain ⟨q0, q1, q2, q3⟩ := HB.out wr ho
      clear ho
      go_wp2_with fail
      exact ⟨.inr (.inr (.inr (.inr (⟨rfl, Lib.hid (HT.out.set3 (a3 + b3))⟩)))), by simp [intOf]⟩
    · obtain ⟨ho, ⟨p0, p1, p2, p3⟩, f0, f1, f2, f3⟩ := HT.out
      have HO := Lib.hid ho
      clear ho
      go_wp2_with fail
      refine (isright_any (a0 + b0) (a1 + b1) (a2 + b2) (a3 + b3) _).mono ?_
      rintro _ w3 ⟨rfl, h3⟩
      rw [hs]
      have HO3 : Hid (Only (fun q => q = w.heap.size) W0 w3) := Lib.hid (HO.out.then h3 (fun q hq e => e.elim))
      obtain ⟨_, ⟨q0, q1, q2, q3⟩, _⟩ := HT.out.later h3
      clear h3 p0 p1 p2 p3 f0 f1 f2 f3
      have HR4 := HFO.out.only HO3.out (fun e => by have e' : w.heap.size + 1 + 1 = w.heap.size := e; omega)
      have HE := Lib.hid (HR4.set (.int .i64 (a0 + b0)) (.int .i64 (a1 + b1)) (.int .i64 (a2 + b2)) (.int .i64 (a3 + b3)))
      obtain ⟨⟨_, r0⟩, ⟨_, r1⟩, ⟨_, r2⟩, ⟨_, r3⟩, g0, g1, g2, g3⟩ := HR4
      go_wp2_with fail
      refine bodyPost_ret (v := .tuple #[.agg #[.int .i64 (a0 + b0), .int .i64 (a1 + b1), .int .i64 (a2 + b2), .int .i64 (a3 + b3)], .int .i64 0]) (by simp [results, Try.results68, go_sem, HE.out.1, HE.out.2.1, HE.out.2.2.1, HE.out.2.2.2.1]) rfl ⟨rfl, (HF0.out.then HO3.out (fun q hq e => by have e' : q = w.heap.size := e; omega)).then HE.out.2.2.2.2 (fun q hq e => by omega)⟩
set_option maxRecDepth 100000 in
theorem rjoin_no1 (a0 a1 a2 a3 b0 b1 b2 b3 : Int) (ha : rightB a0 a1 a2 a3 = false) (w : World) : Calls Try.prog 69 #[.agg #[.int .i64 a0, .int .i64 a1, .int .i64 a2, .int .i64 a3], .agg #[.int .i64 b0, .int .i64 b1, .int .i64 b2, .int .i64 b3]] w fun e w' => e = .returned (.tuple #[.agg #[.int .i64 0, .int .i64 0, .int .i64 0, .int .i64 0], .int .i64 1]) ∧ Only (fun _ => False) w w' := by
  obtain ⟨W0, hW0⟩ : ∃ W0, W0 = ((w.alloc (.cells #[.int .i64 a0, .int .i64 a1, .int .i64 a2, .int .i64 a3] 108)).alloc (.cells #[.int .i64 b0, .int .i64 b1, .int .i64 b2, .int .i64 b3] 108)).alloc (.cells #[.int .i64 0, .int .i64 0, .int .i64 0, .int .i64 0] 108) := ⟨_, rfl⟩
  have HF0 : Hid (Only (fun _ => False) w W0) := Lib.hid (by rw [hW0]; exact (((Only.refl _ w).alloc _).alloc _).alloc _)
  have HA : Hid (∀ w', Only (fun _ => False) W0 w' → (w'.cell? ⟨w.heap.size, 0, none⟩ = some (.int .i64 a0) ∧ w'.cell? ⟨w.heap.size, 1, none⟩ = some (.int .i64 a1) ∧ w'.cell? ⟨w.heap.size, 2, none⟩ = some (.int .i64 a2) ∧ w'.cell? ⟨w.heap.size, 3, none⟩ = some (.int .i64 a3))) := Lib.hid (fun w' ho => by rw [hW0] at ho; exact box4 rfl ((((Only.refl (fun _ => False) _).alloc _).alloc _).trans ho))
  have HB : Hid (∀ w', Only (fun q => q = w.heap.size) W0 w' → (w'.cell? ⟨w.heap.size + 1, 0, none⟩ = some (.int .i64 b0) ∧ w'.cell? ⟨w.heap.size + 1, 1, none⟩ = some (.int .i64 b1) ∧ w'.cell? ⟨w.heap.size + 1, 2, none⟩ = some (.int .i64 b2) ∧ w'.cell? ⟨w.heap.size + 1, 3, none⟩ = some (.int .i64 b3))) := Lib.hid (fun w' ho => by
    rw [hW0] at ho
    have h := box4 (w := w.alloc (.cells #[.int .i64 a0, .int .i64 a1, .int .i64 a2, .int .i64 a3] 108)) (a := b0) (b := b1) (c := b2) (d := b3) (t := 108) (g := w.heap.size + 1) (by simp) ((Only.refl (fun _ => False) _).alloc (.cells #[.int .i64 0, .int .i64 0, .int .i64 0, .int .i64 0] 108))
    exact ⟨ho.cell' h.1 (fun e => by have e' : w.heap.size + 1 = w.heap.size := e; omega), ho.cell' h.2.1 (fun e => by have e' : w.heap.size + 1 = w.heap.size := e; omega), ho.cell' h.2.2.1 (fun e => by have e' : w.heap.size + 1 = w.heap.size := e; omega), ho.cell' h.2.2.2 (fun e => by have e' : w.heap.size + 1 = w.heap.size := e; omega)⟩)
  have HFO : Hid (Four W0 (w.heap.size + 1 + 1)) := Lib.hid (by rw [hW0]; exact Four.new (by simp))
  have HT0 : Hid (TurnAt W0 W0 w.heap.size a0 a1 a2 a3) := Lib.hid (by
    rw [hW0]
    have h := (TurnAt.new (w := w) (t := 108) (g := w.heap.size) (x := a0) (y := a1) (z := a2) (u := a3) rfl).later (((Only.refl (fun _ => False) _).alloc (.cells #[.int .i64 b0, .int .i64 b1, .int .i64 b2, .int .i64 b3] 108)).alloc (.cells #[.int .i64 0, .int .i64 0, .int .i64 0, .int .i64 0] 108))
    exact ⟨Only.refl _ _, h.2⟩)
  go_enter Try.func69, Try.ntmps69
  go_wp2_with fail
  rw [← hW0]
  clear hW0
  refine (rright_any a0 a1 a2 a3 _).mono ?_
  rintro _ w1 ⟨rfl, h1⟩
  rw [ha]
  have H1 := Lib.hid h1
  clear h1
  have HR4 := HFO.out.only H1.out (fun f => f)
  have HE := Lib.hid (HR4.set (.int .i64 0) (.int .i64 0) (.int .i64 0) (.int .i64 0))
  obtain ⟨⟨_, r0⟩, ⟨_, r1⟩, ⟨_, r2⟩, ⟨_, r3⟩, g0, g1, g2, g3⟩ := HR4
  go_wp2_with fail
  refine bodyPost_ret (v := .tuple #[.agg #[.int .i64 0, .int .i64 0, .int .i64 0, .int .i64 0], .int .i64 1]) (by simp [results, Try.results69, go_sem, HE.out.1, HE.out.2.1, HE.out.2.2.1, HE.out.2.2.2.1]) rfl ⟨rfl, (HF0.out.trans H1.out).then HE.out.2.2.2.2 (fun q hq e => by omega)⟩
set_option maxRecDepth 100000 in
theorem rjoin_no2 (a0 a1 a2 a3 b0 b1 b2 b3 : Int) (ha : rightB a0 a1 a2 a3 = true) (hb : rightB b0 b1 b2 b3 = false) (w : World) : Calls Try.prog 69 #[.agg #[.int .i64 a0, .int .i64 a1, .int .i64 a2, .int .i64 a3], .agg #[.int .i64 b0, .int .i64 b1, .int .i64 b2, .int .i64 b3]] w fun e w' => e = .returned (.tuple #[.agg #[.int .i64 0, .int .i64 0, .int .i64 0, .int .i64 0], .int .i64 1]) ∧ Only (fun _ => False) w w' := by
  obtain ⟨W0, hW0⟩ : ∃ W0, W0 = ((w.alloc (.cells #[.int .i64 a0, .int .i64 a1, .int .i64 a2, .int .i64 a3] 108)).alloc (.cells #[.int .i64 b0, .int .i64 b1, .int .i64 b2, .int .i64 b3] 108)).alloc (.cells #[.int .i64 0, .int .i64 0, .int .i64 0, .int .i64 0] 108) := ⟨_, rfl⟩
  have HF0 : Hid (Only (fun _ => False) w W0) := Lib.hid (by rw [hW0]; exact (((Only.refl _ w).alloc _).alloc _).alloc _)
  have HA : Hid (∀ w', Only (fun _ => False) W0 w' → (w'.cell? ⟨w.heap.size, 0, none⟩ = some (.int .i64 a0) ∧ w'.cell? ⟨w.heap.size, 1, none⟩ = some (.int .i64 a1) ∧ w'.cell? ⟨w.heap.size, 2, none⟩ = some (.int .i64 a2) ∧ w'.cell? ⟨w.heap.size, 3, none⟩ = some (.int .i64 a3))) := Lib.hid (fun w' ho => by rw [hW0] at ho; exact box4 rfl ((((Only.refl (fun _ => False) _).alloc _).alloc _).trans ho))
  have HB : Hid (∀ w', Only (fun q => q = w.heap.size) W0 w' → (w'.cell? ⟨w.heap.size + 1, 0, none⟩ = some (.int .i64 b0) ∧ w'.cell? ⟨w.heap.size + 1, 1, none⟩ = some (.int .i64 b1) ∧ w'.cell? ⟨w.heap.size + 1, 2, none⟩ = some (.int .i64 b2) ∧ w'.cell? ⟨w.heap.size + 1, 3, none⟩ = some (.int .i64 b3))) := Lib.hid (fun w' ho => by
    rw [hW0] at ho
    have h := box4 (w := w.alloc (.cells #[.int .i64 a0, .int .i64 a1, .int .i64 a2, .int .i64 a3] 108)) (a := b0) (b := b1) (c := b2) (d := b3) (t := 108) (g := w.heap.size + 1) (by simp) ((Only.refl (fun _ => False) _).alloc (.cells #[.int .i64 0, .int .i64 0, .int .i64 0, .int .i64 0] 108))
    exact ⟨ho.cell' h.1 (fun e => by have e' : w.heap.size + 1 = w.heap.size := e; omega), ho.cell' h.2.1 (fun e => by have e' : w.heap.size + 1 = w.heap.size := e; omega), ho.cell' h.2.2.1 (fun e => by have e' : w.heap.size + 1 = w.heap.size := e; omega), ho.cell' h.2.2.2 (fun e => by have e' : w.heap.size + 1 = w.heap.size := e; omega)⟩)
  have HFO : Hid (Four W0 (w.heap.size + 1 + 1)) := Lib.hid (by rw [hW0]; exact Four.new (by simp))
  have HT0 : Hid (TurnAt W0 W0 w.heap.size a0 a1 a2 a3) := Lib.hid (by
    rw [hW0]
    have h := (TurnAt.new (w := w) (t := 108) (g := w.heap.size) (x := a0) (y := a1) (z := a2) (u := a3) rfl).later (((Only.refl (fun _ => False) _).alloc (.cells #[.int .i64 b0, .int .i64 b1, .int .i64 b2, .int .i64 b3] 108)).alloc (.cells #[.int .i64 0, .int .i64 0, .int .i64 0, .int .i64 0] 108))
    exact ⟨Only.refl _ _, h.2⟩)
  go_enter Try.func69, Try.ntmps69
  go_wp2_with fail
  rw [← hW0]
  clear hW0
  refine (rright_any a0 a1 a2 a3 _).mono ?_
  rintro _ w1 ⟨rfl, h1⟩
  rw [ha]
  have H1 := Lib.hid h1
  clear h1
  obtain ⟨p0, p1, p2, p3⟩ := HB.out w1 (H1.out.mono (fun _ _ f => f.elim))
  go_wp2_with fail
  clear p0 p1 p2 p3
  refine (rright_any b0 b1 b2 b3 _).mono ?_
  rintro _ w2 ⟨rfl, h2⟩
  rw [hb]
  have H2 := Lib.hid (H1.out.trans h2)
  clear h2
  have HR4 := HFO.out.only H2.out (fun f => f)
  have HE := Lib.hid (HR4.set (.int .i64 0) (.int .i64 0) (.int .i64 0) (.int .i64 0))
  obtain ⟨⟨_, r0⟩, ⟨_, r1⟩, ⟨_, r2⟩, ⟨_, r3⟩, g0, g1, g2, g3⟩ := HR4
  go_wp2_with fail
  refine bodyPost_ret (v := .tuple #[.agg #[.int .i64 0, .int .i64 0, .int .i64 0, .int .i64 0], .int .i64 1]) (by simp [results, Try.results69, go_sem, HE.out.1, HE.out.2.1, HE.out.2.2.1, HE.out.2.2.2.1]) rfl ⟨rfl, (HF0.out.trans H2.out).then HE.out.2.2.2.2 (fun q hq e => by omega)⟩
set_option maxRecDepth 100000 in
theorem rjoin_over (a0 a1 a2 a3 b0 b1 b2 b3 : Int) (ha : rightB a0 a1 a2 a3 = true) (hb : rightB b0 b1 b2 b3 = true) (hs : rightB (a0 + b0) (a1 + b1) (a2 + b2) (a3 + b3) = false) (w : World) : Calls Try.prog 69 #[.agg #[.int .i64 a0, .int .i64 a1, .int .i64 a2, .int .i64 a3], .agg #[.int .i64 b0, .int .i64 b1, .int .i64 b2, .int .i64 b3]] w fun e w' => e = .returned (.tuple #[.agg #[.int .i64 0, .int .i64 0, .int .i64 0, .int .i64 0], .int .i64 6]) ∧ Only (fun _ => False) w w' := by
  obtain ⟨⟨_, _⟩, ⟨_, _⟩, ⟨_, _⟩, ⟨_, _⟩⟩ := right_of ha
  obtain ⟨⟨_, _⟩, ⟨_, _⟩, ⟨_, _⟩, ⟨_, _⟩⟩ := right_of hb
  obtain ⟨W0, hW0⟩ : ∃ W0, W0 = ((w.alloc (.cells #[.int .i64 a0, .int .i64 a1, .int .i64 a2, .int .i64 a3] 108)).alloc (.cells #[.int .i64 b0, .int .i64 b1, .int .i64 b2, .int .i64 b3] 108)).alloc (.cells #[.int .i64 0, .int .i64 0, .int .i64 0, .int .i64 0] 108) := ⟨_, rfl⟩
  have HF0 : Hid (Only (fun _ => False) w W0) := Lib.hid (by rw [hW0]; exact (((Only.refl _ w).alloc _).alloc _).alloc _)
  have HA : Hid (∀ w', Only (fun _ => False) W0 w' → (w'.cell? ⟨w.heap.size, 0, none⟩ = some (.int .i64 a0) ∧ w'.cell? ⟨w.heap.size, 1, none⟩ = some (.int .i64 a1) ∧ w'.cell? ⟨w.heap.size, 2, none⟩ = some (.int .i64 a2) ∧ w'.cell? ⟨w.heap.size, 3, none⟩ = some (.int .i64 a3))) := Lib.hid (fun w' ho => by rw [hW0] at ho; exact box4 rfl ((((Only.refl (fun _ => False) _).alloc _).alloc _).trans ho))
  have HB : Hid (∀ w', Only (fun q => q = w.heap.size) W0 w' → (w'.cell? ⟨w.heap.size + 1, 0, none⟩ = some (.int .i64 b0) ∧ w'.cell? ⟨w.heap.size + 1, 1, none⟩ = some (.int .i64 b1) ∧ w'.cell? ⟨w.heap.size + 1, 2, none⟩ = some (.int .i64 b2) ∧ w'.cell? ⟨w.heap.size + 1, 3, none⟩ = some (.int .i64 b3))) := Lib.hid (fun w' ho => by
    rw [hW0] at ho
    have h := box4 (w := w.alloc (.cells #[.int .i64 a0, .int .i64 a1, .int .i64 a2, .int .i64 a3] 108)) (a := b0) (b := b1) (c := b2) (d := b3) (t := 108) (g := w.heap.size + 1) (by simp) ((Only.refl (fun _ => False) _).alloc (.cells #[.int .i64 0, .int .i64 0, .int .i64 0, .int .i64 0] 108))
    exact ⟨ho.cell' h.1 (fun e => by have e' : w.heap.size + 1 = w.heap.size := e; omega), ho.cell' h.2.1 (fun e => by have e' : w.heap.size + 1 = w.heap.size := e; omega), ho.cell' h.2.2.1 (fun e => by have e' : w.heap.size + 1 = w.heap.size := e; omega), ho.cell' h.2.2.2 (fun e => by have e' : w.heap.size + 1 = w.heap.size := e; omega)⟩)
  have HFO : Hid (Four W0 (w.heap.size + 1 + 1)) := Lib.hid (by rw [hW0]; exact Four.new (by simp))
  have HT0 : Hid (TurnAt W0 W0 w.heap.size a0 a1 a2 a3) := Lib.hid (by
    rw [hW0]
    have h := (TurnAt.new (w := w) (t := 108) (g := w.heap.size) (x := a0) (y := a1) (z := a2) (u := a3) rfl).later (((Only.refl (fun _ => False) _).alloc (.cells #[.int .i64 b0, .int .i64 b1, .int .i64 b2, .int .i64 b3] 108)).alloc (.cells #[.int .i64 0, .int .i64 0, .int .i64 0, .int .i64 0] 108))
    exact ⟨Only.refl _ _, h.2⟩)
  go_enter Try.func69, Try.ntmps69
  go_wp2_with fail
  rw [← hW0]
  clear hW0
  refine (rright_any a0 a1 a2 a3 _).mono ?_
  rintro _ w1 ⟨rfl, h1⟩
  rw [ha]
  have H1 := Lib.hid h1
  clear h1
  obtain ⟨p0, p1, p2, p3⟩ := HB.out w1 (H1.out.mono (fun _ _ f => f.elim))
  go_wp2_with fail
  clear p0 p1 p2 p3
  refine (rright_any b0 b1 b2 b3 _).mono ?_
  rintro _ w2 ⟨rfl, h2⟩
  rw [hb]
  have H2 := Lib.hid (H1.out.trans h2)
  clear h2
  obtain ⟨p0, p1, p2, p3⟩ := HB.out w2 (H2.out.mono (fun _ _ f => f.elim))
  go_wp2_with fail
  clear p0 p1 p2 p3

  go_loopw [6] (fun i wr => (i = .int .i64 0 ∧ Hid (TurnAt W0 wr w.heap.size a0 a1 a2 a3)) ∨ (i = .int .i64 1 ∧ Hid (TurnAt W0 wr w.heap.size (a0 + b0) a1 a2 a3)) ∨ (i = .int .i64 2 ∧ Hid (TurnAt W0 wr w.heap.size (a0 + b0) (a1 + b1) a2 a3)) ∨ (i = .int .i64 3 ∧ Hid (TurnAt W0 wr w.heap.size (a0 + b0) (a1 + b1) (a2 + b2) a3)) ∨ (i = .int .i64 4 ∧ Hid (TurnAt W0 wr w.heap.size (a0 + b0) (a1 + b1) (a2 + b2) (a3 + b3)))) (fun i _ => 4 - (intOf i).toNat)
  case atStart => exact .inl ⟨rfl, Lib.hid (HT0.out.later H2.out)⟩
  case round =>
    rcases hrel with ⟨rfl, HT⟩ | ⟨rfl, HT⟩ | ⟨rfl, HT⟩ | ⟨rfl, HT⟩ | ⟨rfl, HT⟩
    · obtain ⟨ho, ⟨p0, p1, p2, p3⟩, f0, f1, f2, f3⟩ := HT.out
      obtain ⟨q0, q1, q2, q3⟩ := HB.out wr ho
      clear ho
      go_wp2_with fail
      go_region
      all_goals (go_wp2_with fail; first | exact ⟨.inr (.inl ⟨rfl, Lib.hid ((HT.out.later ((Only.refl _ _).drew)).set0 (a0 + b0))⟩), by simp [intOf]⟩ | exact ⟨.inr (.inl ⟨rfl, Lib.hid ((HT.out.set0 (a0 + b0)).later ((Only.refl _ _).drew))⟩), by simp [intOf]⟩)
    · obtain ⟨ho, ⟨p0, p1, p2, p3⟩, f0, f1, f2, f3⟩ := HT.out
      obtain ⟨q0, q1, q2, q3⟩ := HB.out wr ho
      clear ho
      go_wp2_with fail
      go_region
      all_goals (go_wp2_with fail; first | exact ⟨.inr (.inr (.inl ⟨rfl, Lib.hid ((HT.out.later ((Only.refl _ _).drew)).set1 (a1 + b1))⟩)), by simp [intOf]⟩ | exact ⟨.inr (.inr (.inl ⟨rfl, Lib.hid ((HT.out.set1 (a1 + b1)).later ((Only.refl _ _).drew))⟩)), by simp [intOf]⟩)
    · obtain ⟨ho, ⟨p0, p1, p2, p3⟩, f0, f1, f2, f3⟩ := HT.out
      obtain ⟨q0, q1, q2, q3⟩ := HB.out wr ho
      clear ho
      go_wp2_with fail
      go_region
      all_goals (go_wp2_with fail; first | exact ⟨.inr (.inr (.inr (.inl ⟨rfl, Lib.hid ((HT.out.later ((Only.refl _ _).drew)).set2 (a2 + b2))⟩))), by simp [intOf]⟩ | exact ⟨.inr (.inr (.inr (.inl ⟨rfl, Lib.hid ((HT.out.set2 (a2 + b2)).later ((Only.refl _ _).drew))⟩))), by simp [intOf]⟩)
    · obtain ⟨ho, ⟨p0, p1, p2, p3⟩, f0, f1, f2, f3⟩ := HT.out
      obtain ⟨q0, q1, q2, q3⟩ := HB.out wr ho
      clear ho
      go_wp2_with fail
      go_region
      all_goals (go_wp2_with fail; first | exact ⟨.inr (.inr (.inr (.inr (⟨rfl, Lib.hid ((HT.out.later ((Only.refl _ _).drew)).set3 (a3 + b3))⟩)))), by simp [intOf]⟩ | exact ⟨.inr (.inr (.inr (.inr (⟨rfl, Lib.hid ((HT.out.set3 (a3 + b3)).later ((Only.refl _ _).drew))⟩)))), by simp [intOf]⟩)
    · obtain ⟨ho, ⟨p0, p1, p2, p3⟩, f0, f1, f2, f3⟩ := HT.out
      have HO := Lib.hid ho
      clear ho
      go_wp2_with fail
      refine (rright_any (a0 + b0) (a1 + b1) (a2 + b2) (a3 + b3) _).mono ?_
      rintro _ w3 ⟨rfl, h3⟩
      rw [hs]
      have HO3 : Hid (Only (fun q => q = w.heap.size) W0 w3) := Lib.hid (HO.out.then h3 (fun q hq e => e.elim))
      obtain ⟨_, ⟨q0, q1, q2, q3⟩, _⟩ := HT.out.later h3
      clear h3 p0 p1 p2 p3 f0 f1 f2 f3
      have HR4 := HFO.out.only HO3.out (fun e => by have e' : w.heap.size + 1 + 1 = w.heap.size := e; omega)
      have HE := Lib.hid (HR4.set (.int .i64 0) (.int .i64 0) (.int .i64 0) (.int .i64 0))
      obtain ⟨⟨_, r0⟩, ⟨_, r1⟩, ⟨_, r2⟩, ⟨_, r3⟩, g0, g1, g2, g3⟩ := HR4
      go_wp2_with fail
      refine bodyPost_ret (v := .tuple #[.agg #[.int .i64 0, .int .i64 0, .int .i64 0, .int .i64 0], .int .i64 6]) (by simp [results, Try.results69, go_sem, HE.out.1, HE.out.2.1, HE.out.2.2.1, HE.out.2.2.2.1]) rfl ⟨rfl, (HF0.out.then HO3.out (fun q hq e => by have e' : q = w.heap.size := e; omega)).then HE.out.2.2.2.2 (fun q hq e => by omega)⟩
set_option maxRecDepth 100000 in
theorem rjoin_ok (a0 a1 a2 a3 b0 b1 b2 b3 : Int) (ha : rightB a0 a1 a2 a3 = true) (hb : rightB b0 b1 b2 b3 = true) (hs : rightB (a0 + b0) (a1 + b1) (a2 + b2) (a3 + b3) = true) (w : World) : Calls Try.prog 69 #[.agg #[.int .i64 a0, .int .i64 a1, .int .i64 a2, .int .i64 a3], .agg #[.int .i64 b0, .int .i64 b1, .int .i64 b2, .int .i64 b3]] w fun e w' => e = .returned (.tuple #[.agg #[.int .i64 (a0 + b0), .int .i64 (a1 + b1), .int .i64 (a2 + b2), .int .i64 (a3 + b3)], .int .i64 0]) ∧ Only (fun _ => False) w w' := by
  obtain ⟨⟨_, _⟩, ⟨_, _⟩, ⟨_, _⟩, ⟨_, _⟩⟩ := right_of ha
  obtain ⟨⟨_, _⟩, ⟨_, _⟩, ⟨_, _⟩, ⟨_, _⟩⟩ := right_of hb
  obtain ⟨W0, hW0⟩ : ∃ W0, W0 = ((w.alloc (.cells #[.int .i64 a0, .int .i64 a1, .int .i64 a2, .int .i64 a3] 108)).alloc (.cells #[.int .i64 b0, .int .i64 b1, .int .i64 b2, .int .i64 b3] 108)).alloc (.cells #[.int .i64 0, .int .i64 0, .int .i64 0, .int .i64 0] 108) := ⟨_, rfl⟩
  have HF0 : Hid (Only (fun _ => False) w W0) := Lib.hid (by rw [hW0]; exact (((Only.refl _ w).alloc _).alloc _).alloc _)
  have HA : Hid (∀ w', Only (fun _ => False) W0 w' → (w'.cell? ⟨w.heap.size, 0, none⟩ = some (.int .i64 a0) ∧ w'.cell? ⟨w.heap.size, 1, none⟩ = some (.int .i64 a1) ∧ w'.cell? ⟨w.heap.size, 2, none⟩ = some (.int .i64 a2) ∧ w'.cell? ⟨w.heap.size, 3, none⟩ = some (.int .i64 a3))) := Lib.hid (fun w' ho => by rw [hW0] at ho; exact box4 rfl ((((Only.refl (fun _ => False) _).alloc _).alloc _).trans ho))
  have HB : Hid (∀ w', Only (fun q => q = w.heap.size) W0 w' → (w'.cell? ⟨w.heap.size + 1, 0, none⟩ = some (.int .i64 b0) ∧ w'.cell? ⟨w.heap.size + 1, 1, none⟩ = some (.int .i64 b1) ∧ w'.cell? ⟨w.heap.size + 1, 2, none⟩ = some (.int .i64 b2) ∧ w'.cell? ⟨w.heap.size + 1, 3, none⟩ = some (.int .i64 b3))) := Lib.hid (fun w' ho => by
    rw [hW0] at ho
    have h := box4 (w := w.alloc (.cells #[.int .i64 a0, .int .i64 a1, .int .i64 a2, .int .i64 a3] 108)) (a := b0) (b := b1) (c := b2) (d := b3) (t := 108) (g := w.heap.size + 1) (by simp) ((Only.refl (fun _ => False) _).alloc (.cells #[.int .i64 0, .int .i64 0, .int .i64 0, .int .i64 0] 108))
    exact ⟨ho.cell' h.1 (fun e => by have e' : w.heap.size + 1 = w.heap.size := e; omega), ho.cell' h.2.1 (fun e => by have e' : w.heap.size + 1 = w.heap.size := e; omega), ho.cell' h.2.2.1 (fun e => by have e' : w.heap.size + 1 = w.heap.size := e; omega), ho.cell' h.2.2.2 (fun e => by have e' : w.heap.size + 1 = w.heap.size := e; omega)⟩)
  have HFO : Hid (Four W0 (w.heap.size + 1 + 1)) := Lib.hid (by rw [hW0]; exact Four.new (by simp))
  have HT0 : Hid (TurnAt W0 W0 w.heap.size a0 a1 a2 a3) := Lib.hid (by
    rw [hW0]
    have h := (TurnAt.new (w := w) (t := 108) (g := w.heap.size) (x := a0) (y := a1) (z := a2) (u := a3) rfl).later (((Only.refl (fun _ => False) _).alloc (.cells #[.int .i64 b0, .int .i64 b1, .int .i64 b2, .int .i64 b3] 108)).alloc (.cells #[.int .i64 0, .int .i64 0, .int .i64 0, .int .i64 0] 108))
    exact ⟨Only.refl _ _, h.2⟩)
  go_enter Try.func69, Try.ntmps69
  go_wp2_with fail
  rw [← hW0]
  clear hW0
  refine (rright_any a0 a1 a2 a3 _).mono ?_
  rintro _ w1 ⟨rfl, h1⟩
  rw [ha]
  have H1 := Lib.hid h1
  clear h1
  obtain ⟨p0, p1, p2, p3⟩ := HB.out w1 (H1.out.mono (fun _ _ f => f.elim))
  go_wp2_with fail
  clear p0 p1 p2 p3
  refine (rright_any b0 b1 b2 b3 _).mono ?_
  rintro _ w2 ⟨rfl, h2⟩
  rw [hb]
  have H2 := Lib.hid (H1.out.trans h2)
  clear h2
  obtain ⟨p0, p1, p2, p3⟩ := HB.out w2 (H2.out.mono (fun _ _ f => f.elim))
  go_wp2_with fail
  clear p0 p1 p2 p3

  go_loopw [6] (fun i wr => (i = .int .i64 0 ∧ Hid (TurnAt W0 wr w.heap.size a0 a1 a2 a3)) ∨ (i = .int .i64 1 ∧ Hid (TurnAt W0 wr w.heap.size (a0 + b0) a1 a2 a3)) ∨ (i = .int .i64 2 ∧ Hid (TurnAt W0 wr w.heap.size (a0 + b0) (a1 + b1) a2 a3)) ∨ (i = .int .i64 3 ∧ Hid (TurnAt W0 wr w.heap.size (a0 + b0) (a1 + b1) (a2 + b2) a3)) ∨ (i = .int .i64 4 ∧ Hid (TurnAt W0 wr w.heap.size (a0 + b0) (a1 + b1) (a2 + b2) (a3 + b3)))) (fun i _ => 4 - (intOf i).toNat)
  case atStart => exact .inl ⟨rfl, Lib.hid (HT0.out.later H2.out)⟩
  case round =>
    rcases hrel with ⟨rfl, HT⟩ | ⟨rfl, HT⟩ | ⟨rfl, HT⟩ | ⟨rfl, HT⟩ | ⟨rfl, HT⟩
    · obtain ⟨ho, ⟨p0, p1, p2, p3⟩, f0, f1, f2, f3⟩ := HT.out
      obtain ⟨q0, q1, q2, q3⟩ := HB.out wr ho
      clear ho
      go_wp2_with fail
      go_region
      all_goals (go_wp2_with fail; first | exact ⟨.inr (.inl ⟨rfl, Lib.hid ((HT.out.later ((Only.refl _ _).drew)).set0 (a0 + b0))⟩), by simp [intOf]⟩ | exact ⟨.inr (.inl ⟨rfl, Lib.hid ((HT.out.set0 (a0 + b0)).later ((Only.refl _ _).drew))⟩), by simp [intOf]⟩)
    · obtain ⟨ho, ⟨p0, p1, p2, p3⟩, f0, f1, f2, f3⟩ := HT.out
      obtain ⟨q0, q1, q2, q3⟩ := HB.out wr ho
      clear ho
      go_wp2_with fail
      go_region
      all_goals (go_wp2_with fail; first | exact ⟨.inr (.inr (.inl ⟨rfl, Lib.hid ((HT.out.later ((Only.refl _ _).drew)).set1 (a1 + b1))⟩)), by simp [intOf]⟩ | exact ⟨.inr (.inr (.inl ⟨rfl, Lib.hid ((HT.out.set1 (a1 + b1)).later ((Only.refl _ _).drew))⟩)), by simp [intOf]⟩)
    · obtain ⟨ho, ⟨p0, p1, p2, p3⟩, f0, f1, f2, f3⟩ := HT.out
      obtain ⟨q0, q1, q2, q3⟩ := HB.out wr ho
      clear ho
      go_wp2_with fail
      go_region
      all_goals (go_wp2_with fail; first | exact ⟨.inr (.inr (.inr (.inl ⟨rfl, Lib.hid ((HT.out.later ((Only.refl _ _).drew)).set2 (a2 + b2))⟩))), by simp [intOf]⟩ | exact ⟨.inr (.inr (.inr (.inl ⟨rfl, Lib.hid ((HT.out.set2 (a2 + b2)).later ((Only.refl _ _).drew))⟩))), by simp [intOf]⟩)
    · obtain ⟨ho, ⟨p0, p1, p2, p3⟩, f0, f1, f2, f3⟩ := HT.out
      obtain ⟨q0, q1, q2, q3⟩ := HB.out wr ho
      clear ho
      go_wp2_with fail
      go_region
      all_goals (go_wp2_with fail; first | exact ⟨.inr (.inr (.inr (.inr (⟨rfl, Lib.hid ((HT.out.later ((Only.refl _ _).drew)).set3 (a3 + b3))⟩)))), by simp [intOf]⟩ | exact ⟨.inr (.inr (.inr (.inr (⟨rfl, Lib.hid ((HT.out.set3 (a3 + b3)).later ((Only.refl _ _).drew))⟩)))), by simp [intOf]⟩)
    · obtain ⟨ho, ⟨p0, p1, p2, p3⟩, f0, f1, f2, f3⟩ := HT.out
      have HO := Lib.hid ho
      clear ho
      go_wp2_with fail
      refine (rright_any (a0 + b0) (a1 + b1) (a2 + b2) (a3 + b3) _).mono ?_
      rintro _ w3 ⟨rfl, h3⟩
      rw [hs]
      have HO3 : Hid (Only (fun q => q = w.heap.size) W0 w3) := Lib.hid (HO.out.then h3 (fun q hq e => e.elim))
      obtain ⟨_, ⟨q0, q1, q2, q3⟩, _⟩ := HT.out.later h3
      clear h3 p0 p1 p2 p3 f0 f1 f2 f3
      have HR4 := HFO.out.only HO3.out (fun e => by have e' : w.heap.size + 1 + 1 = w.heap.size := e; omega)
      have HE := Lib.hid (HR4.set (.int .i64 (a0 + b0)) (.int .i64 (a1 + b1)) (.int .i64 (a2 + b2)) (.int .i64 (a3 + b3)))
      obtain ⟨⟨_, r0⟩, ⟨_, r1⟩, ⟨_, r2⟩, ⟨_, r3⟩, g0, g1, g2, g3⟩ := HR4
      go_wp2_with fail
      refine bodyPost_ret (v := .tuple #[.agg #[.int .i64 (a0 + b0), .int .i64 (a1 + b1), .int .i64 (a2 + b2), .int .i64 (a3 + b3)], .int .i64 0]) (by simp [results, Try.results69, go_sem, HE.out.1, HE.out.2.1, HE.out.2.2.1, HE.out.2.2.2.1]) rfl ⟨rfl, (HF0.out.then HO3.out (fun q hq e => by have e' : q = w.heap.size := e; omega)).then HE.out.2.2.2.2 (fun q hq e => by omega)⟩
end Go.Proofs.Ytlldecklngcklaa.rhyw
