/- Rhythms: the quarter of a time; a rhythm with more in a quarter. -/
import Derived.Test.YtlldecklngcklaaRhyF
namespace Go.Proofs.Ytlldecklngcklaa.rhyw
open Go.RowKit mem fltm rhym intm bigm bigw
set_option linter.unusedVariables false

theorem alloc_froz (W : World) (cs : Array Value) (t : TypeId) (g i : Nat) (hg : g = W.heap.size) : (W.alloc (.cells cs t)).frozen? ⟨g, i, none⟩ = false := by
  subst hg
  have e : (W.alloc (.cells cs t)).heap[W.heap.size]? = some (.cells cs t) := by rw [heap_alloc, if_pos rfl]
  unfold World.frozen?
  dsimp only
  rw [e]
  simp

theorem off_ne {b i j : Nat} (h : i ≠ j) : (⟨b, i, none⟩ : Addr) ≠ ⟨b, j, none⟩ := fun e => h (by injection e)
/-- a box of four, there and not shared -/
def Four (w : World) (b : Nat) : Prop := (∃ u, w.cell? ⟨b, 0, none⟩ = some u) ∧ (∃ u, w.cell? ⟨b, 1, none⟩ = some u) ∧ (∃ u, w.cell? ⟨b, 2, none⟩ = some u) ∧ (∃ u, w.cell? ⟨b, 3, none⟩ = some u) ∧
  w.frozen? ⟨b, 0, none⟩ = false ∧ w.frozen? ⟨b, 1, none⟩ = false ∧ w.frozen? ⟨b, 2, none⟩ = false ∧ w.frozen? ⟨b, 3, none⟩ = false
theorem Four.new {w : World} {x0 x1 x2 x3 : Value} {t : TypeId} {g : Nat} (hg : g = w.heap.size) : Four (w.alloc (.cells #[x0, x1, x2, x3] t)) g :=
  ⟨⟨_, alloc_new _ _ _ _ _ _ hg rfl⟩, ⟨_, alloc_new _ _ _ _ _ _ hg rfl⟩, ⟨_, alloc_new _ _ _ _ _ _ hg rfl⟩, ⟨_, alloc_new _ _ _ _ _ _ hg rfl⟩, alloc_froz _ _ _ _ _ hg, alloc_froz _ _ _ _ _ hg, alloc_froz _ _ _ _ _ hg, alloc_froz _ _ _ _ _ hg⟩
theorem Four.only {S : Nat → Prop} {w w' : World} {b : Nat} (h : Four w b) (ho : Only S w w') (hs : ¬ S b) : Four w' b := by
  obtain ⟨⟨u0, h0⟩, ⟨u1, h1⟩, ⟨u2, h2⟩, ⟨u3, h3⟩, f0, f1, f2, f3⟩ := h
  have hlt : b < w.heap.size := World.block_lt_of_cell? w _ h0
  exact ⟨⟨u0, ho.cell' h0 hs⟩, ⟨u1, ho.cell' h1 hs⟩, ⟨u2, ho.cell' h2 hs⟩, ⟨u3, ho.cell' h3 hs⟩, (ho.frozen (p := ⟨b, 0, none⟩) hlt hs).trans f0, (ho.frozen (p := ⟨b, 1, none⟩) hlt hs).trans f1, (ho.frozen (p := ⟨b, 2, none⟩) hlt hs).trans f2, (ho.frozen (p := ⟨b, 3, none⟩) hlt hs).trans f3⟩
theorem Four.set {w : World} {b : Nat} (h : Four w b) (x0 x1 x2 x3 : Value) :
    ((((w.setCell ⟨b, 0, none⟩ x0).setCell ⟨b, 1, none⟩ x1).setCell ⟨b, 2, none⟩ x2).setCell ⟨b, 3, none⟩ x3).cell? ⟨b, 0, none⟩ = some x0 ∧
    ((((w.setCell ⟨b, 0, none⟩ x0).setCell ⟨b, 1, none⟩ x1).setCell ⟨b, 2, none⟩ x2).setCell ⟨b, 3, none⟩ x3).cell? ⟨b, 1, none⟩ = some x1 ∧
    ((((w.setCell ⟨b, 0, none⟩ x0).setCell ⟨b, 1, none⟩ x1).setCell ⟨b, 2, none⟩ x2).setCell ⟨b, 3, none⟩ x3).cell? ⟨b, 2, none⟩ = some x2 ∧
    ((((w.setCell ⟨b, 0, none⟩ x0).setCell ⟨b, 1, none⟩ x1).setCell ⟨b, 2, none⟩ x2).setCell ⟨b, 3, none⟩ x3).cell? ⟨b, 3, none⟩ = some x3 ∧
    Only (fun q => q = b) w ((((w.setCell ⟨b, 0, none⟩ x0).setCell ⟨b, 1, none⟩ x1).setCell ⟨b, 2, none⟩ x2).setCell ⟨b, 3, none⟩ x3) := by
  obtain ⟨⟨u0, h0⟩, ⟨u1, h1⟩, ⟨u2, h2⟩, ⟨u3, h3⟩, _⟩ := h
  refine ⟨?_, ?_, ?_, ?_, ?_⟩
  · rw [cell_other (off_ne (by omega)), cell_other (off_ne (by omega)), cell_other (off_ne (by omega)), cell_same h0]
  · rw [cell_other (off_ne (by omega)), cell_other (off_ne (by omega))]
    exact cell_same (by rw [cell_other (off_ne (by omega))]; exact h1)
  · rw [cell_other (off_ne (by omega))]
    exact cell_same (by rw [cell_other (off_ne (by omega)), cell_other (off_ne (by omega))]; exact h2)
  · exact cell_same (by rw [cell_other (off_ne (by omega)), cell_other (off_ne (by omega)), cell_other (off_ne (by omega))]; exact h3)
  · exact ((((Only.refl (fun q => q = b) w).setCell (p := ⟨b, 0, none⟩) (.inl rfl) _).setCell (p := ⟨b, 1, none⟩) (.inl rfl) _).setCell (p := ⟨b, 2, none⟩) (.inl rfl) _).setCell (p := ⟨b, 3, none⟩) (.inl rfl) _

theorem quarter_no (now day : Int) (h : now < 0 ∨ day < 4 ∨ 1073741824 < day) (w : World) : Calls Try.prog 65 #[.int .i64 now, .int .i64 day] w fun e w' => e = .returned (.tuple #[.int .i64 0, .int .i64 1]) ∧ w = w' := by
  have hc : now < 0 ∨ (0 ≤ now ∧ day < 4) ∨ (0 ≤ now ∧ 4 ≤ day ∧ 1073741824 < day) := by omega
  rcases hc with h1 | ⟨h1, h2⟩ | ⟨h1, h2, h3⟩
  all_goals (clear h; go_enter Try.func65, Try.ntmps65; go_wp2_with fail; go_ret2; exact ⟨rfl, rfl⟩)
theorem quarter_yes (now day : Int) (h1 : 0 ≤ now) (hm : now ≤ 9223372036854775807) (h2 : 4 ≤ day) (h3 : day ≤ 1073741824) (w : World) : Calls Try.prog 65 #[.int .i64 now, .int .i64 day] w fun e w' => e = .returned (.tuple #[.int .i64 (now % day * 4 / day), .int .i64 0]) ∧ w = w' := by
  have e1 : 0 ≤ now % day ∧ now % day < day := ⟨Int.emod_nonneg _ (by omega), Int.emod_lt_of_pos _ (by omega)⟩
  have e2 : now.tmod day = now % day := Int.tmod_eq_emod_of_nonneg h1
  have e3 : (now % day * 4).tdiv day = now % day * 4 / day := Int.tdiv_eq_ediv_of_nonneg (by omega)
  have e5 : now % day * 4 / day < 4 := Int.ediv_lt_of_lt_mul (by omega) (by omega)
  have e6 : 0 ≤ now % day * 4 / day := Int.ediv_nonneg (by omega) (by omega)
  have e4 : wrap64 (now % day * 4 / day) = now % day * 4 / day := by rw [wrap64_eq]; omega
  generalize now % day = r at *
  go_enter Try.func65, Try.ntmps65
  go_wp2_with fail
  go_ret2
  exact ⟨rfl, rfl⟩
set_option maxRecDepth 100000 in
theorem add_no (a b c d k n : Int) (h : ¬ Q4 a b c d ∨ k < 0 ∨ 4 ≤ k ∨ n < 0) (w : World) : Calls Try.prog 66 #[.agg #[.int .i64 a, .int .i64 b, .int .i64 c, .int .i64 d], .int .i64 k, .int .i64 n] w fun e w' => e = .returned (.tuple #[.agg #[.int .i64 0, .int .i64 0, .int .i64 0, .int .i64 0], .int .i64 1]) ∧ Only (fun _ => False) w w' := by
  have HO : Hid (∀ o o2, Only (fun _ => False) w ((w.alloc o).alloc o2)) := Lib.hid (fun o o2 => ((Only.refl _ w).alloc o).alloc o2)
  cases hr : rightB a b c d with
  | false =>
    clear h
    go_enter Try.func66, Try.ntmps66
    go_wp2_with fail
    refine (isright_any a b c d _).mono ?_
    rintro _ w1 ⟨rfl, ho1⟩
    rw [hr]
    have HR4 := (Four.new (w := w.alloc (.cells #[.int .i64 a, .int .i64 b, .int .i64 c, .int .i64 d] 110)) (x0 := .int .i64 0) (x1 := .int .i64 0) (x2 := .int .i64 0) (x3 := .int .i64 0) (t := 110) (g := w.heap.size + 1) (by simp)).only ho1 (fun f => f)
    have HE := Lib.hid (HR4.set (.int .i64 0) (.int .i64 0) (.int .i64 0) (.int .i64 0))
    obtain ⟨⟨_, r0⟩, ⟨_, r1⟩, ⟨_, r2⟩, ⟨_, r3⟩, g0, g1, g2, g3⟩ := HR4
    have HF := Lib.hid ((HO.out _ _).trans ho1)
    clear ho1 HO
    go_wp2_with fail
    refine bodyPost_ret (v := .tuple #[.agg #[.int .i64 0, .int .i64 0, .int .i64 0, .int .i64 0], .int .i64 1]) (by simp [results, Try.results66, go_sem, HE.out.1, HE.out.2.1, HE.out.2.2.1, HE.out.2.2.2.1]) rfl ⟨rfl, HF.out.then HE.out.2.2.2.2 (fun q hq e => by omega)⟩
  | true =>
    have hc : k < 0 ∨ (0 ≤ k ∧ 4 ≤ k) ∨ (0 ≤ k ∧ k < 4 ∧ n < 0) := by
      rcases h with h | h
      · exact absurd (right_of hr) h
      · omega
    clear h
    rcases hc with h1 | ⟨h1, h2⟩ | ⟨h1, h2, h3⟩
    all_goals (go_enter Try.func66, Try.ntmps66; go_wp2_with fail; refine (isright_any a b c d _).mono ?_; rintro _ w1 ⟨rfl, ho1⟩; rw [hr]; have HR4 := (Four.new (w := w.alloc (.cells #[.int .i64 a, .int .i64 b, .int .i64 c, .int .i64 d] 110)) (x0 := .int .i64 0) (x1 := .int .i64 0) (x2 := .int .i64 0) (x3 := .int .i64 0) (t := 110) (g := w.heap.size + 1) (by simp)).only ho1 (fun f => f); have HE := Lib.hid (HR4.set (.int .i64 0) (.int .i64 0) (.int .i64 0) (.int .i64 0)); obtain ⟨⟨_, r0⟩, ⟨_, r1⟩, ⟨_, r2⟩, ⟨_, r3⟩, g0, g1, g2, g3⟩ := HR4; have HF := Lib.hid ((HO.out _ _).trans ho1); clear ho1 HO; go_wp2_with fail; refine bodyPost_ret (v := .tuple #[.agg #[.int .i64 0, .int .i64 0, .int .i64 0, .int .i64 0], .int .i64 1]) (by simp [results, Try.results66, go_sem, HE.out.1, HE.out.2.1, HE.out.2.2.1, HE.out.2.2.2.1]) rfl ⟨rfl, HF.out.then HE.out.2.2.2.2 (fun q hq e => by omega)⟩)
set_option maxRecDepth 100000 in
theorem add_over_0 (a b c d n : Int) (h : Q4 a b c d) (h0 : 0 ≤ n) (hn : 1125899906842624 - a < n) (w : World) : Calls Try.prog 66 #[.agg #[.int .i64 a, .int .i64 b, .int .i64 c, .int .i64 d], .int .i64 0, .int .i64 n] w fun e w' => e = .returned (.tuple #[.agg #[.int .i64 0, .int .i64 0, .int .i64 0, .int .i64 0], .int .i64 6]) ∧ Only (fun _ => False) w w' := by
  have HO : Hid (∀ o o2, Only (fun _ => False) w ((w.alloc o).alloc o2)) := Lib.hid (fun o o2 => ((Only.refl _ w).alloc o).alloc o2)
  have HQ := Lib.hid h
  obtain ⟨⟨a1, a2⟩, ⟨b1, b2⟩, ⟨c1, c2⟩, ⟨d1, d2⟩⟩ := h
  go_enter Try.func66, Try.ntmps66
  go_wp2_with fail
  refine (isright_any a b c d _).mono ?_
  rintro _ w1 ⟨rfl, ho1⟩
  rw [right_yes HQ.out]
  obtain ⟨p0, p1, p2, p3⟩ := box4 (g := w.heap.size) rfl (((Only.refl (fun _ => False) _).alloc _).trans ho1)
  have HR4 := (Four.new (w := w.alloc (.cells #[.int .i64 a, .int .i64 b, .int .i64 c, .int .i64 d] 110)) (x0 := .int .i64 0) (x1 := .int .i64 0) (x2 := .int .i64 0) (x3 := .int .i64 0) (t := 110) (g := w.heap.size + 1) (by simp)).only ho1 (fun f => f)
  have HE := Lib.hid (HR4.set (.int .i64 0) (.int .i64 0) (.int .i64 0) (.int .i64 0))
  obtain ⟨⟨_, r0⟩, ⟨_, r1⟩, ⟨_, r2⟩, ⟨_, r3⟩, g0, g1, g2, g3⟩ := HR4
  have HF := Lib.hid ((HO.out _ _).trans ho1)
  clear ho1 HO
  go_wp2_with fail
  refine bodyPost_ret (v := .tuple #[.agg #[.int .i64 0, .int .i64 0, .int .i64 0, .int .i64 0], .int .i64 6]) (by simp [results, Try.results66, go_sem, HE.out.1, HE.out.2.1, HE.out.2.2.1, HE.out.2.2.2.1]) rfl ⟨rfl, HF.out.then HE.out.2.2.2.2 (fun q hq e => by omega)⟩
set_option maxRecDepth 100000 in
theorem add_ok_0 (a b c d n : Int) (h : Q4 a b c d) (h0 : 0 ≤ n) (hn : n ≤ 1125899906842624 - a) (w : World) : Calls Try.prog 66 #[.agg #[.int .i64 a, .int .i64 b, .int .i64 c, .int .i64 d], .int .i64 0, .int .i64 n] w fun e w' => e = .returned (.tuple #[.agg #[.int .i64 (a + n), .int .i64 b, .int .i64 c, .int .i64 d], .int .i64 0]) ∧ Only (fun _ => False) w w' := by
  have HO : Hid (∀ o o2, Only (fun _ => False) w ((w.alloc o).alloc o2)) := Lib.hid (fun o o2 => ((Only.refl _ w).alloc o).alloc o2)
  have HQ := Lib.hid h
  obtain ⟨⟨a1, a2⟩, ⟨b1, b2⟩, ⟨c1, c2⟩, ⟨d1, d2⟩⟩ := h
  go_enter Try.func66, Try.ntmps66
  go_wp2_with fail
  refine (isright_any a b c d _).mono ?_
  rintro _ w1 ⟨rfl, ho1⟩
  rw [right_yes HQ.out]
  obtain ⟨p0, p1, p2, p3⟩ := box4 (g := w.heap.size) rfl (((Only.refl (fun _ => False) _).alloc _).trans ho1)
  have f0 : w1.frozen? ⟨w.heap.size, 0, none⟩ = false := ((((Only.refl (fun _ => False) _).alloc _).trans ho1).frozen (p := ⟨w.heap.size, 0, none⟩) (by simp) (fun f => f)).trans (alloc_froz _ _ _ _ _ rfl)
  have HR4 := (Four.new (w := w.alloc (.cells #[.int .i64 a, .int .i64 b, .int .i64 c, .int .i64 d] 110)) (x0 := .int .i64 0) (x1 := .int .i64 0) (x2 := .int .i64 0) (x3 := .int .i64 0) (t := 110) (g := w.heap.size + 1) (by simp)).only ho1 (fun f => f)
  have HS := Only.set (fun q => q = w.heap.size) w1 w.heap.size 0 (.int .i64 (a + n)) rfl
  have HE := Lib.hid ((HR4.only HS (fun e => by omega)).set (.int .i64 (a + n)) (.int .i64 b) (.int .i64 c) (.int .i64 d))
  obtain ⟨⟨_, r0⟩, ⟨_, r1⟩, ⟨_, r2⟩, ⟨_, r3⟩, g0, g1, g2, g3⟩ := HR4.only HS (fun e => by omega)
  have HF := Lib.hid (((HO.out _ _).trans ho1).then HS (fun q hq e => by omega))
  clear ho1 HO HS HR4
  go_wp2_with fail
  refine bodyPost_ret (v := .tuple #[.agg #[.int .i64 (a + n), .int .i64 b, .int .i64 c, .int .i64 d], .int .i64 0]) (by simp [results, Try.results66, go_sem, HE.out.1, HE.out.2.1, HE.out.2.2.1, HE.out.2.2.2.1]) rfl ⟨rfl, HF.out.then HE.out.2.2.2.2 (fun q hq e => by omega)⟩
set_option maxRecDepth 100000 in
theorem add_over_1 (a b c d n : Int) (h : Q4 a b c d) (h0 : 0 ≤ n) (hn : 1125899906842624 - b < n) (w : World) : Calls Try.prog 66 #[.agg #[.int .i64 a, .int .i64 b, .int .i64 c, .int .i64 d], .int .i64 1, .int .i64 n] w fun e w' => e = .returned (.tuple #[.agg #[.int .i64 0, .int .i64 0, .int .i64 0, .int .i64 0], .int .i64 6]) ∧ Only (fun _ => False) w w' := by
  have HO : Hid (∀ o o2, Only (fun _ => False) w ((w.alloc o).alloc o2)) := Lib.hid (fun o o2 => ((Only.refl _ w).alloc o).alloc o2)
  have HQ := Lib.hid h
  obtain ⟨⟨a1, a2⟩, ⟨b1, b2⟩, ⟨c1, c2⟩, ⟨d1, d2⟩⟩ := h
  go_enter Try.func66, Try.ntmps66
  go_wp2_with fail
  refine (isright_any a b c d _).mono ?_
  rintro _ w1 ⟨rfl, ho1⟩
  rw [right_yes HQ.out]
  obtain ⟨p0, p1, p2, p3⟩ := box4 (g := w.heap.size) rfl (((Only.refl (fun _ => False) _).alloc _).trans ho1)
  have HR4 := (Four.new (w := w.alloc (.cells #[.int .i64 a, .int .i64 b, .int .i64 c, .int .i64 d] 110)) (x0 := .int .i64 0) (x1 := .int .i64 0) (x2 := .int .i64 0) (x3 := .int .i64 0) (t := 110) (g := w.heap.size + 1) (by simp)).only ho1 (fun f => f)
  have HE := Lib.hid (HR4.set (.int .i64 0) (.int .i64 0) (.int .i64 0) (.int .i64 0))
  obtain ⟨⟨_, r0⟩, ⟨_, r1⟩, ⟨_, r2⟩, ⟨_, r3⟩, g0, g1, g2, g3⟩ := HR4
  have HF := Lib.hid ((HO.out _ _).trans ho1)
  clear ho1 HO
  go_wp2_with fail
  refine bodyPost_ret (v := .tuple #[.agg #[.int .i64 0, .int .i64 0, .int .i64 0, .int .i64 0], .int .i64 6]) (by simp [results, Try.results66, go_sem, HE.out.1, HE.out.2.1, HE.out.2.2.1, HE.out.2.2.2.1]) rfl ⟨rfl, HF.out.then HE.out.2.2.2.2 (fun q hq e => by omega)⟩
set_option maxRecDepth 100000 in
theorem add_ok_1 (a b c d n : Int) (h : Q4 a b c d) (h0 : 0 ≤ n) (hn : n ≤ 1125899906842624 - b) (w : World) : Calls Try.prog 66 #[.agg #[.int .i64 a, .int .i64 b, .int .i64 c, .int .i64 d], .int .i64 1, .int .i64 n] w fun e w' => e = .returned (.tuple #[.agg #[.int .i64 a, .int .i64 (b + n), .int .i64 c, .int .i64 d], .int .i64 0]) ∧ Only (fun _ => False) w w' := by
  have HO : Hid (∀ o o2, Only (fun _ => False) w ((w.alloc o).alloc o2)) := Lib.hid (fun o o2 => ((Only.refl _ w).alloc o).alloc o2)
  have HQ := Lib.hid h
  obtain ⟨⟨a1, a2⟩, ⟨b1, b2⟩, ⟨c1, c2⟩, ⟨d1, d2⟩⟩ := h
  go_enter Try.func66, Try.ntmps66
  go_wp2_with fail
  refine (isright_any a b c d _).mono ?_
  rintro _ w1 ⟨rfl, ho1⟩
  rw [right_yes HQ.out]
  obtain ⟨p0, p1, p2, p3⟩ := box4 (g := w.heap.size) rfl (((Only.refl (fun _ => False) _).alloc _).trans ho1)
  have f0 : w1.frozen? ⟨w.heap.size, 1, none⟩ = false := ((((Only.refl (fun _ => False) _).alloc _).trans ho1).frozen (p := ⟨w.heap.size, 1, none⟩) (by simp) (fun f => f)).trans (alloc_froz _ _ _ _ _ rfl)
  have HR4 := (Four.new (w := w.alloc (.cells #[.int .i64 a, .int .i64 b, .int .i64 c, .int .i64 d] 110)) (x0 := .int .i64 0) (x1 := .int .i64 0) (x2 := .int .i64 0) (x3 := .int .i64 0) (t := 110) (g := w.heap.size + 1) (by simp)).only ho1 (fun f => f)
  have HS := Only.set (fun q => q = w.heap.size) w1 w.heap.size 1 (.int .i64 (b + n)) rfl
  have HE := Lib.hid ((HR4.only HS (fun e => by omega)).set (.int .i64 a) (.int .i64 (b + n)) (.int .i64 c) (.int .i64 d))
  obtain ⟨⟨_, r0⟩, ⟨_, r1⟩, ⟨_, r2⟩, ⟨_, r3⟩, g0, g1, g2, g3⟩ := HR4.only HS (fun e => by omega)
  have HF := Lib.hid (((HO.out _ _).trans ho1).then HS (fun q hq e => by omega))
  clear ho1 HO HS HR4
  go_wp2_with fail
  refine bodyPost_ret (v := .tuple #[.agg #[.int .i64 a, .int .i64 (b + n), .int .i64 c, .int .i64 d], .int .i64 0]) (by simp [results, Try.results66, go_sem, HE.out.1, HE.out.2.1, HE.out.2.2.1, HE.out.2.2.2.1]) rfl ⟨rfl, HF.out.then HE.out.2.2.2.2 (fun q hq e => by omega)⟩
set_option maxRecDepth 100000 in
theorem add_over_2 (a b c d n : Int) (h : Q4 a b c d) (h0 : 0 ≤ n) (hn : 1125899906842624 - c < n) (w : World) : Calls Try.prog 66 #[.agg #[.int .i64 a, .int .i64 b, .int .i64 c, .int .i64 d], .int .i64 2, .int .i64 n] w fun e w' => e = .returned (.tuple #[.agg #[.int .i64 0, .int .i64 0, .int .i64 0, .int .i64 0], .int .i64 6]) ∧ Only (fun _ => False) w w' := by
  have HO : Hid (∀ o o2, Only (fun _ => False) w ((w.alloc o).alloc o2)) := Lib.hid (fun o o2 => ((Only.refl _ w).alloc o).alloc o2)
  have HQ := Lib.hid h
  obtain ⟨⟨a1, a2⟩, ⟨b1, b2⟩, ⟨c1, c2⟩, ⟨d1, d2⟩⟩ := h
  go_enter Try.func66, Try.ntmps66
  go_wp2_with fail
  refine (isright_any a b c d _).mono ?_
  rintro _ w1 ⟨rfl, ho1⟩
  rw [right_yes HQ.out]
  obtain ⟨p0, p1, p2, p3⟩ := box4 (g := w.heap.size) rfl (((Only.refl (fun _ => False) _).alloc _).trans ho1)
  have HR4 := (Four.new (w := w.alloc (.cells #[.int .i64 a, .int .i64 b, .int .i64 c, .int .i64 d] 110)) (x0 := .int .i64 0) (x1 := .int .i64 0) (x2 := .int .i64 0) (x3 := .int .i64 0) (t := 110) (g := w.heap.size + 1) (by simp)).only ho1 (fun f => f)
  have HE := Lib.hid (HR4.set (.int .i64 0) (.int .i64 0) (.int .i64 0) (.int .i64 0))
  obtain ⟨⟨_, r0⟩, ⟨_, r1⟩, ⟨_, r2⟩, ⟨_, r3⟩, g0, g1, g2, g3⟩ := HR4
  have HF := Lib.hid ((HO.out _ _).trans ho1)
  clear ho1 HO
  go_wp2_with fail
  refine bodyPost_ret (v := .tuple #[.agg #[.int .i64 0, .int .i64 0, .int .i64 0, .int .i64 0], .int .i64 6]) (by simp [results, Try.results66, go_sem, HE.out.1, HE.out.2.1, HE.out.2.2.1, HE.out.2.2.2.1]) rfl ⟨rfl, HF.out.then HE.out.2.2.2.2 (fun q hq e => by omega)⟩
set_option maxRecDepth 100000 in
theorem add_ok_2 (a b c d n : Int) (h : Q4 a b c d) (h0 : 0 ≤ n) (hn : n ≤ 1125899906842624 - c) (w : World) : Calls Try.prog 66 #[.agg #[.int .i64 a, .int .i64 b, .int .i64 c, .int .i64 d], .int .i64 2, .int .i64 n] w fun e w' => e = .returned (.tuple #[.agg #[.int .i64 a, .int .i64 b, .int .i64 (c + n), .int .i64 d], .int .i64 0]) ∧ Only (fun _ => False) w w' := by
  have HO : Hid (∀ o o2, Only (fun _ => False) w ((w.alloc o).alloc o2)) := Lib.hid (fun o o2 => ((Only.refl _ w).alloc o).alloc o2)
  have HQ := Lib.hid h
  obtain ⟨⟨a1, a2⟩, ⟨b1, b2⟩, ⟨c1, c2⟩, ⟨d1, d2⟩⟩ := h
  go_enter Try.func66, Try.ntmps66
  go_wp2_with fail
  refine (isright_any a b c d _).mono ?_
  rintro _ w1 ⟨rfl, ho1⟩
  rw [right_yes HQ.out]
  obtain ⟨p0, p1, p2, p3⟩ := box4 (g := w.heap.size) rfl (((Only.refl (fun _ => False) _).alloc _).trans ho1)
  have f0 : w1.frozen? ⟨w.heap.size, 2, none⟩ = false := ((((Only.refl (fun _ => False) _).alloc _).trans ho1).frozen (p := ⟨w.heap.size, 2, none⟩) (by simp) (fun f => f)).trans (alloc_froz _ _ _ _ _ rfl)
  have HR4 := (Four.new (w := w.alloc (.cells #[.int .i64 a, .int .i64 b, .int .i64 c, .int .i64 d] 110)) (x0 := .int .i64 0) (x1 := .int .i64 0) (x2 := .int .i64 0) (x3 := .int .i64 0) (t := 110) (g := w.heap.size + 1) (by simp)).only ho1 (fun f => f)
  have HS := Only.set (fun q => q = w.heap.size) w1 w.heap.size 2 (.int .i64 (c + n)) rfl
  have HE := Lib.hid ((HR4.only HS (fun e => by omega)).set (.int .i64 a) (.int .i64 b) (.int .i64 (c + n)) (.int .i64 d))
  obtain ⟨⟨_, r0⟩, ⟨_, r1⟩, ⟨_, r2⟩, ⟨_, r3⟩, g0, g1, g2, g3⟩ := HR4.only HS (fun e => by omega)
  have HF := Lib.hid (((HO.out _ _).trans ho1).then HS (fun q hq e => by omega))
  clear ho1 HO HS HR4
  go_wp2_with fail
  refine bodyPost_ret (v := .tuple #[.agg #[.int .i64 a, .int .i64 b, .int .i64 (c + n), .int .i64 d], .int .i64 0]) (by simp [results, Try.results66, go_sem, HE.out.1, HE.out.2.1, HE.out.2.2.1, HE.out.2.2.2.1]) rfl ⟨rfl, HF.out.then HE.out.2.2.2.2 (fun q hq e => by omega)⟩
set_option maxRecDepth 100000 in
theorem add_over_3 (a b c d n : Int) (h : Q4 a b c d) (h0 : 0 ≤ n) (hn : 1125899906842624 - d < n) (w : World) : Calls Try.prog 66 #[.agg #[.int .i64 a, .int .i64 b, .int .i64 c, .int .i64 d], .int .i64 3, .int .i64 n] w fun e w' => e = .returned (.tuple #[.agg #[.int .i64 0, .int .i64 0, .int .i64 0, .int .i64 0], .int .i64 6]) ∧ Only (fun _ => False) w w' := by
  have HO : Hid (∀ o o2, Only (fun _ => False) w ((w.alloc o).alloc o2)) := Lib.hid (fun o o2 => ((Only.refl _ w).alloc o).alloc o2)
  have HQ := Lib.hid h
  obtain ⟨⟨a1, a2⟩, ⟨b1, b2⟩, ⟨c1, c2⟩, ⟨d1, d2⟩⟩ := h
  go_enter Try.func66, Try.ntmps66
  go_wp2_with fail
  refine (isright_any a b c d _).mono ?_
  rintro _ w1 ⟨rfl, ho1⟩
  rw [right_yes HQ.out]
  obtain ⟨p0, p1, p2, p3⟩ := box4 (g := w.heap.size) rfl (((Only.refl (fun _ => False) _).alloc _).trans ho1)
  have HR4 := (Four.new (w := w.alloc (.cells #[.int .i64 a, .int .i64 b, .int .i64 c, .int .i64 d] 110)) (x0 := .int .i64 0) (x1 := .int .i64 0) (x2 := .int .i64 0) (x3 := .int .i64 0) (t := 110) (g := w.heap.size + 1) (by simp)).only ho1 (fun f => f)
  have HE := Lib.hid (HR4.set (.int .i64 0) (.int .i64 0) (.int .i64 0) (.int .i64 0))
  obtain ⟨⟨_, r0⟩, ⟨_, r1⟩, ⟨_, r2⟩, ⟨_, r3⟩, g0, g1, g2, g3⟩ := HR4
  have HF := Lib.hid ((HO.out _ _).trans ho1)
  clear ho1 HO
  go_wp2_with fail
  refine bodyPost_ret (v := .tuple #[.agg #[.int .i64 0, .int .i64 0, .int .i64 0, .int .i64 0], .int .i64 6]) (by simp [results, Try.results66, go_sem, HE.out.1, HE.out.2.1, HE.out.2.2.1, HE.out.2.2.2.1]) rfl ⟨rfl, HF.out.then HE.out.2.2.2.2 (fun q hq e => by omega)⟩
set_option maxRecDepth 100000 in
theorem add_ok_3 (a b c d n : Int) (h : Q4 a b c d) (h0 : 0 ≤ n) (hn : n ≤ 1125899906842624 - d) (w : World) : Calls Try.prog 66 #[.agg #[.int .i64 a, .int .i64 b, .int .i64 c, .int .i64 d], .int .i64 3, .int .i64 n] w fun e w' => e = .returned (.tuple #[.agg #[.int .i64 a, .int .i64 b, .int .i64 c, .int .i64 (d + n)], .int .i64 0]) ∧ Only (fun _ => False) w w' := by
  have HO : Hid (∀ o o2, Only (fun _ => False) w ((w.alloc o).alloc o2)) := Lib.hid (fun o o2 => ((Only.refl _ w).alloc o).alloc o2)
  have HQ := Lib.hid h
  obtain ⟨⟨a1, a2⟩, ⟨b1, b2⟩, ⟨c1, c2⟩, ⟨d1, d2⟩⟩ := h
  go_enter Try.func66, Try.ntmps66
  go_wp2_with fail
  refine (isright_any a b c d _).mono ?_
  rintro _ w1 ⟨rfl, ho1⟩
  rw [right_yes HQ.out]
  obtain ⟨p0, p1, p2, p3⟩ := box4 (g := w.heap.size) rfl (((Only.refl (fun _ => False) _).alloc _).trans ho1)
  have f0 : w1.frozen? ⟨w.heap.size, 3, none⟩ = false := ((((Only.refl (fun _ => False) _).alloc _).trans ho1).frozen (p := ⟨w.heap.size, 3, none⟩) (by simp) (fun f => f)).trans (alloc_froz _ _ _ _ _ rfl)
  have HR4 := (Four.new (w := w.alloc (.cells #[.int .i64 a, .int .i64 b, .int .i64 c, .int .i64 d] 110)) (x0 := .int .i64 0) (x1 := .int .i64 0) (x2 := .int .i64 0) (x3 := .int .i64 0) (t := 110) (g := w.heap.size + 1) (by simp)).only ho1 (fun f => f)
  have HS := Only.set (fun q => q = w.heap.size) w1 w.heap.size 3 (.int .i64 (d + n)) rfl
  have HE := Lib.hid ((HR4.only HS (fun e => by omega)).set (.int .i64 a) (.int .i64 b) (.int .i64 c) (.int .i64 (d + n)))
  obtain ⟨⟨_, r0⟩, ⟨_, r1⟩, ⟨_, r2⟩, ⟨_, r3⟩, g0, g1, g2, g3⟩ := HR4.only HS (fun e => by omega)
  have HF := Lib.hid (((HO.out _ _).trans ho1).then HS (fun q hq e => by omega))
  clear ho1 HO HS HR4
  go_wp2_with fail
  refine bodyPost_ret (v := .tuple #[.agg #[.int .i64 a, .int .i64 b, .int .i64 c, .int .i64 (d + n)], .int .i64 0]) (by simp [results, Try.results66, go_sem, HE.out.1, HE.out.2.1, HE.out.2.2.1, HE.out.2.2.2.1]) rfl ⟨rfl, HF.out.then HE.out.2.2.2.2 (fun q hq e => by omega)⟩
end Go.Proofs.Ytlldecklngcklaa.rhyw
