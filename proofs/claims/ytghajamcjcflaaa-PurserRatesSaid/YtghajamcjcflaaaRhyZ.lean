/- Rhythms: the quarter of a time, more in a quarter, all usage. -/
import Derived.Test.YtghajamcjcflaaaSumAT
import Derived.Test.YtghajamcjcflaaaRatP
namespace Go.Proofs.Ytghajamcjcflaaa.rhyz
open Go.RowKit mem intm bigm bigw tirm
set_option linter.unusedVariables false

set_option linter.unusedVariables false

/-- each quarter is within its bounds -/
def Q1 (a : Int) : Prop := 0 ≤ a ∧ a ≤ 1125899906842624
instance (a : Int) : Decidable (Q1 a) := inferInstanceAs (Decidable (_ ∧ _))
def Q4 (a b c d : Int) : Prop := Q1 a ∧ Q1 b ∧ Q1 c ∧ Q1 d
instance (a b c d : Int) : Decidable (Q4 a b c d) := inferInstanceAs (Decidable (_ ∧ _))
def rightB (a b c d : Int) : Bool := decide (Q4 a b c d)
theorem right_yes {a b c d : Int} (h : Q4 a b c d) : rightB a b c d = true := decide_eq_true h
theorem right_no {a b c d : Int} (h : ¬ Q4 a b c d) : rightB a b c d = false := decide_eq_false h
set_option linter.unusedVariables false

theorem alloc_new (W : World) (cs : Array Value) (t : TypeId) (g i : Nat) (v : Value) (hg : g = W.heap.size) (h : cs[i]? = some v) : (W.alloc (.cells cs t)).cell? ⟨g, i, none⟩ = some v := by
  subst hg
  rw [Go.Joins.cell_of_block (cs := cs) (t := t) (fr := (0, 0)) (by rw [heap_alloc, if_pos rfl]), h]
set_option maxRecDepth 100000 in
theorem isright_any (a b c d : Int) (w : World) : Calls Try.prog 51 #[.agg #[.int .i64 a, .int .i64 b, .int .i64 c, .int .i64 d]] w fun e w' => e = .returned (.bool (rightB a b c d)) ∧ Only (fun _ => False) w w' := by
  have i0 : ∀ w : World, (Instr.index 61 (.agg #[.int .i64 a, .int .i64 b, .int .i64 c, .int .i64 d]) (.int .i64 0)).run Try.prog w = .ok (.int .i64 a) w := fun _ => by kernel_rfl
  have i1 : ∀ w : World, (Instr.index 61 (.agg #[.int .i64 a, .int .i64 b, .int .i64 c, .int .i64 d]) (.int .i64 1)).run Try.prog w = .ok (.int .i64 b) w := fun _ => by kernel_rfl
  have i2 : ∀ w : World, (Instr.index 61 (.agg #[.int .i64 a, .int .i64 b, .int .i64 c, .int .i64 d]) (.int .i64 2)).run Try.prog w = .ok (.int .i64 c) w := fun _ => by kernel_rfl
  have i3 : ∀ w : World, (Instr.index 61 (.agg #[.int .i64 a, .int .i64 b, .int .i64 c, .int .i64 d]) (.int .i64 3)).run Try.prog w = .ok (.int .i64 d) w := fun _ => by kernel_rfl
  have HO : Hid (∀ o, Only (fun _ => False) w (w.alloc o)) := Lib.hid (fun o => (Only.refl _ w).alloc o)
  go_enter Try.func51, Try.ntmps51
  go_wp2_with fail
  go_loop [7] (fun i => ∃ k : Nat, k ≤ 4 ∧ i = .int .i64 k ∧ Hid ((1 ≤ k → Q1 a) ∧ (2 ≤ k → Q1 b) ∧ (3 ≤ k → Q1 c) ∧ (4 ≤ k → Q1 d))) (fun i => match i with | .int _ n => 4 - n.toNat | _ => 0)
  case atStart => exact ⟨0, by omega, rfl, Lib.hid ⟨fun h => by omega, fun h => by omega, fun h => by omega, fun h => by omega⟩⟩
  case round =>
    obtain ⟨k, hk, rfl, HP⟩ := hrel
    have hk5 : k = 0 ∨ k = 1 ∨ k = 2 ∨ k = 3 ∨ k = 4 := by omega
    rcases hk5 with rfl | rfl | rfl | rfl | rfl
    · by_cases hq : Q1 a
      · have h1 := hq.1
        have h2 := hq.2
        replace hq := Lib.hid hq
        go_wp2_with fail
        go_round
        case rel => exact ⟨1, by omega, by go_num, Lib.hid ⟨fun _ => hq.out, fun h => by omega, fun h => by omega, fun h => by omega⟩⟩
        case measure => simp
      · have HN := Lib.hid (right_no (a := a) (b := b) (c := c) (d := d) (fun h => hq h.1))
        by_cases h1 : a < 0
        · clear hq
          go_wp2_with fail
          go_ret
          exact ⟨by rw [HN.out]; rfl, HO.out _⟩
        · have h2 : 1125899906842624 < a := by unfold Q1 at hq; omega
          have h3 : 0 ≤ a := by omega
          clear hq h1
          go_wp2_with fail
          go_ret
          exact ⟨by rw [HN.out]; rfl, HO.out _⟩
    · by_cases hq : Q1 b
      · have h1 := hq.1
        have h2 := hq.2
        replace hq := Lib.hid hq
        go_wp2_with fail
        go_round
        case rel => exact ⟨2, by omega, by go_num, Lib.hid ⟨fun _ => HP.out.1 (by omega), fun _ => hq.out, fun h => by omega, fun h => by omega⟩⟩
        case measure => simp
      · have HN := Lib.hid (right_no (a := a) (b := b) (c := c) (d := d) (fun h => hq h.2.1))
        by_cases h1 : b < 0
        · clear hq
          go_wp2_with fail
          go_ret
          exact ⟨by rw [HN.out]; rfl, HO.out _⟩
        · have h2 : 1125899906842624 < b := by unfold Q1 at hq; omega
          have h3 : 0 ≤ b := by omega
          clear hq h1
          go_wp2_with fail
          go_ret
          exact ⟨by rw [HN.out]; rfl, HO.out _⟩
    · by_cases hq : Q1 c
      · have h1 := hq.1
        have h2 := hq.2
        replace hq := Lib.hid hq
        go_wp2_with fail
        go_round
        case rel => exact ⟨3, by omega, by go_num, Lib.hid ⟨fun _ => HP.out.1 (by omega), fun _ => HP.out.2.1 (by omega), fun _ => hq.out, fun h => by omega⟩⟩
        case measure => simp
      · have HN := Lib.hid (right_no (a := a) (b := b) (c := c) (d := d) (fun h => hq h.2.2.1))
        by_cases h1 : c < 0
        · clear hq
          go_wp2_with fail
          go_ret
          exact ⟨by rw [HN.out]; rfl, HO.out _⟩
        · have h2 : 1125899906842624 < c := by unfold Q1 at hq; omega
          have h3 : 0 ≤ c := by omega
          clear hq h1
          go_wp2_with fail
          go_ret
          exact ⟨by rw [HN.out]; rfl, HO.out _⟩
    · by_cases hq : Q1 d
      · have h1 := hq.1
        have h2 := hq.2
        replace hq := Lib.hid hq
        go_wp2_with fail
        go_round
        case rel => exact ⟨4, by omega, by go_num, Lib.hid ⟨fun _ => HP.out.1 (by omega), fun _ => HP.out.2.1 (by omega), fun _ => HP.out.2.2.1 (by omega), fun _ => hq.out⟩⟩
        case measure => simp
      · have HN := Lib.hid (right_no (a := a) (b := b) (c := c) (d := d) (fun h => hq h.2.2.2))
        by_cases h1 : d < 0
        · clear hq
          go_wp2_with fail
          go_ret
          exact ⟨by rw [HN.out]; rfl, HO.out _⟩
        · have h2 : 1125899906842624 < d := by unfold Q1 at hq; omega
          have h3 : 0 ≤ d := by omega
          clear hq h1
          go_wp2_with fail
          go_ret
          exact ⟨by rw [HN.out]; rfl, HO.out _⟩
    · have HN := Lib.hid (right_yes (a := a) (b := b) (c := c) (d := d) ⟨HP.out.1 (by omega), HP.out.2.1 (by omega), HP.out.2.2.1 (by omega), HP.out.2.2.2 (by omega)⟩)
      go_wp2_with fail
      go_ret
      exact ⟨by rw [HN.out]; rfl, HO.out _⟩
set_option linter.unusedVariables false

/-- a box of four quarters stays -/
theorem box4 {w w' : World} {a b c d : Int} {t : TypeId} {g : Nat} (hg : g = w.heap.size) (ho : Only (fun _ => False) (w.alloc (.cells #[.int .i64 a, .int .i64 b, .int .i64 c, .int .i64 d] t)) w') :
    w'.cell? ⟨g, 0, none⟩ = some (.int .i64 a) ∧ w'.cell? ⟨g, 1, none⟩ = some (.int .i64 b) ∧ w'.cell? ⟨g, 2, none⟩ = some (.int .i64 c) ∧ w'.cell? ⟨g, 3, none⟩ = some (.int .i64 d) :=
  ⟨ho.cell' (alloc_new _ _ _ _ _ _ hg rfl) (fun f => f), ho.cell' (alloc_new _ _ _ _ _ _ hg rfl) (fun f => f), ho.cell' (alloc_new _ _ _ _ _ _ hg rfl) (fun f => f), ho.cell' (alloc_new _ _ _ _ _ _ hg rfl) (fun f => f)⟩
set_option linter.unusedVariables false

theorem alloc_froz (W : World) (cs : Array Value) (t : TypeId) (g i : Nat) (hg : g = W.heap.size) : (W.alloc (.cells cs t)).frozen? ⟨g, i, none⟩ = false := by
  subst hg
  have e : (W.alloc (.cells cs t)).heap[W.heap.size]? = some (.cells cs t) := by rw [heap_alloc, if_pos rfl]
  unfold World.frozen?
  dsimp only
  rw [e]
  simp
theorem off_ne {b i j : Nat} (h : i ≠ j) : (⟨b, i, none⟩ : Addr) ≠ ⟨b, j, none⟩ := fun e => h (by injection e)
/-- a box of four, there and not shared -/
def Four (w : World) (b : Nat) : Prop := (∃ u, w.cell? ⟨b, 0, none⟩ = some u) ∧ (∃ u, w.cell? ⟨b, 1, none⟩ = some u) ∧ (∃ u, w.cell? ⟨b, 2, none⟩ = some u) ∧ (∃ u, w.cell? ⟨b, 3, none⟩ = some u) ∧
  w.frozen? ⟨b, 0, none⟩ = false ∧ w.frozen? ⟨b, 1, none⟩ = false ∧ w.frozen? ⟨b, 2, none⟩ = false ∧ w.frozen? ⟨b, 3, none⟩ = false
theorem Four.new {w : World} {x0 x1 x2 x3 : Value} {t : TypeId} {g : Nat} (hg : g = w.heap.size) : Four (w.alloc (.cells #[x0, x1, x2, x3] t)) g :=
  ⟨⟨_, alloc_new _ _ _ _ _ _ hg rfl⟩, ⟨_, alloc_new _ _ _ _ _ _ hg rfl⟩, ⟨_, alloc_new _ _ _ _ _ _ hg rfl⟩, ⟨_, alloc_new _ _ _ _ _ _ hg rfl⟩, alloc_froz _ _ _ _ _ hg, alloc_froz _ _ _ _ _ hg, alloc_froz _ _ _ _ _ hg, alloc_froz _ _ _ _ _ hg⟩
theorem Four.only {S : Nat → Prop} {w w' : World} {b : Nat} (h : Four w b) (ho : Only S w w') (hs : ¬ S b) : Four w' b := by
  obtain ⟨⟨u0, h0⟩, ⟨u1, h1⟩, ⟨u2, h2⟩, ⟨u3, h3⟩, f0, f1, f2, f3⟩ := h
  have hlt : b < w.heap.size := World.block_lt_of_cell? w _ h0
  exact ⟨⟨u0, ho.cell' h0 hs⟩, ⟨u1, ho.cell' h1 hs⟩, ⟨u2, ho.cell' h2 hs⟩, ⟨u3, ho.cell' h3 hs⟩, (ho.frozen (p := ⟨b, 0, none⟩) hlt hs).trans f0, (ho.frozen (p := ⟨b, 1, none⟩) hlt hs).trans f1, (ho.frozen (p := ⟨b, 2, none⟩) hlt hs).trans f2, (ho.frozen (p := ⟨b, 3, none⟩) hlt hs).trans f3⟩
theorem Four.set {w : World} {b : Nat} (h : Four w b) (x0 x1 x2 x3 : Value) :
    ((((w.setCell ⟨b, 0, none⟩ x0).setCell ⟨b, 1, none⟩ x1).setCell ⟨b, 2, none⟩ x2).setCell ⟨b, 3, none⟩ x3).cell? ⟨b, 0, none⟩ = some x0 ∧
    ((((w.setCell ⟨b, 0, none⟩ x0).setCell ⟨b, 1, none⟩ x1).setCell ⟨b, 2, none⟩ x2).setCell ⟨b, 3, none⟩ x3).cell? ⟨b, 1, none⟩ = some x1 ∧
    ((((w.setCell ⟨b, 0, none⟩ x0).setCell ⟨b, 1, none⟩ x1).setCell ⟨b, 2, none⟩ x2).setCell ⟨b, 3, none⟩ x3).cell? ⟨b, 2, none⟩ = some x2 ∧
    ((((w.setCell ⟨b, 0, none⟩ x0).setCell ⟨b, 1, none⟩ x1).setCell ⟨b, 2, none⟩ x2).setCell ⟨b, 3, none⟩ x3).cell? ⟨b, 3, none⟩ = some x3 ∧
    Only (fun q => q = b) w ((((w.setCell ⟨b, 0, none⟩ x0).setCell ⟨b, 1, none⟩ x1).setCell ⟨b, 2, none⟩ x2).setCell ⟨b, 3, none⟩ x3) := by
  obtain ⟨⟨u0, h0⟩, ⟨u1, h1⟩, ⟨u2, h2⟩, ⟨u3, h3⟩, _⟩ := h
  refine ⟨?_, ?_, ?_, ?_, ?_⟩
  · rw [cell_other (off_ne (by omega)), cell_other (off_ne (by omega)), cell_other (off_ne (by omega)), cell_same h0]
  · rw [cell_other (off_ne (by omega)), cell_other (off_ne (by omega))]
    exact cell_same (by rw [cell_other (off_ne (by omega))]; exact h1)
  · rw [cell_other (off_ne (by omega))]
    exact cell_same (by rw [cell_other (off_ne (by omega)), cell_other (off_ne (by omega))]; exact h2)
  · exact cell_same (by rw [cell_other (off_ne (by omega)), cell_other (off_ne (by omega)), cell_other (off_ne (by omega))]; exact h3)
  · exact ((((Only.refl (fun q => q = b) w).setCell (p := ⟨b, 0, none⟩) (.inl rfl) _).setCell (p := ⟨b, 1, none⟩) (.inl rfl) _).setCell (p := ⟨b, 2, none⟩) (.inl rfl) _).setCell (p := ⟨b, 3, none⟩) (.inl rfl) _
theorem quarter_yes (now day : Int) (h1 : 0 ≤ now) (hm : now ≤ 9223372036854775807) (h2 : 4 ≤ day) (h3 : day ≤ 1073741824) (w : World) : Calls Try.prog 27 #[.int .i64 now, .int .i64 day] w fun e w' => e = .returned (.tuple #[.int .i64 (now % day * 4 / day), .int .i64 0]) ∧ w = w' := by
  have e1 : 0 ≤ now % day ∧ now % day < day := ⟨Int.emod_nonneg _ (by omega), Int.emod_lt_of_pos _ (by omega)⟩
  have e2 : now.tmod day = now % day := Int.tmod_eq_emod_of_nonneg h1
  have e3 : (now % day * 4).tdiv day = now % day * 4 / day := Int.tdiv_eq_ediv_of_nonneg (by omega)
  have e5 : now % day * 4 / day < 4 := Int.ediv_lt_of_lt_mul (by omega) (by omega)
  have e6 : 0 ≤ now % day * 4 / day := Int.ediv_nonneg (by omega) (by omega)
  have e4 : wrap64 (now % day * 4 / day) = now % day * 4 / day := by rw [wrap64_eq]; omega
  generalize now % day = r at *
  go_enter Try.func27, Try.ntmps27
  go_wp2_with fail
  go_ret2
  exact ⟨rfl, rfl⟩
set_option maxRecDepth 100000 in
theorem add_ok_0 (a b c d n : Int) (h : Q4 a b c d) (h0 : 0 ≤ n) (hn : n ≤ 1125899906842624 - a) (w : World) : Calls Try.prog 28 #[.agg #[.int .i64 a, .int .i64 b, .int .i64 c, .int .i64 d], .int .i64 0, .int .i64 n] w fun e w' => e = .returned (.tuple #[.agg #[.int .i64 (a + n), .int .i64 b, .int .i64 c, .int .i64 d], .int .i64 0]) ∧ Only (fun _ => False) w w' := by
  have HO : Hid (∀ o o2, Only (fun _ => False) w ((w.alloc o).alloc o2)) := Lib.hid (fun o o2 => ((Only.refl _ w).alloc o).alloc o2)
  have HQ := Lib.hid h
  obtain ⟨⟨a1, a2⟩, ⟨b1, b2⟩, ⟨c1, c2⟩, ⟨d1, d2⟩⟩ := h
  go_enter Try.func28, Try.ntmps28
  go_wp2_with fail
  refine (isright_any a b c d _).mono ?_
  rintro _ w1 ⟨rfl, ho1⟩
  rw [right_yes HQ.out]
  obtain ⟨p0, p1, p2, p3⟩ := box4 (g := w.heap.size) rfl (((Only.refl (fun _ => False) _).alloc _).trans ho1)
  have f0 : w1.frozen? ⟨w.heap.size, 0, none⟩ = false := ((((Only.refl (fun _ => False) _).alloc _).trans ho1).frozen (p := ⟨w.heap.size, 0, none⟩) (by simp) (fun f => f)).trans (alloc_froz _ _ _ _ _ rfl)
  have HR4 := (Four.new (w := w.alloc (.cells #[.int .i64 a, .int .i64 b, .int .i64 c, .int .i64 d] 63)) (x0 := .int .i64 0) (x1 := .int .i64 0) (x2 := .int .i64 0) (x3 := .int .i64 0) (t := 63) (g := w.heap.size + 1) (by simp)).only ho1 (fun f => f)
  have HS := Only.set (fun q => q = w.heap.size) w1 w.heap.size 0 (.int .i64 (a + n)) rfl
  have HE := Lib.hid ((HR4.only HS (fun e => by omega)).set (.int .i64 (a + n)) (.int .i64 b) (.int .i64 c) (.int .i64 d))
  obtain ⟨⟨_, r0⟩, ⟨_, r1⟩, ⟨_, r2⟩, ⟨_, r3⟩, g0, g1, g2, g3⟩ := HR4.only HS (fun e => by omega)
  have HF := Lib.hid (((HO.out _ _).trans ho1).then HS (fun q hq e => by omega))
  clear ho1 HO HS HR4
  go_wp2_with fail
  refine bodyPost_ret (v := .tuple #[.agg #[.int .i64 (a + n), .int .i64 b, .int .i64 c, .int .i64 d], .int .i64 0]) (by simp [results, Try.results28, go_sem, HE.out.1, HE.out.2.1, HE.out.2.2.1, HE.out.2.2.2.1]) rfl ⟨rfl, HF.out.then HE.out.2.2.2.2 (fun q hq e => by omega)⟩
set_option maxRecDepth 100000 in
theorem add_ok_1 (a b c d n : Int) (h : Q4 a b c d) (h0 : 0 ≤ n) (hn : n ≤ 1125899906842624 - b) (w : World) : Calls Try.prog 28 #[.agg #[.int .i64 a, .int .i64 b, .int .i64 c, .int .i64 d], .int .i64 1, .int .i64 n] w fun e w' => e = .returned (.tuple #[.agg #[.int .i64 a, .int .i64 (b + n), .int .i64 c, .int .i64 d], .int .i64 0]) ∧ Only (fun _ => False) w w' := by
  have HO : Hid (∀ o o2, Only (fun _ => False) w ((w.alloc o).alloc o2)) := Lib.hid (fun o o2 => ((Only.refl _ w).alloc o).alloc o2)
  have HQ := Lib.hid h
  obtain ⟨⟨a1, a2⟩, ⟨b1, b2⟩, ⟨c1, c2⟩, ⟨d1, d2⟩⟩ := h
  go_enter Try.func28, Try.ntmps28
  go_wp2_with fail
  refine (isright_any a b c d _).mono ?_
  rintro _ w1 ⟨rfl, ho1⟩
  rw [right_yes HQ.out]
  obtain ⟨p0, p1, p2, p3⟩ := box4 (g := w.heap.size) rfl (((Only.refl (fun _ => False) _).alloc _).trans ho1)
  have f0 : w1.frozen? ⟨w.heap.size, 1, none⟩ = false := ((((Only.refl (fun _ => False) _).alloc _).trans ho1).frozen (p := ⟨w.heap.size, 1, none⟩) (by simp) (fun f => f)).trans (alloc_froz _ _ _ _ _ rfl)
  have HR4 := (Four.new (w := w.alloc (.cells #[.int .i64 a, .int .i64 b, .int .i64 c, .int .i64 d] 63)) (x0 := .int .i64 0) (x1 := .int .i64 0) (x2 := .int .i64 0) (x3 := .int .i64 0) (t := 63) (g := w.heap.size + 1) (by simp)).only ho1 (fun f => f)
  have HS := Only.set (fun q => q = w.heap.size) w1 w.heap.size 1 (.int .i64 (b + n)) rfl
  have HE := Lib.hid ((HR4.only HS (fun e => by omega)).set (.int .i64 a) (.int .i64 (b + n)) (.int .i64 c) (.int .i64 d))
  obtain ⟨⟨_, r0⟩, ⟨_, r1⟩, ⟨_, r2⟩, ⟨_, r3⟩, g0, g1, g2, g3⟩ := HR4.only HS (fun e => by omega)
  have HF := Lib.hid (((HO.out _ _).trans ho1).then HS (fun q hq e => by omega))
  clear ho1 HO HS HR4
  go_wp2_with fail
  refine bodyPost_ret (v := .tuple #[.agg #[.int .i64 a, .int .i64 (b + n), .int .i64 c, .int .i64 d], .int .i64 0]) (by simp [results, Try.results28, go_sem, HE.out.1, HE.out.2.1, HE.out.2.2.1, HE.out.2.2.2.1]) rfl ⟨rfl, HF.out.then HE.out.2.2.2.2 (fun q hq e => by omega)⟩
set_option maxRecDepth 100000 in
theorem add_ok_2 (a b c d n : Int) (h : Q4 a b c d) (h0 : 0 ≤ n) (hn : n ≤ 1125899906842624 - c) (w : World) : Calls Try.prog 28 #[.agg #[.int .i64 a, .int .i64 b, .int .i64 c, .int .i64 d], .int .i64 2, .int .i64 n] w fun e w' => e = .returned (.tuple #[.agg #[.int .i64 a, .int .i64 b, .int .i64 (c + n), .int .i64 d], .int .i64 0]) ∧ Only (fun _ => False) w w' := by
  have HO : Hid (∀ o o2, Only (fun _ => False) w ((w.alloc o).alloc o2)) := Lib.hid (fun o o2 => ((Only.refl _ w).alloc o).alloc o2)
  have HQ := Lib.hid h
  obtain ⟨⟨a1, a2⟩, ⟨b1, b2⟩, ⟨c1, c2⟩, ⟨d1, d2⟩⟩ := h
  go_enter Try.func28, Try.ntmps28
  go_wp2_with fail
  refine (isright_any a b c d _).mono ?_
  rintro _ w1 ⟨rfl, ho1⟩
  rw [right_yes HQ.out]
  obtain ⟨p0, p1, p2, p3⟩ := box4 (g := w.heap.size) rfl (((Only.refl (fun _ => False) _).alloc _).trans ho1)
  have f0 : w1.frozen? ⟨w.heap.size, 2, none⟩ = false := ((((Only.refl (fun _ => False) _).alloc _).trans ho1).frozen (p := ⟨w.heap.size, 2, none⟩) (by simp) (fun f => f)).trans (alloc_froz _ _ _ _ _ rfl)
  have HR4 := (Four.new (w := w.alloc (.cells #[.int .i64 a, .int .i64 b, .int .i64 c, .int .i64 d] 63)) (x0 := .int .i64 0) (x1 := .int .i64 0) (x2 := .int .i64 0) (x3 := .int .i64 0) (t := 63) (g := w.heap.size + 1) (by simp)).only ho1 (fun f => f)
  have HS := Only.set (fun q => q = w.heap.size) w1 w.heap.size 2 (.int .i64 (c + n)) rfl
  have HE := Lib.hid ((HR4.only HS (fun e => by omega)).set (.int .i64 a) (.int .i64 b) (.int .i64 (c + n)) (.int .i64 d))
  obtain ⟨⟨_, r0⟩, ⟨_, r1⟩, ⟨_, r2⟩, ⟨_, r3⟩, g0, g1, g2, g3⟩ := HR4.only HS (fun e => by omega)
  have HF := Lib.hid (((HO.out _ _).trans ho1).then HS (fun q hq e => by omega))
  clear ho1 HO HS HR4
  go_wp2_with fail
  refine bodyPost_ret (v := .tuple #[.agg #[.int .i64 a, .int .i64 b, .int .i64 (c + n), .int .i64 d], .int .i64 0]) (by simp [results, Try.results28, go_sem, HE.out.1, HE.out.2.1, HE.out.2.2.1, HE.out.2.2.2.1]) rfl ⟨rfl, HF.out.then HE.out.2.2.2.2 (fun q hq e => by omega)⟩
set_option maxRecDepth 100000 in
theorem add_ok_3 (a b c d n : Int) (h : Q4 a b c d) (h0 : 0 ≤ n) (hn : n ≤ 1125899906842624 - d) (w : World) : Calls Try.prog 28 #[.agg #[.int .i64 a, .int .i64 b, .int .i64 c, .int .i64 d], .int .i64 3, .int .i64 n] w fun e w' => e = .returned (.tuple #[.agg #[.int .i64 a, .int .i64 b, .int .i64 c, .int .i64 (d + n)], .int .i64 0]) ∧ Only (fun _ => False) w w' := by
  have HO : Hid (∀ o o2, Only (fun _ => False) w ((w.alloc o).alloc o2)) := Lib.hid (fun o o2 => ((Only.refl _ w).alloc o).alloc o2)
  have HQ := Lib.hid h
  obtain ⟨⟨a1, a2⟩, ⟨b1, b2⟩, ⟨c1, c2⟩, ⟨d1, d2⟩⟩ := h
  go_enter Try.func28, Try.ntmps28
  go_wp2_with fail
  refine (isright_any a b c d _).mono ?_
  rintro _ w1 ⟨rfl, ho1⟩
  rw [right_yes HQ.out]
  obtain ⟨p0, p1, p2, p3⟩ := box4 (g := w.heap.size) rfl (((Only.refl (fun _ => False) _).alloc _).trans ho1)
  have f0 : w1.frozen? ⟨w.heap.size, 3, none⟩ = false := ((((Only.refl (fun _ => False) _).alloc _).trans ho1).frozen (p := ⟨w.heap.size, 3, none⟩) (by simp) (fun f => f)).trans (alloc_froz _ _ _ _ _ rfl)
  have HR4 := (Four.new (w := w.alloc (.cells #[.int .i64 a, .int .i64 b, .int .i64 c, .int .i64 d] 63)) (x0 := .int .i64 0) (x1 := .int .i64 0) (x2 := .int .i64 0) (x3 := .int .i64 0) (t := 63) (g := w.heap.size + 1) (by simp)).only ho1 (fun f => f)
  have HS := Only.set (fun q => q = w.heap.size) w1 w.heap.size 3 (.int .i64 (d + n)) rfl
  have HE := Lib.hid ((HR4.only HS (fun e => by omega)).set (.int .i64 a) (.int .i64 b) (.int .i64 c) (.int .i64 (d + n)))
  obtain ⟨⟨_, r0⟩, ⟨_, r1⟩, ⟨_, r2⟩, ⟨_, r3⟩, g0, g1, g2, g3⟩ := HR4.only HS (fun e => by omega)
  have HF := Lib.hid (((HO.out _ _).trans ho1).then HS (fun q hq e => by omega))
  clear ho1 HO HS HR4
  go_wp2_with fail
  refine bodyPost_ret (v := .tuple #[.agg #[.int .i64 a, .int .i64 b, .int .i64 c, .int .i64 (d + n)], .int .i64 0]) (by simp [results, Try.results28, go_sem, HE.out.1, HE.out.2.1, HE.out.2.2.1, HE.out.2.2.2.1]) rfl ⟨rfl, HF.out.then HE.out.2.2.2.2 (fun q hq e => by omega)⟩
set_option maxRecDepth 100000 in
theorem total_yes (a b c d : Int) (h : Q4 a b c d) (w : World) : Calls Try.prog 29 #[.agg #[.int .i64 a, .int .i64 b, .int .i64 c, .int .i64 d]] w fun e w' => e = .returned (.int .i64 (a + b + c + d)) ∧ Only (fun _ => False) w w' := by
  have HQ := Lib.hid h
  have hsum : [a, b, c, d].sum = a + b + c + d := by simp; omega
  have hi : intOr (a + b + c + d) = a + b + c + d ∧ isInt (a + b + c + d) = true := by
    obtain ⟨⟨_, _⟩, ⟨_, _⟩, ⟨_, _⟩, ⟨_, _⟩⟩ := h
    have e : isInt (a + b + c + d) = true := by rw [isInt_iff]; omega
    refine ⟨?_, e⟩
    unfold intOr
    rw [e]; rfl
  have HS : Hid (∀ w' k, ReadsI w' (some k) 4 [a, b, c, d] → Calls Try.prog 37 #[.slice (some k) 4 4] w' fun e w'' => e = .returned (.tuple #[.int .i64 (a + b + c + d), .bool true]) ∧ w' = w'') := Lib.hid (fun w' k hr => by
    have := asum_any (some k) 4 4 [a, b, c, d] w' hr
    rw [hsum, hi.1, hi.2] at this
    exact this)
  clear h hsum hi
  generalize a + b + c + d = t at *
  have HO : Hid (∀ o, Only (fun _ => False) w (w.alloc o)) := Lib.hid (fun o => (Only.refl _ w).alloc o)
  go_enter Try.func29, Try.ntmps29
  go_wp2_with fail
  refine (isright_any a b c d _).mono ?_
  rintro _ w1 ⟨rfl, ho1⟩
  rw [right_yes HQ.out]
  have p0 := ho1.cell' (p := ⟨w.heap.size, 0, none⟩) (v := .int .i64 a) (alloc_new _ _ _ _ _ _ rfl rfl) (fun f => f)
  have p1 := ho1.cell' (p := ⟨w.heap.size, 1, none⟩) (v := .int .i64 b) (alloc_new _ _ _ _ _ _ rfl rfl) (fun f => f)
  have p2 := ho1.cell' (p := ⟨w.heap.size, 2, none⟩) (v := .int .i64 c) (alloc_new _ _ _ _ _ _ rfl rfl) (fun f => f)
  have p3 := ho1.cell' (p := ⟨w.heap.size, 3, none⟩) (v := .int .i64 d) (alloc_new _ _ _ _ _ _ rfl rfl) (fun f => f)
  have HF := Lib.hid ((HO.out _).trans ho1)
  have HP := Lib.hid (And.intro p0 (And.intro p1 (And.intro p2 p3)))
  clear ho1 HO
  go_wp2_with fail
  refine (HS.out _ _ ?_).mono ?_
  · obtain ⟨⟨_, _⟩, ⟨_, _⟩, ⟨_, _⟩, ⟨_, _⟩⟩ := HQ.out
    refine ⟨rfl, by unfold maxLen; omega, ?_, .inr ⟨w.heap.size, 0, rfl, ?_⟩⟩
    · intro x hx
      simp at hx
      rcases hx with rfl | rfl | rfl | rfl <;> omega
    · intro i hi
      have h4 : i = 0 ∨ i = 1 ∨ i = 2 ∨ i = 3 := by omega
      rcases h4 with rfl | rfl | rfl | rfl
      · exact HP.out.1
      · exact HP.out.2.1
      · exact HP.out.2.2.1
      · exact HP.out.2.2.2
  rintro _ _ ⟨rfl, rfl⟩
  clear p0 p1 p2 p3
  go_wp2_with fail
  go_ret
  exact ⟨rfl, HF.out⟩
/-- more in a quarter, whichever it is -/
theorem add_u (a b c d n k : Int) (h : Q4 a b c d) (h0 : 0 ≤ n) (hn : n + (a + b + c + d) ≤ 1125899906842624) (hk : 0 ≤ k ∧ k < 4) (w : World) : Calls Try.prog 28 #[.agg #[.int .i64 a, .int .i64 b, .int .i64 c, .int .i64 d], .int .i64 k, .int .i64 n] w fun e w' => ∃ a' b' c' d', e = .returned (.tuple #[.agg #[.int .i64 a', .int .i64 b', .int .i64 c', .int .i64 d'], .int .i64 0]) ∧ (Q4 a' b' c' d' ∧ a' + b' + c' + d' = a + b + c + d + n) ∧ Only (fun _ => False) w w' := by
  obtain ⟨⟨a1, a2⟩, ⟨b1, b2⟩, ⟨c1, c2⟩, ⟨d1, d2⟩⟩ := id h
  rcases (show k = 0 ∨ k = 1 ∨ k = 2 ∨ k = 3 by omega) with rfl | rfl | rfl | rfl
  · exact (add_ok_0 a b c d n h h0 (by omega) w).mono fun _ _ ⟨e, o⟩ => ⟨_, _, _, _, e, ⟨⟨⟨by omega, by omega⟩, ⟨b1, b2⟩, ⟨c1, c2⟩, d1, d2⟩, by omega⟩, o⟩
  · exact (add_ok_1 a b c d n h h0 (by omega) w).mono fun _ _ ⟨e, o⟩ => ⟨_, _, _, _, e, ⟨⟨⟨a1, a2⟩, ⟨by omega, by omega⟩, ⟨c1, c2⟩, d1, d2⟩, by omega⟩, o⟩
  · exact (add_ok_2 a b c d n h h0 (by omega) w).mono fun _ _ ⟨e, o⟩ => ⟨_, _, _, _, e, ⟨⟨⟨a1, a2⟩, ⟨b1, b2⟩, ⟨by omega, by omega⟩, d1, d2⟩, by omega⟩, o⟩
  · exact (add_ok_3 a b c d n h h0 (by omega) w).mono fun _ _ ⟨e, o⟩ => ⟨_, _, _, _, e, ⟨⟨⟨a1, a2⟩, ⟨b1, b2⟩, ⟨c1, c2⟩, by omega, by omega⟩, by omega⟩, o⟩
end Go.Proofs.Ytghajamcjcflaaa.rhyz
