/- Rhythms: the vector, as two whole numbers. -/
import Derived.Test.YtlldecklngcklaaRhyA
namespace Go.Proofs.Ytlldecklngcklaa.rhyw
open Go.RowKit mem fltm rhym
set_option linter.unusedVariables false

theorem mul_run (k : Nat) {n : Int} {w : World} {t : TypeId} {x y p q : Nat} (h : cMulBits (fl n) 0 x y = some (p, q)) : (binOp .mul t (.complex .f64 (floatOfInt .f64 n) 0) (.complex .f64 x y)).run Try.prog w = .ok (.complex .f64 p q) w :=
  run_complex_mul w t _ _ _ _ _ _ h
theorem q1_nat {n : Int} (h : Q1 n) : n.natAbs < 9007199254740992 ∧ fl n = W false n.natAbs ∧ val false n.natAbs = n ∧ val true n.natAbs = -n := by
  obtain ⟨h1, h2⟩ := h
  refine ⟨by omega, fl_pos h1, ?_, ?_⟩
  · simp [val]; omega
  · simp [val]; omega
theorem add_run {w : World} {t : TypeId} {x y p q u v : Nat} (h : cSumBits .add .f64 x y p q = some (u, v)) : (binOp .add t (.complex .f64 x y) (.complex .f64 p q)).run Try.prog w = .ok (.complex .f64 u v) w :=
  run_complex_sum w .add (Or.inl rfl) t .f64 _ _ _ _ _ _ h
theorem turn_run {w : World} {t : TypeId} {x y p q u v : Nat} (h : cMulBits x y p q = some (u, v)) : (binOp .mul t (.complex .f64 x y) (.complex .f64 p q)).run Try.prog w = .ok (.complex .f64 u v) w :=
  run_complex_mul w t _ _ _ _ _ _ h

theorem step_0 {a : Int} (ha : Q1 a) : cSumBits .add .f64 0 0 (W false a.natAbs) 0 = some (fl a, 0) := by
  obtain ⟨h1, _, h3, _⟩ := q1_nat ha
  have e := csum_fl (v := 0) (u := 0) (x := a) (y := 0) (s := false) (t := false) (n := a.natAbs) (m := 0) (by omega) (by omega) h1 (by omega) (by rw [h3]; omega) (by simp [val]) (by rw [h3]; omega) (by simp [val])
  rw [fl_zero, W_ff] at e
  exact e
theorem step_1 {a b : Int} (ha : Q1 a) (hb : Q1 b) : cSumBits .add .f64 (fl a) 0 0 (W false b.natAbs) = some (fl a, fl b) := by
  obtain ⟨h1, _, h3, _⟩ := q1_nat hb
  obtain ⟨k1, _, k3, _⟩ := q1_nat ha
  have e := csum_fl (v := a) (u := 0) (x := a) (y := b) (s := false) (t := false) (n := 0) (m := b.natAbs) k1 (by omega) (by omega) h1 (by simp [val]; omega) (by rw [h3]; omega) (by simp [val]) (by rw [h3]; omega)
  rw [fl_zero, W_ff] at e
  exact e
theorem step_2 {a b c : Int} (ha : Q1 a) (hb : Q1 b) (hc : Q1 c) : cSumBits .add .f64 (fl a) (fl b) (W true c.natAbs) 0 = some (fl (a - c), fl b) := by
  obtain ⟨h1, _, h3, h4⟩ := q1_nat hc
  obtain ⟨k1, _, k3, _⟩ := q1_nat ha
  obtain ⟨g1, _, g3, _⟩ := q1_nat hb
  obtain ⟨a1, a2⟩ := ha
  obtain ⟨c1, c2⟩ := hc
  have e := csum_fl (v := a) (u := b) (x := a - c) (y := b) (s := true) (t := false) (n := c.natAbs) (m := 0) k1 g1 h1 (by omega) (by rw [h4]; omega) (by simp [val]; omega) (by rw [h4]; omega) (by simp [val])
  rw [W_ff] at e
  exact e
theorem step_3 {a b c d : Int} (ha : Q1 a) (hb : Q1 b) (hc : Q1 c) (hd : Q1 d) : cSumBits .add .f64 (fl (a - c)) (fl b) 0 (W true d.natAbs) = some (fl (a - c), fl (b - d)) := by
  obtain ⟨h1, _, h3, h4⟩ := q1_nat hd
  obtain ⟨g1, _, g3, _⟩ := q1_nat hb
  obtain ⟨a1, a2⟩ := ha
  obtain ⟨b1, b2⟩ := hb
  obtain ⟨c1, c2⟩ := hc
  obtain ⟨d1, d2⟩ := hd
  have e := csum_fl (v := a - c) (u := b) (x := a - c) (y := b - d) (s := false) (t := true) (n := 0) (m := d.natAbs) (by omega) g1 (by omega) h1 (by simp [val]; omega) (by rw [h4]; omega) (by simp [val]) (by rw [h4]; omega)
  rw [W_ff] at e
  exact e

set_option maxRecDepth 100000 in
theorem vector_yes (a b c d : Int) (h : Q4 a b c d) (w : World) : Calls Try.prog 62 #[.agg #[.int .i64 a, .int .i64 b, .int .i64 c, .int .i64 d]] w fun e w' => e = .returned (.complex .f64 (fl (a - c)) (fl (b - d))) ∧ Only (fun _ => False) w w' := by
  have HQ := Lib.hid h
  clear h
  have i0 : ∀ w : World, (Instr.index 108 (.agg #[.int .i64 a, .int .i64 b, .int .i64 c, .int .i64 d]) (.int .i64 0)).run Try.prog w = .ok (.int .i64 a) w := fun _ => by kernel_rfl
  have i1 : ∀ w : World, (Instr.index 108 (.agg #[.int .i64 a, .int .i64 b, .int .i64 c, .int .i64 d]) (.int .i64 1)).run Try.prog w = .ok (.int .i64 b) w := fun _ => by kernel_rfl
  have i2 : ∀ w : World, (Instr.index 108 (.agg #[.int .i64 a, .int .i64 b, .int .i64 c, .int .i64 d]) (.int .i64 2)).run Try.prog w = .ok (.int .i64 c) w := fun _ => by kernel_rfl
  have i3 : ∀ w : World, (Instr.index 108 (.agg #[.int .i64 a, .int .i64 b, .int .i64 c, .int .i64 d]) (.int .i64 3)).run Try.prog w = .ok (.int .i64 d) w := fun _ => by kernel_rfl
  have m0 : ∀ (t : TypeId) (w : World), (binOp .mul t (.complex .f64 (floatOfInt .f64 a) 0) (.complex .f64 4607182418800017408 0)).run Try.prog w = .ok (.complex .f64 (W false a.natAbs) 0) w := fun t w => mul_run 0 (by rw [(q1_nat HQ.out.1).2.1]; exact cmul_0 _ (q1_nat HQ.out.1).1)
  have s0 : ∀ (t : TypeId) (w : World), (binOp .add t (.complex .f64 0 0) (.complex .f64 (W false a.natAbs) 0)).run Try.prog w = .ok (.complex .f64 (fl a) 0) w := fun t w => add_run (step_0 HQ.out.1)
  have t0 : ∀ (t : TypeId) (w : World), (binOp .mul t (.complex .f64 4607182418800017408 0) (.complex .f64 0 4607182418800017408)).run Try.prog w = .ok (.complex .f64 0 4607182418800017408) w := fun t w => turn_run cturn_0
  have m1 : ∀ (t : TypeId) (w : World), (binOp .mul t (.complex .f64 (floatOfInt .f64 b) 0) (.complex .f64 0 4607182418800017408)).run Try.prog w = .ok (.complex .f64 0 (W false b.natAbs)) w := fun t w => mul_run 0 (by rw [(q1_nat HQ.out.2.1).2.1]; exact cmul_1 _ (q1_nat HQ.out.2.1).1)
  have s1 : ∀ (t : TypeId) (w : World), (binOp .add t (.complex .f64 (fl a) 0) (.complex .f64 0 (W false b.natAbs))).run Try.prog w = .ok (.complex .f64 (fl a) (fl b)) w := fun t w => add_run (step_1 HQ.out.1 HQ.out.2.1)
  have t1 : ∀ (t : TypeId) (w : World), (binOp .mul t (.complex .f64 0 4607182418800017408) (.complex .f64 0 4607182418800017408)).run Try.prog w = .ok (.complex .f64 13830554455654793216 0) w := fun t w => turn_run cturn_1
  have m2 : ∀ (t : TypeId) (w : World), (binOp .mul t (.complex .f64 (floatOfInt .f64 c) 0) (.complex .f64 13830554455654793216 0)).run Try.prog w = .ok (.complex .f64 (W true c.natAbs) 0) w := fun t w => mul_run 0 (by rw [(q1_nat HQ.out.2.2.1).2.1]; exact cmul_2 _ (q1_nat HQ.out.2.2.1).1)
  have s2 : ∀ (t : TypeId) (w : World), (binOp .add t (.complex .f64 (fl a) (fl b)) (.complex .f64 (W true c.natAbs) 0)).run Try.prog w = .ok (.complex .f64 (fl (a - c)) (fl b)) w := fun t w => add_run (step_2 HQ.out.1 HQ.out.2.1 HQ.out.2.2.1)
  have t2 : ∀ (t : TypeId) (w : World), (binOp .mul t (.complex .f64 13830554455654793216 0) (.complex .f64 0 4607182418800017408)).run Try.prog w = .ok (.complex .f64 9223372036854775808 13830554455654793216) w := fun t w => turn_run cturn_2
  have m3 : ∀ (t : TypeId) (w : World), (binOp .mul t (.complex .f64 (floatOfInt .f64 d) 0) (.complex .f64 9223372036854775808 13830554455654793216)).run Try.prog w = .ok (.complex .f64 0 (W true d.natAbs)) w := fun t w => mul_run 0 (by rw [(q1_nat HQ.out.2.2.2).2.1]; exact cmul_3 _ (q1_nat HQ.out.2.2.2).1)
  have s3 : ∀ (t : TypeId) (w : World), (binOp .add t (.complex .f64 (fl (a - c)) (fl b)) (.complex .f64 0 (W true d.natAbs))).run Try.prog w = .ok (.complex .f64 (fl (a - c)) (fl (b - d))) w := fun t w => add_run (step_3 HQ.out.1 HQ.out.2.1 HQ.out.2.2.1 HQ.out.2.2.2)
  have t3 : ∀ (t : TypeId) (w : World), (binOp .mul t (.complex .f64 9223372036854775808 13830554455654793216) (.complex .f64 0 4607182418800017408)).run Try.prog w = .ok (.complex .f64 4607182418800017408 9223372036854775808) w := fun t w => turn_run cturn_3
  have HO : Hid (∀ o, Only (fun _ => False) w (w.alloc o)) := Lib.hid (fun o => (Only.refl _ w).alloc o)
  go_enter Try.func62, Try.ntmps62
  go_wp2_with fail
  refine (isright_any a b c d _).mono ?_
  rintro _ w1 ⟨rfl, ho1⟩
  rw [right_yes HQ.out]
  have p0 := ho1.cell' (p := ⟨w.heap.size, 0, none⟩) (v := .int .i64 a) (alloc_new _ _ _ _ _ _ rfl rfl) (fun f => f)
  have p1 := ho1.cell' (p := ⟨w.heap.size, 1, none⟩) (v := .int .i64 b) (alloc_new _ _ _ _ _ _ rfl rfl) (fun f => f)
  have p2 := ho1.cell' (p := ⟨w.heap.size, 2, none⟩) (v := .int .i64 c) (alloc_new _ _ _ _ _ _ rfl rfl) (fun f => f)
  have p3 := ho1.cell' (p := ⟨w.heap.size, 3, none⟩) (v := .int .i64 d) (alloc_new _ _ _ _ _ _ rfl rfl) (fun f => f)
  have HF := Lib.hid ((HO.out _).trans ho1)
  clear ho1 HO
  go_wp2_with fail

  go_loopw [3, 4, 12] (fun s t i wr => Hid (Only (fun _ => False) w wr) ∧ ((i = .int .i64 0 ∧ s = .complex .f64 0 0 ∧ t = .complex .f64 4607182418800017408 0) ∨ (i = .int .i64 1 ∧ s = .complex .f64 (fl a) 0 ∧ t = .complex .f64 0 4607182418800017408) ∨ (i = .int .i64 2 ∧ s = .complex .f64 (fl a) (fl b) ∧ t = .complex .f64 13830554455654793216 0) ∨ (i = .int .i64 3 ∧ s = .complex .f64 (fl (a - c)) (fl b) ∧ t = .complex .f64 9223372036854775808 13830554455654793216) ∨ (i = .int .i64 4 ∧ s = .complex .f64 (fl (a - c)) (fl (b - d)) ∧ t = .complex .f64 4607182418800017408 9223372036854775808))) (fun _ _ i _ => 4 - (intOf i).toNat)
  case atStart => exact ⟨HF, .inl ⟨rfl, rfl, rfl⟩⟩
  case round =>
    obtain ⟨HW, hrel⟩ := hrel
    rcases hrel with ⟨rfl, rfl, rfl⟩ | ⟨rfl, rfl, rfl⟩ | ⟨rfl, rfl, rfl⟩ | ⟨rfl, rfl, rfl⟩ | ⟨rfl, rfl, rfl⟩
    · go_wp2_with (simp only [m0, s0, t0])
      exact ⟨⟨HW, .inr (.inl ⟨rfl, rfl, rfl⟩)⟩, by simp [intOf]⟩
    · go_wp2_with (simp only [m1, s1, t1])
      exact ⟨⟨HW, .inr (.inr (.inl ⟨rfl, rfl, rfl⟩))⟩, by simp [intOf]⟩
    · go_wp2_with (simp only [m2, s2, t2])
      exact ⟨⟨HW, .inr (.inr (.inr (.inl ⟨rfl, rfl, rfl⟩)))⟩, by simp [intOf]⟩
    · go_wp2_with (simp only [m3, s3, t3])
      exact ⟨⟨HW, .inr (.inr (.inr (.inr ⟨rfl, rfl, rfl⟩)))⟩, by simp [intOf]⟩
    · go_wp2_with fail
      go_ret
      exact ⟨rfl, HW.out⟩

set_option maxRecDepth 100000 in
theorem vector_no (a b c d : Int) (h : ¬ Q4 a b c d) (w : World) : Calls Try.prog 62 #[.agg #[.int .i64 a, .int .i64 b, .int .i64 c, .int .i64 d]] w fun e w' => e = .returned (.complex .f64 0 0) ∧ Only (fun _ => False) w w' := by
  have HO : Hid (∀ o, Only (fun _ => False) w (w.alloc o)) := Lib.hid (fun o => (Only.refl _ w).alloc o)
  go_enter Try.func62, Try.ntmps62
  go_wp2_with fail
  refine (isright_any a b c d _).mono ?_
  rintro _ w1 ⟨rfl, ho1⟩
  rw [right_no h]
  have HF := Lib.hid ((HO.out _).trans ho1)
  clear ho1 HO
  go_wp2_with fail
  go_ret
  exact ⟨rfl, HF.out⟩
theorem vector_any (a b c d : Int) (w : World) : Calls Try.prog 62 #[.agg #[.int .i64 a, .int .i64 b, .int .i64 c, .int .i64 d]] w fun e w' => e = .returned (.complex .f64 (fl (vx a b c d)) (fl (vy a b c d))) ∧ Only (fun _ => False) w w' := by
  unfold vx vy
  by_cases h : Q4 a b c d
  · rw [right_yes h, if_pos rfl, if_pos rfl]
    exact vector_yes a b c d h w
  · rw [right_no h, if_neg (by simp), if_neg (by simp), fl_zero]
    exact vector_no a b c d h w
end Go.Proofs.Ytlldecklngcklaa.rhyw
