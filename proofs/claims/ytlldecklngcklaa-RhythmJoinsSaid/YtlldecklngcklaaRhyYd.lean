/- RhythmJoins's walk. -/
import Derived.Test.YtlldecklngcklaaRhyX
namespace Go.Proofs.Ytlldecklngcklaa.rhyw
open Go.RowKit mem fltm rhym intm bigm bigw
set_option linter.unusedVariables false

set_option maxRecDepth 100000 in
set_option maxHeartbeats 4000000 in
theorem joins_ok0 (a0 a1 a2 a3 b0 b1 b2 b3 n : Int) (ha : rightB a0 a1 a2 a3 = true) (hb : rightB b0 b1 b2 b3 = true) (hs : rightB (a0 + b0) (a1 + b1) (a2 + b2) (a3 + b3) = true) (E : Int) (hE : IntKind.u64.wrap n % 1125899906842624 = E) (hg : rightB (a0 + E) (a1 + E) (a2 + E) (a3 + E) = false) (w : World) : Calls Try.prog 14 #[.agg #[.int .i64 a0, .int .i64 a1, .int .i64 a2, .int .i64 a3], .agg #[.int .i64 b0, .int .i64 b1, .int .i64 b2, .int .i64 b3], .int .i64 n] w fun e w' => e = .returned (.bool true) ∧ Only (fun _ => False) w w' := by
  have HJ : Hid (∀ w, Calls Try.prog 68 #[.agg #[.int .i64 a0, .int .i64 a1, .int .i64 a2, .int .i64 a3], .agg #[.int .i64 b0, .int .i64 b1, .int .i64 b2, .int .i64 b3]] w fun e w' => e = .returned (.tuple #[.agg #[.int .i64 (a0 + b0), .int .i64 (a1 + b1), .int .i64 (a2 + b2), .int .i64 (a3 + b3)], .int .i64 0]) ∧ Only (fun _ => False) w w') := Lib.hid (fun w => join_ok a0 a1 a2 a3 b0 b1 b2 b3 ha hb hs w)
  have HRJ : Hid (∀ w, Calls Try.prog 69 #[.agg #[.int .i64 a0, .int .i64 a1, .int .i64 a2, .int .i64 a3], .agg #[.int .i64 b0, .int .i64 b1, .int .i64 b2, .int .i64 b3]] w fun e w' => e = .returned (.tuple #[.agg #[.int .i64 (a0 + b0), .int .i64 (a1 + b1), .int .i64 (a2 + b2), .int .i64 (a3 + b3)], .int .i64 0]) ∧ Only (fun _ => False) w w') := Lib.hid (fun w => rjoin_ok a0 a1 a2 a3 b0 b1 b2 b3 ha hb hs w)
  have tE : (IntKind.u64.wrap n).tmod 1125899906842624 = E := by rw [Int.tmod_eq_emod_of_nonneg (by rw [u64_wrap]; omega)]; exact hE
  have hE2 : 0 ≤ E ∧ E < 1125899906842624 := by rw [← hE, u64_wrap]; omega
  have wE : IntKind.i64.wrap E = E := by rw [wrap_i64]; omega
  have wE2 : wrap64 E = E := by rw [wrap64_eq]; omega
  have he : rightB E E E E = true := right_yes ⟨⟨by omega, by omega⟩, ⟨by omega, by omega⟩, ⟨by omega, by omega⟩, ⟨by omega, by omega⟩⟩
  have HJ2 : Hid (∀ w, Calls Try.prog 68 #[.agg #[.int .i64 a0, .int .i64 a1, .int .i64 a2, .int .i64 a3], .agg #[.int .i64 E, .int .i64 E, .int .i64 E, .int .i64 E]] w fun e w' => e = .returned (.tuple #[.agg #[.int .i64 0, .int .i64 0, .int .i64 0, .int .i64 0], .int .i64 6]) ∧ Only (fun _ => False) w w') := Lib.hid (fun w => join_over a0 a1 a2 a3 E E E E ha he hg w)
  obtain ⟨⟨a01, a02⟩, ⟨a11, a12⟩, ⟨a21, a22⟩, ⟨a31, a32⟩⟩ := right_of ha
  obtain ⟨⟨b01, b02⟩, ⟨b11, b12⟩, ⟨b21, b22⟩, ⟨b31, b32⟩⟩ := right_of hb
  have HVr := Lib.hid (vector_yes a0 a1 a2 a3 (right_of ha))
  have HVs := Lib.hid (vector_yes b0 b1 b2 b3 (right_of hb))
  have HVt := Lib.hid (vector_yes (a0 + b0) (a1 + b1) (a2 + b2) (a3 + b3) (right_of hs))
  have e1 : a0 + b0 - (a2 + b2) = (a0 - a2) + (b0 - b2) := by omega
  have e2 : a1 + b1 - (a3 + b3) = (a1 - a3) + (b1 - b3) := by omega
  rw [e1, e2] at HVt
  have addX : ∀ (t : TypeId) (w : World), (binOp .add t (.float .f64 (fl (a0 - a2))) (.float .f64 (fl (b0 - b2)))).run Try.prog w = .ok (.float .f64 (fl ((a0 - a2) + (b0 - b2)))) w := fun t w => run_float_arith w .add t .f64 _ _ _ (add_fl (by omega) (by omega) (by omega))
  have addY : ∀ (t : TypeId) (w : World), (binOp .add t (.float .f64 (fl (a1 - a3))) (.float .f64 (fl (b1 - b3)))).run Try.prog w = .ok (.float .f64 (fl ((a1 - a3) + (b1 - b3)))) w := fun t w => run_float_arith w .add t .f64 _ _ _ (add_fl (by omega) (by omega) (by omega))
  have q3 : (FloatKind.f64.format.order (fl ((a0 - a2) + (b0 - b2))) (fl ((a0 - a2) + (b0 - b2))) == some Ordering.eq) = true := (eq_fl (by omega) (by omega)).trans (by simp)
  have q4 : (FloatKind.f64.format.order (fl ((a1 - a3) + (b1 - b3))) (fl ((a1 - a3) + (b1 - b3))) == some Ordering.eq) = true := (eq_fl (by omega) (by omega)).trans (by simp)
  have q1 : (FloatKind.f64.format.order (fl (a0 - a2)) (fl (a0 - a2)) == some Ordering.eq) = true := (eq_fl (by omega) (by omega)).trans (by simp)
  have q2 : (FloatKind.f64.format.order (fl (a1 - a3)) (fl (a1 - a3)) == some Ordering.eq) = true := (eq_fl (by omega) (by omega)).trans (by simp)
  clear hE hE2 he a01 a02 a11 a12 a21 a22 a31 a32 b01 b02 b11 b12 b21 b22 b31 b32 e1 e2 ha hb hs hg
  generalize fl ((a0 - a2) + (b0 - b2)) = X3 at *
  generalize fl ((a1 - a3) + (b1 - b3)) = Y3 at *
  generalize fl (a0 - a2) = X1 at *
  generalize fl (a1 - a3) = Y1 at *
  generalize fl (b0 - b2) = X2 at *
  generalize fl (b1 - b3) = Y2 at *
  have EQ1 : ∀ w : World, (Op.equalIn 10000 108 (.agg #[.int .i64 (a0 + b0), .int .i64 (a1 + b1), .int .i64 (a2 + b2), .int .i64 (a3 + b3)]) (.agg #[.int .i64 (a0 + b0), .int .i64 (a1 + b1), .int .i64 (a2 + b2), .int .i64 (a3 + b3)])).run Try.prog w = .ok true w := fun w => (eq4_run 9998 (a0 + b0) (a1 + b1) (a2 + b2) (a3 + b3) (a0 + b0) (a1 + b1) (a2 + b2) (a3 + b3) w).trans (by simp)
  go_enter Try.func14, Try.ntmps14
  go_wp2_with fail
  go_region
  · obtain ⟨W0, hW0⟩ : ∃ W0, W0 = (((((w.alloc (.cells #[.int .i64 a0, .int .i64 a1, .int .i64 a2, .int .i64 a3] 108)).alloc (.cells #[.int .i64 b0, .int .i64 b1, .int .i64 b2, .int .i64 b3] 108))).alloc (.cells #[.int .i64 a0, .int .i64 a1, .int .i64 a2, .int .i64 a3] 110)).alloc (.cells #[.int .i64 b0, .int .i64 b1, .int .i64 b2, .int .i64 b3] 110)).drew := ⟨_, rfl⟩
    have HF0 : Hid (Only (fun _ => False) w W0) := Lib.hid (by rw [hW0]; exact ((((Only.refl _ w).alloc _).alloc _).alloc _).alloc _ |>.drew)
    have HC0 : Hid (∀ w', Only (fun _ => False) W0 w' → (w'.cell? ⟨w.heap.size, 0, none⟩ = some (.int .i64 a0) ∧ w'.cell? ⟨w.heap.size, 1, none⟩ = some (.int .i64 a1) ∧ w'.cell? ⟨w.heap.size, 2, none⟩ = some (.int .i64 a2) ∧ w'.cell? ⟨w.heap.size, 3, none⟩ = some (.int .i64 a3)) ∧ (w'.cell? ⟨w.heap.size + 1, 0, none⟩ = some (.int .i64 b0) ∧ w'.cell? ⟨w.heap.size + 1, 1, none⟩ = some (.int .i64 b1) ∧ w'.cell? ⟨w.heap.size + 1, 2, none⟩ = some (.int .i64 b2) ∧ w'.cell? ⟨w.heap.size + 1, 3, none⟩ = some (.int .i64 b3)) ∧ (w'.cell? ⟨w.heap.size + 1 + 1, 0, none⟩ = some (.int .i64 a0) ∧ w'.cell? ⟨w.heap.size + 1 + 1, 1, none⟩ = some (.int .i64 a1) ∧ w'.cell? ⟨w.heap.size + 1 + 1, 2, none⟩ = some (.int .i64 a2) ∧ w'.cell? ⟨w.heap.size + 1 + 1, 3, none⟩ = some (.int .i64 a3)) ∧ (w'.cell? ⟨w.heap.size + 1 + 1 + 1, 0, none⟩ = some (.int .i64 b0) ∧ w'.cell? ⟨w.heap.size + 1 + 1 + 1, 1, none⟩ = some (.int .i64 b1) ∧ w'.cell? ⟨w.heap.size + 1 + 1 + 1, 2, none⟩ = some (.int .i64 b2) ∧ w'.cell? ⟨w.heap.size + 1 + 1 + 1, 3, none⟩ = some (.int .i64 b3))) := Lib.hid (fun w' ho => by
      rw [hW0] at ho
      exact ⟨box4 rfl (((((Only.refl (fun _ => False) _).alloc _).alloc _).alloc _).drew.trans ho), box4 (by simp) ((((Only.refl (fun _ => False) _).alloc _).alloc _).drew.trans ho), box4 (by simp) (((Only.refl (fun _ => False) _).alloc _).drew.trans ho), box4 (by simp) ((Only.refl (fun _ => False) _).drew.trans ho)⟩)
    rw [← hW0]
    clear hW0
    obtain ⟨⟨p0, p1, p2, p3⟩, ⟨q0, q1, q2, q3⟩, ⟨r0, r1, r2, r3⟩, ⟨s0, s1, s2, s3⟩⟩ := HC0.out W0 (Only.refl _ _)
    go_wp2_with fail
    refine (HJ.out _).mono ?_
    rintro _ w1 ⟨rfl, h1⟩
    clear p0 p1 p2 p3 q0 q1 q2 q3 r0 r1 r2 r3 s0 s1 s2 s3
    obtain ⟨W1, hW1⟩ : ∃ W1, W1 = w1.alloc (.cells #[.int .i64 (a0 + b0), .int .i64 (a1 + b1), .int .i64 (a2 + b2), .int .i64 (a3 + b3)] 110) := ⟨_, rfl⟩
    have H1 : Hid (Only (fun _ => False) W0 W1) := Lib.hid (by rw [hW1]; exact h1.alloc _)
    have HC1 : Hid (∀ w', Only (fun _ => False) W1 w' → (w'.cell? ⟨w1.heap.size, 0, none⟩ = some (.int .i64 (a0 + b0)) ∧ w'.cell? ⟨w1.heap.size, 1, none⟩ = some (.int .i64 (a1 + b1)) ∧ w'.cell? ⟨w1.heap.size, 2, none⟩ = some (.int .i64 (a2 + b2)) ∧ w'.cell? ⟨w1.heap.size, 3, none⟩ = some (.int .i64 (a3 + b3)))) := Lib.hid (fun w' ho => by rw [hW1] at ho; exact box4 rfl ho)
    clear h1
    obtain ⟨⟨p0, p1, p2, p3⟩, ⟨q0, q1, q2, q3⟩, _⟩ := HC0.out W1 H1.out
    rw [hW1] at p0 p1 p2 p3 q0 q1 q2 q3
    go_wp2_with fail
    rw [← hW1]
    clear hW1 p0 p1 p2 p3 q0 q1 q2 q3
    refine (HRJ.out _).mono ?_
    rintro _ w2 ⟨rfl, h2⟩
    obtain ⟨W2, hW2⟩ : ∃ W2, W2 = w2.alloc (.cells #[.int .i64 (a0 + b0), .int .i64 (a1 + b1), .int .i64 (a2 + b2), .int .i64 (a3 + b3)] 108) := ⟨_, rfl⟩
    have H2 : Hid (Only (fun _ => False) W1 W2) := Lib.hid (by rw [hW2]; exact h2.alloc _)
    have HC2 : Hid (∀ w', Only (fun _ => False) W2 w' → (w'.cell? ⟨w2.heap.size, 0, none⟩ = some (.int .i64 (a0 + b0)) ∧ w'.cell? ⟨w2.heap.size, 1, none⟩ = some (.int .i64 (a1 + b1)) ∧ w'.cell? ⟨w2.heap.size, 2, none⟩ = some (.int .i64 (a2 + b2)) ∧ w'.cell? ⟨w2.heap.size, 3, none⟩ = some (.int .i64 (a3 + b3)))) := Lib.hid (fun w' ho => by rw [hW2] at ho; exact box4 rfl ho)
    clear h2
    go_wp2_with fail
    rw [← hW2]
    clear hW2
    refine (beats_any _).mono ?_
    rintro _ w3 ⟨rfl, h3⟩
    have H3 : Hid (Only (fun _ => False) W1 w3) := Lib.hid (H2.out.trans h3)
    obtain ⟨t0, t1, t2, t3⟩ := HC1.out w3 H3.out
    obtain ⟨u0, u1, u2, u3⟩ := HC2.out w3 h3
    obtain ⟨_, _, ⟨r0, r1, r2, r3⟩, _⟩ := HC0.out w3 (H1.out.trans H3.out)
    clear h3
    go_wp2_with fail
    refine (HJ2.out _).mono ?_
    rintro _ w4 ⟨rfl, h4⟩
    clear t0 t1 t2 t3 u0 u1 u2 u3 r0 r1 r2 r3
    obtain ⟨W4, hW4⟩ : ∃ W4, W4 = w4.alloc (.cells #[.int .i64 0, .int .i64 0, .int .i64 0, .int .i64 0] 110) := ⟨_, rfl⟩
    have H4 : Hid (Only (fun _ => False) W1 W4) := Lib.hid (by rw [hW4]; exact (H3.out.trans h4).alloc _)
    have HC4 : Hid (∀ w', Only (fun _ => False) W4 w' → (w'.cell? ⟨w4.heap.size, 0, none⟩ = some (.int .i64 0) ∧ w'.cell? ⟨w4.heap.size, 1, none⟩ = some (.int .i64 0) ∧ w'.cell? ⟨w4.heap.size, 2, none⟩ = some (.int .i64 0) ∧ w'.cell? ⟨w4.heap.size, 3, none⟩ = some (.int .i64 0))) := Lib.hid (fun w' ho => by rw [hW4] at ho; exact box4 rfl ho)
    have HSA : Hid (∀ w', Only (fun _ => False) W4 w' → Only (fun _ => False) W4 w' ∧ (w'.cell? ⟨w.heap.size + 1 + 1, 0, none⟩ = some (.int .i64 a0) ∧ w'.cell? ⟨w.heap.size + 1 + 1, 1, none⟩ = some (.int .i64 a1) ∧ w'.cell? ⟨w.heap.size + 1 + 1, 2, none⟩ = some (.int .i64 a2) ∧ w'.cell? ⟨w.heap.size + 1 + 1, 3, none⟩ = some (.int .i64 a3)) ∧ (w'.cell? ⟨w.heap.size + 1 + 1 + 1, 0, none⟩ = some (.int .i64 b0) ∧ w'.cell? ⟨w.heap.size + 1 + 1 + 1, 1, none⟩ = some (.int .i64 b1) ∧ w'.cell? ⟨w.heap.size + 1 + 1 + 1, 2, none⟩ = some (.int .i64 b2) ∧ w'.cell? ⟨w.heap.size + 1 + 1 + 1, 3, none⟩ = some (.int .i64 b3)) ∧ (w'.cell? ⟨w1.heap.size, 0, none⟩ = some (.int .i64 (a0 + b0)) ∧ w'.cell? ⟨w1.heap.size, 1, none⟩ = some (.int .i64 (a1 + b1)) ∧ w'.cell? ⟨w1.heap.size, 2, none⟩ = some (.int .i64 (a2 + b2)) ∧ w'.cell? ⟨w1.heap.size, 3, none⟩ = some (.int .i64 (a3 + b3)))) := Lib.hid (fun w' ho => ⟨ho, (HC0.out w' (H1.out.trans (H4.out.trans ho))).2.2.1, (HC0.out w' (H1.out.trans (H4.out.trans ho))).2.2.2, HC1.out w' (H4.out.trans ho)⟩)
    clear h4
    go_wp2_with fail
    rw [← hW4]
    clear hW4
    obtain ⟨_, ⟨r0, r1, r2, r3⟩, ⟨s0, s1, s2, s3⟩, ⟨t0, t1, t2, t3⟩⟩ := HSA.out W4 (Only.refl _ _)
    go_region_held3 (fun w' => Only (fun _ => False) W4 w' ∧ (w'.cell? ⟨w.heap.size + 1 + 1, 0, none⟩ = some (.int .i64 a0) ∧ w'.cell? ⟨w.heap.size + 1 + 1, 1, none⟩ = some (.int .i64 a1) ∧ w'.cell? ⟨w.heap.size + 1 + 1, 2, none⟩ = some (.int .i64 a2) ∧ w'.cell? ⟨w.heap.size + 1 + 1, 3, none⟩ = some (.int .i64 a3)) ∧ (w'.cell? ⟨w.heap.size + 1 + 1 + 1, 0, none⟩ = some (.int .i64 b0) ∧ w'.cell? ⟨w.heap.size + 1 + 1 + 1, 1, none⟩ = some (.int .i64 b1) ∧ w'.cell? ⟨w.heap.size + 1 + 1 + 1, 2, none⟩ = some (.int .i64 b2) ∧ w'.cell? ⟨w.heap.size + 1 + 1 + 1, 3, none⟩ = some (.int .i64 b3)) ∧ (w'.cell? ⟨w1.heap.size, 0, none⟩ = some (.int .i64 (a0 + b0)) ∧ w'.cell? ⟨w1.heap.size, 1, none⟩ = some (.int .i64 (a1 + b1)) ∧ w'.cell? ⟨w1.heap.size, 2, none⟩ = some (.int .i64 (a2 + b2)) ∧ w'.cell? ⟨w1.heap.size, 3, none⟩ = some (.int .i64 (a3 + b3))))
      ((refine HSA.out _ ?_; first | exact (Only.refl _ _).drew | exact Only.refl _ _ | exact ((Only.refl _ _).drew).trans ho | (go_split_ands; exact Only.trans (by assumption) ho)))
      (first | (go_at_call 62; (with_reducible refine (HVr.out _).mono ?_); rintro _ wn ⟨rfl, ho⟩) | (go_at_call 62; (with_reducible refine (HVs.out _).mono ?_); rintro _ wn ⟨rfl, ho⟩))
    have H5 : Hid (Only (fun _ => False) W4 wn) := Lib.hid (by go_split_ands; assumption)
    clear r0 r1 r2 r3 s0 s1 s2 s3 t0 t1 t2 t3
    obtain ⟨_, ⟨r0, r1, r2, r3⟩, ⟨s0, s1, s2, s3⟩, ⟨t0, t1, t2, t3⟩⟩ := HSA.out wn H5.out
    go_wp2_with fail
    refine (HVt.out _).mono ?_
    rintro _ w6 ⟨rfl, h6⟩
    have H6 : Hid (Only (fun _ => False) W4 w6) := Lib.hid (H5.out.trans h6)
    clear h6
    obtain ⟨u0, u1, u2, u3⟩ := HC4.out w6 H6.out
    go_wp2_with fail
    go_ret
    exact ⟨rfl, HF0.out.trans (H1.out.trans (H4.out.trans H6.out))⟩
  · obtain ⟨W0, hW0⟩ : ∃ W0, W0 = (((((w.alloc (.cells #[.int .i64 a0, .int .i64 a1, .int .i64 a2, .int .i64 a3] 108)).alloc (.cells #[.int .i64 b0, .int .i64 b1, .int .i64 b2, .int .i64 b3] 108))).alloc (.cells #[.int .i64 b0, .int .i64 b1, .int .i64 b2, .int .i64 b3] 110)).alloc (.cells #[.int .i64 a0, .int .i64 a1, .int .i64 a2, .int .i64 a3] 110)).drew := ⟨_, rfl⟩
    have HF0 : Hid (Only (fun _ => False) w W0) := Lib.hid (by rw [hW0]; exact ((((Only.refl _ w).alloc _).alloc _).alloc _).alloc _ |>.drew)
    have HC0 : Hid (∀ w', Only (fun _ => False) W0 w' → (w'.cell? ⟨w.heap.size, 0, none⟩ = some (.int .i64 a0) ∧ w'.cell? ⟨w.heap.size, 1, none⟩ = some (.int .i64 a1) ∧ w'.cell? ⟨w.heap.size, 2, none⟩ = some (.int .i64 a2) ∧ w'.cell? ⟨w.heap.size, 3, none⟩ = some (.int .i64 a3)) ∧ (w'.cell? ⟨w.heap.size + 1, 0, none⟩ = some (.int .i64 b0) ∧ w'.cell? ⟨w.heap.size + 1, 1, none⟩ = some (.int .i64 b1) ∧ w'.cell? ⟨w.heap.size + 1, 2, none⟩ = some (.int .i64 b2) ∧ w'.cell? ⟨w.heap.size + 1, 3, none⟩ = some (.int .i64 b3)) ∧ (w'.cell? ⟨w.heap.size + 1 + 1 + 1, 0, none⟩ = some (.int .i64 a0) ∧ w'.cell? ⟨w.heap.size + 1 + 1 + 1, 1, none⟩ = some (.int .i64 a1) ∧ w'.cell? ⟨w.heap.size + 1 + 1 + 1, 2, none⟩ = some (.int .i64 a2) ∧ w'.cell? ⟨w.heap.size + 1 + 1 + 1, 3, none⟩ = some (.int .i64 a3)) ∧ (w'.cell? ⟨w.heap.size + 1 + 1, 0, none⟩ = some (.int .i64 b0) ∧ w'.cell? ⟨w.heap.size + 1 + 1, 1, none⟩ = some (.int .i64 b1) ∧ w'.cell? ⟨w.heap.size + 1 + 1, 2, none⟩ = some (.int .i64 b2) ∧ w'.cell? ⟨w.heap.size + 1 + 1, 3, none⟩ = some (.int .i64 b3))) := Lib.hid (fun w' ho => by
      rw [hW0] at ho
      exact ⟨box4 rfl (((((Only.refl (fun _ => False) _).alloc _).alloc _).alloc _).drew.trans ho), box4 (by simp) ((((Only.refl (fun _ => False) _).alloc _).alloc _).drew.trans ho), box4 (by simp) ((Only.refl (fun _ => False) _).drew.trans ho), box4 (by simp) (((Only.refl (fun _ => False) _).alloc _).drew.trans ho)⟩)
    rw [← hW0]
    clear hW0
    obtain ⟨⟨p0, p1, p2, p3⟩, ⟨q0, q1, q2, q3⟩, ⟨r0, r1, r2, r3⟩, ⟨s0, s1, s2, s3⟩⟩ := HC0.out W0 (Only.refl _ _)
    go_wp2_with fail
    refine (HJ.out _).mono ?_
    rintro _ w1 ⟨rfl, h1⟩
    clear p0 p1 p2 p3 q0 q1 q2 q3 r0 r1 r2 r3 s0 s1 s2 s3
    obtain ⟨W1, hW1⟩ : ∃ W1, W1 = w1.alloc (.cells #[.int .i64 (a0 + b0), .int .i64 (a1 + b1), .int .i64 (a2 + b2), .int .i64 (a3 + b3)] 110) := ⟨_, rfl⟩
    have H1 : Hid (Only (fun _ => False) W0 W1) := Lib.hid (by rw [hW1]; exact h1.alloc _)
    have HC1 : Hid (∀ w', Only (fun _ => False) W1 w' → (w'.cell? ⟨w1.heap.size, 0, none⟩ = some (.int .i64 (a0 + b0)) ∧ w'.cell? ⟨w1.heap.size, 1, none⟩ = some (.int .i64 (a1 + b1)) ∧ w'.cell? ⟨w1.heap.size, 2, none⟩ = some (.int .i64 (a2 + b2)) ∧ w'.cell? ⟨w1.heap.size, 3, none⟩ = some (.int .i64 (a3 + b3)))) := Lib.hid (fun w' ho => by rw [hW1] at ho; exact box4 rfl ho)
    clear h1
    obtain ⟨⟨p0, p1, p2, p3⟩, ⟨q0, q1, q2, q3⟩, _⟩ := HC0.out W1 H1.out
    rw [hW1] at p0 p1 p2 p3 q0 q1 q2 q3
    go_wp2_with fail
    rw [← hW1]
    clear hW1 p0 p1 p2 p3 q0 q1 q2 q3
    refine (HRJ.out _).mono ?_
    rintro _ w2 ⟨rfl, h2⟩
    obtain ⟨W2, hW2⟩ : ∃ W2, W2 = w2.alloc (.cells #[.int .i64 (a0 + b0), .int .i64 (a1 + b1), .int .i64 (a2 + b2), .int .i64 (a3 + b3)] 108) := ⟨_, rfl⟩
    have H2 : Hid (Only (fun _ => False) W1 W2) := Lib.hid (by rw [hW2]; exact h2.alloc _)
    have HC2 : Hid (∀ w', Only (fun _ => False) W2 w' → (w'.cell? ⟨w2.heap.size, 0, none⟩ = some (.int .i64 (a0 + b0)) ∧ w'.cell? ⟨w2.heap.size, 1, none⟩ = some (.int .i64 (a1 + b1)) ∧ w'.cell? ⟨w2.heap.size, 2, none⟩ = some (.int .i64 (a2 + b2)) ∧ w'.cell? ⟨w2.heap.size, 3, none⟩ = some (.int .i64 (a3 + b3)))) := Lib.hid (fun w' ho => by rw [hW2] at ho; exact box4 rfl ho)
    clear h2
    go_wp2_with fail
    rw [← hW2]
    clear hW2
    refine (beats_any _).mono ?_
    rintro _ w3 ⟨rfl, h3⟩
    have H3 : Hid (Only (fun _ => False) W1 w3) := Lib.hid (H2.out.trans h3)
    obtain ⟨t0, t1, t2, t3⟩ := HC1.out w3 H3.out
    obtain ⟨u0, u1, u2, u3⟩ := HC2.out w3 h3
    obtain ⟨_, _, ⟨r0, r1, r2, r3⟩, _⟩ := HC0.out w3 (H1.out.trans H3.out)
    clear h3
    go_wp2_with fail
    refine (HJ2.out _).mono ?_
    rintro _ w4 ⟨rfl, h4⟩
    clear t0 t1 t2 t3 u0 u1 u2 u3 r0 r1 r2 r3
    obtain ⟨W4, hW4⟩ : ∃ W4, W4 = w4.alloc (.cells #[.int .i64 0, .int .i64 0, .int .i64 0, .int .i64 0] 110) := ⟨_, rfl⟩
    have H4 : Hid (Only (fun _ => False) W1 W4) := Lib.hid (by rw [hW4]; exact (H3.out.trans h4).alloc _)
    have HC4 : Hid (∀ w', Only (fun _ => False) W4 w' → (w'.cell? ⟨w4.heap.size, 0, none⟩ = some (.int .i64 0) ∧ w'.cell? ⟨w4.heap.size, 1, none⟩ = some (.int .i64 0) ∧ w'.cell? ⟨w4.heap.size, 2, none⟩ = some (.int .i64 0) ∧ w'.cell? ⟨w4.heap.size, 3, none⟩ = some (.int .i64 0))) := Lib.hid (fun w' ho => by rw [hW4] at ho; exact box4 rfl ho)
    have HSA : Hid (∀ w', Only (fun _ => False) W4 w' → Only (fun _ => False) W4 w' ∧ (w'.cell? ⟨w.heap.size + 1 + 1 + 1, 0, none⟩ = some (.int .i64 a0) ∧ w'.cell? ⟨w.heap.size + 1 + 1 + 1, 1, none⟩ = some (.int .i64 a1) ∧ w'.cell? ⟨w.heap.size + 1 + 1 + 1, 2, none⟩ = some (.int .i64 a2) ∧ w'.cell? ⟨w.heap.size + 1 + 1 + 1, 3, none⟩ = some (.int .i64 a3)) ∧ (w'.cell? ⟨w.heap.size + 1 + 1, 0, none⟩ = some (.int .i64 b0) ∧ w'.cell? ⟨w.heap.size + 1 + 1, 1, none⟩ = some (.int .i64 b1) ∧ w'.cell? ⟨w.heap.size + 1 + 1, 2, none⟩ = some (.int .i64 b2) ∧ w'.cell? ⟨w.heap.size + 1 + 1, 3, none⟩ = some (.int .i64 b3)) ∧ (w'.cell? ⟨w1.heap.size, 0, none⟩ = some (.int .i64 (a0 + b0)) ∧ w'.cell? ⟨w1.heap.size, 1, none⟩ = some (.int .i64 (a1 + b1)) ∧ w'.cell? ⟨w1.heap.size, 2, none⟩ = some (.int .i64 (a2 + b2)) ∧ w'.cell? ⟨w1.heap.size, 3, none⟩ = some (.int .i64 (a3 + b3)))) := Lib.hid (fun w' ho => ⟨ho, (HC0.out w' (H1.out.trans (H4.out.trans ho))).2.2.1, (HC0.out w' (H1.out.trans (H4.out.trans ho))).2.2.2, HC1.out w' (H4.out.trans ho)⟩)
    clear h4
    go_wp2_with fail
    rw [← hW4]
    clear hW4
    obtain ⟨_, ⟨r0, r1, r2, r3⟩, ⟨s0, s1, s2, s3⟩, ⟨t0, t1, t2, t3⟩⟩ := HSA.out W4 (Only.refl _ _)
    go_region_held3 (fun w' => Only (fun _ => False) W4 w' ∧ (w'.cell? ⟨w.heap.size + 1 + 1 + 1, 0, none⟩ = some (.int .i64 a0) ∧ w'.cell? ⟨w.heap.size + 1 + 1 + 1, 1, none⟩ = some (.int .i64 a1) ∧ w'.cell? ⟨w.heap.size + 1 + 1 + 1, 2, none⟩ = some (.int .i64 a2) ∧ w'.cell? ⟨w.heap.size + 1 + 1 + 1, 3, none⟩ = some (.int .i64 a3)) ∧ (w'.cell? ⟨w.heap.size + 1 + 1, 0, none⟩ = some (.int .i64 b0) ∧ w'.cell? ⟨w.heap.size + 1 + 1, 1, none⟩ = some (.int .i64 b1) ∧ w'.cell? ⟨w.heap.size + 1 + 1, 2, none⟩ = some (.int .i64 b2) ∧ w'.cell? ⟨w.heap.size + 1 + 1, 3, none⟩ = some (.int .i64 b3)) ∧ (w'.cell? ⟨w1.heap.size, 0, none⟩ = some (.int .i64 (a0 + b0)) ∧ w'.cell? ⟨w1.heap.size, 1, none⟩ = some (.int .i64 (a1 + b1)) ∧ w'.cell? ⟨w1.heap.size, 2, none⟩ = some (.int .i64 (a2 + b2)) ∧ w'.cell? ⟨w1.heap.size, 3, none⟩ = some (.int .i64 (a3 + b3))))
      ((refine HSA.out _ ?_; first | exact (Only.refl _ _).drew | exact Only.refl _ _ | exact ((Only.refl _ _).drew).trans ho | (go_split_ands; exact Only.trans (by assumption) ho)))
      (first | (go_at_call 62; (with_reducible refine (HVr.out _).mono ?_); rintro _ wn ⟨rfl, ho⟩) | (go_at_call 62; (with_reducible refine (HVs.out _).mono ?_); rintro _ wn ⟨rfl, ho⟩))
    have H5 : Hid (Only (fun _ => False) W4 wn) := Lib.hid (by go_split_ands; assumption)
    clear r0 r1 r2 r3 s0 s1 s2 s3 t0 t1 t2 t3
    obtain ⟨_, ⟨r0, r1, r2, r3⟩, ⟨s0, s1, s2, s3⟩, ⟨t0, t1, t2, t3⟩⟩ := HSA.out wn H5.out
    go_wp2_with fail
    refine (HVt.out _).mono ?_
    rintro _ w6 ⟨rfl, h6⟩
    have H6 : Hid (Only (fun _ => False) W4 w6) := Lib.hid (H5.out.trans h6)
    clear h6
    obtain ⟨u0, u1, u2, u3⟩ := HC4.out w6 H6.out
    go_wp2_with fail
    go_ret
    exact ⟨rfl, HF0.out.trans (H1.out.trans (H4.out.trans H6.out))⟩
end Go.Proofs.Ytlldecklngcklaa.rhyw
