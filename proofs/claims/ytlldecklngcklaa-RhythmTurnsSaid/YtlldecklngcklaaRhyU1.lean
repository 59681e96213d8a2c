/- RhythmTurns's walk. -/
import Derived.Test.YtlldecklngcklaaRhyV
namespace Go.Proofs.Ytlldecklngcklaa.rhyw
open Go.RowKit mem fltm rhym intm bigm bigw
set_option linter.unusedVariables false

set_option maxRecDepth 100000 in
set_option maxHeartbeats 4000000 in
theorem turns_1 (a b c d n : Int) (hm : n % 4 = 1) (w : World) : Calls Try.prog 13 #[.agg #[.int .i64 a, .int .i64 b, .int .i64 c, .int .i64 d], .int .i64 n] w fun e w' => e = .returned (.bool true) ∧ Only (fun _ => False) w w' := by
  have t0 : (IntKind.u64.wrap (IntKind.u64.wrap n)).tmod 4 = 1 := by rw [u64_wrap, u64_wrap, Int.tmod_eq_emod_of_nonneg (by omega)]; omega
  have t1 : (IntKind.u64.wrap (1 + IntKind.u64.wrap n)).tmod 4 = 2 := by rw [u64_wrap, u64_wrap, Int.tmod_eq_emod_of_nonneg (by omega)]; omega
  have t2 : (IntKind.u64.wrap (2 + IntKind.u64.wrap n)).tmod 4 = 3 := by rw [u64_wrap, u64_wrap, Int.tmod_eq_emod_of_nonneg (by omega)]; omega
  have t3 : (IntKind.u64.wrap (3 + IntKind.u64.wrap n)).tmod 4 = 0 := by rw [u64_wrap, u64_wrap, Int.tmod_eq_emod_of_nonneg (by omega)]; omega
  have HTN := Lib.hid (turn_1 a b c d n hm)
  have HTA := Lib.hid (turn_1 a b c d 1 (by decide))
  have HTB := Lib.hid (turn_1 d a b c 1 (by decide))
  have HTC := Lib.hid (turn_2 c d a b 2 (by decide))
  have HVR := Lib.hid (vector_any a b c d)
  have HVT := Lib.hid (vector_any d a b c)
  have HSR := Lib.hid (strength_any a b c d)
  have HST := Lib.hid (strength_any d a b c)
  have HTR := Lib.hid (total_any a b c d)
  have HTT := Lib.hid (total_any d a b c)
  rw [vx_turn a b c d, vy_turn a b c d] at HVT
  rw [(st_turn a b c d).1, (st_turn a b c d).2] at HST
  rw [tot_turn a b c d] at HTT
  have hb := v_bounds a b c d
  generalize stNQ a b c d = n3 at *
  generalize stBQ a b c d = n4 at *
  generalize totN a b c d = n5 at *
  generalize vx a b c d = x at *
  generalize vy a b c d = y at *
  obtain ⟨N, hN1, hN2⟩ := neg_any (v := y) (by omega)
  have hX : (FloatKind.f64.format.order (fl x) (fl x) == some Ordering.eq) = true := (eq_fl (by omega) (by omega)).trans (by simp)
  have EQ : ∀ w : World, (Op.equalIn 9999 108 (.agg #[.int .i64 a, .int .i64 b, .int .i64 c, .int .i64 d]) (.agg #[.int .i64 a, .int .i64 b, .int .i64 c, .int .i64 d])).run Try.prog w = .ok true w := fun w => (eq4_run 9997 a b c d a b c d w).trans (by simp)
  generalize fl (-y) = ny at *
  generalize fl x = xx at *
  generalize fl y = yy at *
  clear hb hm
  obtain ⟨W0, hW0⟩ : ∃ W0, W0 = (w.alloc (.cells #[.int .i64 a, .int .i64 b, .int .i64 c, .int .i64 d] 108)).alloc (.cells #[.int .i64 a, .int .i64 b, .int .i64 c, .int .i64 d] 110) := ⟨_, rfl⟩
  have HF0 : Hid (Only (fun _ => False) w W0) := Lib.hid (by rw [hW0]; exact ((Only.refl _ w).alloc _).alloc _)
  have HC0 : Hid (∀ w', Only (fun _ => False) W0 w' → (w'.cell? ⟨w.heap.size, 0, none⟩ = some (.int .i64 a) ∧ w'.cell? ⟨w.heap.size, 1, none⟩ = some (.int .i64 b) ∧ w'.cell? ⟨w.heap.size, 2, none⟩ = some (.int .i64 c) ∧ w'.cell? ⟨w.heap.size, 3, none⟩ = some (.int .i64 d)) ∧ (w'.cell? ⟨w.heap.size + 1, 0, none⟩ = some (.int .i64 a) ∧ w'.cell? ⟨w.heap.size + 1, 1, none⟩ = some (.int .i64 b) ∧ w'.cell? ⟨w.heap.size + 1, 2, none⟩ = some (.int .i64 c) ∧ w'.cell? ⟨w.heap.size + 1, 3, none⟩ = some (.int .i64 d))) := Lib.hid (fun w' ho => by
    rw [hW0] at ho
    exact ⟨box4 rfl (((Only.refl (fun _ => False) _).alloc _).trans ho), box4 (by simp) ho⟩)
  go_enter Try.func13, Try.ntmps13
  go_wp2_with fail
  rw [← hW0]
  clear hW0
  refine (HTA.out _).mono ?_
  rintro _ w1 ⟨rfl, h1⟩
  obtain ⟨W1, hW1⟩ : ∃ W1, W1 = w1.alloc (.cells #[.int .i64 d, .int .i64 a, .int .i64 b, .int .i64 c] 110) := ⟨_, rfl⟩
  have H1 : Hid (Only (fun _ => False) W0 W1) := Lib.hid (by rw [hW1]; exact h1.alloc _)
  have HC1 : Hid (∀ w', Only (fun _ => False) W1 w' → (w'.cell? ⟨w1.heap.size, 0, none⟩ = some (.int .i64 d) ∧ w'.cell? ⟨w1.heap.size, 1, none⟩ = some (.int .i64 a) ∧ w'.cell? ⟨w1.heap.size, 2, none⟩ = some (.int .i64 b) ∧ w'.cell? ⟨w1.heap.size, 3, none⟩ = some (.int .i64 c))) := Lib.hid (fun w' ho => by rw [hW1] at ho; exact box4 rfl ho)
  clear h1
  obtain ⟨⟨p0, p1, p2, p3⟩, ⟨q0, q1, q2, q3⟩⟩ := HC0.out W1 H1.out
  rw [hW1] at p0 p1 p2 p3 q0 q1 q2 q3
  go_wp2_with fail
  rw [← hW1]
  clear hW1 p0 p1 p2 p3 q0 q1 q2 q3
  refine (HTN.out _).mono ?_
  rintro _ w2 ⟨rfl, h2⟩
  obtain ⟨W2, hW2⟩ : ∃ W2, W2 = w2.alloc (.cells #[.int .i64 d, .int .i64 a, .int .i64 b, .int .i64 c] 110) := ⟨_, rfl⟩
  have H2 : Hid (Only (fun _ => False) W1 W2) := Lib.hid (by rw [hW2]; exact h2.alloc _)
  have HC2 : Hid (∀ w', Only (fun _ => False) W2 w' → (w'.cell? ⟨w2.heap.size, 0, none⟩ = some (.int .i64 d) ∧ w'.cell? ⟨w2.heap.size, 1, none⟩ = some (.int .i64 a) ∧ w'.cell? ⟨w2.heap.size, 2, none⟩ = some (.int .i64 b) ∧ w'.cell? ⟨w2.heap.size, 3, none⟩ = some (.int .i64 c))) := Lib.hid (fun w' ho => by rw [hW2] at ho; exact box4 rfl ho)
  clear h2
  have HF2 := Lib.hid (HF0.out.trans (H1.out.trans H2.out))
  have HC : Hid (∀ w', Only (fun _ => False) W2 w' → Only (fun _ => False) W2 w' ∧ (w'.cell? ⟨w.heap.size, 0, none⟩ = some (.int .i64 a) ∧ w'.cell? ⟨w.heap.size, 1, none⟩ = some (.int .i64 b) ∧ w'.cell? ⟨w.heap.size, 2, none⟩ = some (.int .i64 c) ∧ w'.cell? ⟨w.heap.size, 3, none⟩ = some (.int .i64 d)) ∧ (w'.cell? ⟨w.heap.size + 1, 0, none⟩ = some (.int .i64 a) ∧ w'.cell? ⟨w.heap.size + 1, 1, none⟩ = some (.int .i64 b) ∧ w'.cell? ⟨w.heap.size + 1, 2, none⟩ = some (.int .i64 c) ∧ w'.cell? ⟨w.heap.size + 1, 3, none⟩ = some (.int .i64 d)) ∧ (w'.cell? ⟨w1.heap.size, 0, none⟩ = some (.int .i64 d) ∧ w'.cell? ⟨w1.heap.size, 1, none⟩ = some (.int .i64 a) ∧ w'.cell? ⟨w1.heap.size, 2, none⟩ = some (.int .i64 b) ∧ w'.cell? ⟨w1.heap.size, 3, none⟩ = some (.int .i64 c)) ∧ (w'.cell? ⟨w2.heap.size, 0, none⟩ = some (.int .i64 d) ∧ w'.cell? ⟨w2.heap.size, 1, none⟩ = some (.int .i64 a) ∧ w'.cell? ⟨w2.heap.size, 2, none⟩ = some (.int .i64 b) ∧ w'.cell? ⟨w2.heap.size, 3, none⟩ = some (.int .i64 c))) := Lib.hid (fun w' ho => ⟨ho, (HC0.out w' (H1.out.trans (H2.out.trans ho))).1, (HC0.out w' (H1.out.trans (H2.out.trans ho))).2, HC1.out w' (H2.out.trans ho), HC2.out w' ho⟩)
  clear HC0 HC1 HC2 HTA HTN
  go_wp2_with fail
  rw [← hW2]
  clear hW2

  go_loopw [8] (fun i wr => Hid (Only (fun _ => False) W2 wr) ∧ (i = .int .i64 0 ∨ i = .int .i64 1 ∨ i = .int .i64 2 ∨ i = .int .i64 3 ∨ i = .int .i64 4)) (fun i _ => 4 - (intOf i).toNat)
  case atStart => exact ⟨Lib.hid (Only.refl _ _), .inl rfl⟩
  case round =>
    obtain ⟨HW, hrel⟩ := hrel
    obtain ⟨_, ⟨p0, p1, p2, p3⟩, ⟨q0, q1, q2, q3⟩, ⟨r0, r1, r2, r3⟩, ⟨s0, s1, s2, s3⟩⟩ := HC.out wr HW.out
    rcases hrel with rfl | rfl | rfl | rfl | rfl
    · go_wp2_with fail
      go_quiet (fail)
      go_wp2_with fail
      exact ⟨⟨Lib.hid (only_drewN HW.out _), .inr (.inl rfl)⟩, by simp [intOf]⟩
    · go_wp2_with fail
      go_quiet (fail)
      go_wp2_with fail
      exact ⟨⟨Lib.hid (only_drewN HW.out _), .inr (.inr (.inl rfl))⟩, by simp [intOf]⟩
    · go_wp2_with fail
      go_quiet (fail)
      go_wp2_with fail
      exact ⟨⟨Lib.hid (only_drewN HW.out _), .inr (.inr (.inr (.inl rfl)))⟩, by simp [intOf]⟩
    · go_wp2_with fail
      go_quiet (fail)
      go_wp2_with fail
      exact ⟨⟨Lib.hid (only_drewN HW.out _), .inr (.inr (.inr (.inr rfl)))⟩, by simp [intOf]⟩
    · have HSA : Hid (∀ w', Only (fun _ => False) wr w' → Only (fun _ => False) wr w' ∧ (w'.cell? ⟨w.heap.size, 0, none⟩ = some (.int .i64 a) ∧ w'.cell? ⟨w.heap.size, 1, none⟩ = some (.int .i64 b) ∧ w'.cell? ⟨w.heap.size, 2, none⟩ = some (.int .i64 c) ∧ w'.cell? ⟨w.heap.size, 3, none⟩ = some (.int .i64 d)) ∧ (w'.cell? ⟨w.heap.size + 1, 0, none⟩ = some (.int .i64 a) ∧ w'.cell? ⟨w.heap.size + 1, 1, none⟩ = some (.int .i64 b) ∧ w'.cell? ⟨w.heap.size + 1, 2, none⟩ = some (.int .i64 c) ∧ w'.cell? ⟨w.heap.size + 1, 3, none⟩ = some (.int .i64 d)) ∧ (w'.cell? ⟨w1.heap.size, 0, none⟩ = some (.int .i64 d) ∧ w'.cell? ⟨w1.heap.size, 1, none⟩ = some (.int .i64 a) ∧ w'.cell? ⟨w1.heap.size, 2, none⟩ = some (.int .i64 b) ∧ w'.cell? ⟨w1.heap.size, 3, none⟩ = some (.int .i64 c)) ∧ (w'.cell? ⟨w2.heap.size, 0, none⟩ = some (.int .i64 d) ∧ w'.cell? ⟨w2.heap.size, 1, none⟩ = some (.int .i64 a) ∧ w'.cell? ⟨w2.heap.size, 2, none⟩ = some (.int .i64 b) ∧ w'.cell? ⟨w2.heap.size, 3, none⟩ = some (.int .i64 c))) := Lib.hid (fun w' ho => ⟨ho, (HC.out w' (HW.out.trans ho)).2⟩)
      go_wp2_with fail
      go_region_held3 (fun w' => Only (fun _ => False) wr w' ∧ (w'.cell? ⟨w.heap.size, 0, none⟩ = some (.int .i64 a) ∧ w'.cell? ⟨w.heap.size, 1, none⟩ = some (.int .i64 b) ∧ w'.cell? ⟨w.heap.size, 2, none⟩ = some (.int .i64 c) ∧ w'.cell? ⟨w.heap.size, 3, none⟩ = some (.int .i64 d)) ∧ (w'.cell? ⟨w.heap.size + 1, 0, none⟩ = some (.int .i64 a) ∧ w'.cell? ⟨w.heap.size + 1, 1, none⟩ = some (.int .i64 b) ∧ w'.cell? ⟨w.heap.size + 1, 2, none⟩ = some (.int .i64 c) ∧ w'.cell? ⟨w.heap.size + 1, 3, none⟩ = some (.int .i64 d)) ∧ (w'.cell? ⟨w1.heap.size, 0, none⟩ = some (.int .i64 d) ∧ w'.cell? ⟨w1.heap.size, 1, none⟩ = some (.int .i64 a) ∧ w'.cell? ⟨w1.heap.size, 2, none⟩ = some (.int .i64 b) ∧ w'.cell? ⟨w1.heap.size, 3, none⟩ = some (.int .i64 c)) ∧ (w'.cell? ⟨w2.heap.size, 0, none⟩ = some (.int .i64 d) ∧ w'.cell? ⟨w2.heap.size, 1, none⟩ = some (.int .i64 a) ∧ w'.cell? ⟨w2.heap.size, 2, none⟩ = some (.int .i64 b) ∧ w'.cell? ⟨w2.heap.size, 3, none⟩ = some (.int .i64 c)))
        ((refine HSA.out _ ?_; first | exact (Only.refl _ _).drew | exact Only.refl _ _ | exact ((Only.refl _ _).drew).trans ho | (go_split_ands; exact Only.trans (by assumption) ho)))
        (first | (go_at_call 62; (with_reducible refine (HVR.out _).mono ?_); rintro _ wn ⟨rfl, ho⟩) | (go_at_call 62; (with_reducible refine (HVT.out _).mono ?_); rintro _ wn ⟨rfl, ho⟩))
      have HV1 : Hid (Only (fun _ => False) W2 wn) := Lib.hid (HW.out.trans (by go_split_ands; assumption))
      clear p0 p1 p2 p3 q0 q1 q2 q3 r0 r1 r2 r3 s0 s1 s2 s3
      obtain ⟨_, ⟨p0, p1, p2, p3⟩, ⟨q0, q1, q2, q3⟩, ⟨r0, r1, r2, r3⟩, ⟨s0, s1, s2, s3⟩⟩ := HC.out wn HV1.out
      go_wp2_with fail
      refine (HSR.out _).mono ?_
      rintro _ w4 ⟨rfl, h4⟩
      have HV2 : Hid (Only (fun _ => False) W2 w4) := Lib.hid (HV1.out.trans h4)
      clear h4 p0 p1 p2 p3 q0 q1 q2 q3 r0 r1 r2 r3 s0 s1 s2 s3
      obtain ⟨_, ⟨p0, p1, p2, p3⟩, ⟨q0, q1, q2, q3⟩, ⟨r0, r1, r2, r3⟩, ⟨s0, s1, s2, s3⟩⟩ := HC.out w4 HV2.out
      go_wp2_with fail
      refine (HST.out _).mono ?_
      rintro _ w5 ⟨rfl, h5⟩
      have HV3 : Hid (Only (fun _ => False) W2 w5) := Lib.hid (HV2.out.trans h5)
      clear h5 p0 p1 p2 p3 q0 q1 q2 q3 r0 r1 r2 r3 s0 s1 s2 s3
      obtain ⟨_, ⟨p0, p1, p2, p3⟩, ⟨q0, q1, q2, q3⟩, ⟨r0, r1, r2, r3⟩, ⟨s0, s1, s2, s3⟩⟩ := HC.out w5 HV3.out
      have HSB : Hid (∀ w', Only (fun _ => False) w5 w' → Only (fun _ => False) w5 w' ∧ (w'.cell? ⟨w.heap.size, 0, none⟩ = some (.int .i64 a) ∧ w'.cell? ⟨w.heap.size, 1, none⟩ = some (.int .i64 b) ∧ w'.cell? ⟨w.heap.size, 2, none⟩ = some (.int .i64 c) ∧ w'.cell? ⟨w.heap.size, 3, none⟩ = some (.int .i64 d)) ∧ (w'.cell? ⟨w.heap.size + 1, 0, none⟩ = some (.int .i64 a) ∧ w'.cell? ⟨w.heap.size + 1, 1, none⟩ = some (.int .i64 b) ∧ w'.cell? ⟨w.heap.size + 1, 2, none⟩ = some (.int .i64 c) ∧ w'.cell? ⟨w.heap.size + 1, 3, none⟩ = some (.int .i64 d)) ∧ (w'.cell? ⟨w1.heap.size, 0, none⟩ = some (.int .i64 d) ∧ w'.cell? ⟨w1.heap.size, 1, none⟩ = some (.int .i64 a) ∧ w'.cell? ⟨w1.heap.size, 2, none⟩ = some (.int .i64 b) ∧ w'.cell? ⟨w1.heap.size, 3, none⟩ = some (.int .i64 c)) ∧ (w'.cell? ⟨w2.heap.size, 0, none⟩ = some (.int .i64 d) ∧ w'.cell? ⟨w2.heap.size, 1, none⟩ = some (.int .i64 a) ∧ w'.cell? ⟨w2.heap.size, 2, none⟩ = some (.int .i64 b) ∧ w'.cell? ⟨w2.heap.size, 3, none⟩ = some (.int .i64 c))) := Lib.hid (fun w' ho => ⟨ho, (HC.out w' (HV3.out.trans ho)).2⟩)
      go_wp2_with fail
      go_region_held3 (fun w' => Only (fun _ => False) w5 w' ∧ (w'.cell? ⟨w.heap.size, 0, none⟩ = some (.int .i64 a) ∧ w'.cell? ⟨w.heap.size, 1, none⟩ = some (.int .i64 b) ∧ w'.cell? ⟨w.heap.size, 2, none⟩ = some (.int .i64 c) ∧ w'.cell? ⟨w.heap.size, 3, none⟩ = some (.int .i64 d)) ∧ (w'.cell? ⟨w.heap.size + 1, 0, none⟩ = some (.int .i64 a) ∧ w'.cell? ⟨w.heap.size + 1, 1, none⟩ = some (.int .i64 b) ∧ w'.cell? ⟨w.heap.size + 1, 2, none⟩ = some (.int .i64 c) ∧ w'.cell? ⟨w.heap.size + 1, 3, none⟩ = some (.int .i64 d)) ∧ (w'.cell? ⟨w1.heap.size, 0, none⟩ = some (.int .i64 d) ∧ w'.cell? ⟨w1.heap.size, 1, none⟩ = some (.int .i64 a) ∧ w'.cell? ⟨w1.heap.size, 2, none⟩ = some (.int .i64 b) ∧ w'.cell? ⟨w1.heap.size, 3, none⟩ = some (.int .i64 c)) ∧ (w'.cell? ⟨w2.heap.size, 0, none⟩ = some (.int .i64 d) ∧ w'.cell? ⟨w2.heap.size, 1, none⟩ = some (.int .i64 a) ∧ w'.cell? ⟨w2.heap.size, 2, none⟩ = some (.int .i64 b) ∧ w'.cell? ⟨w2.heap.size, 3, none⟩ = some (.int .i64 c)))
        ((refine HSB.out _ ?_; first | exact (Only.refl _ _).drew | exact Only.refl _ _ | exact ((Only.refl _ _).drew).trans ho | (go_split_ands; exact Only.trans (by assumption) ho)))
        (first | (go_at_call 63; (with_reducible refine (beats_any _).mono ?_); rintro _ wn ⟨rfl, ho⟩) | (go_at_call 67; (with_reducible refine (HTB.out _).mono ?_); rintro _ wn ⟨rfl, ho⟩) | (go_at_call 67; (with_reducible refine (HTC.out _).mono ?_); rintro _ wn ⟨rfl, ho⟩) | (go_at_call 64; (with_reducible refine (HTT.out _).mono ?_); rintro _ wn ⟨rfl, ho⟩) | (go_at_call 64; (with_reducible refine (HTR.out _).mono ?_); rintro _ wn ⟨rfl, ho⟩))
      all_goals (have HV4 : Hid (Only (fun _ => False) w5 wn) := Lib.hid (by go_split_ands; assumption); (try go_wp2_with fail); go_ret; exact ⟨rfl, HF2.out.trans (HV3.out.trans HV4.out)⟩)
end Go.Proofs.Ytlldecklngcklaa.rhyw
