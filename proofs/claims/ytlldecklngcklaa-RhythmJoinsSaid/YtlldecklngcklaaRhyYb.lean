/- RhythmJoins's walk. -/
import Derived.Test.YtlldecklngcklaaRhyX
namespace Go.Proofs.Ytlldecklngcklaa.rhyw
open Go.RowKit mem fltm rhym intm bigm bigw
set_option linter.unusedVariables false

set_option maxRecDepth 100000 in
set_option maxHeartbeats 4000000 in
theorem joins_no2 (a0 a1 a2 a3 b0 b1 b2 b3 n : Int) (ha : rightB a0 a1 a2 a3 = true) (hb : rightB b0 b1 b2 b3 = false) (w : World) : Calls Try.prog 14 #[.agg #[.int .i64 a0, .int .i64 a1, .int .i64 a2, .int .i64 a3], .agg #[.int .i64 b0, .int .i64 b1, .int .i64 b2, .int .i64 b3], .int .i64 n] w fun e w' => e = .returned (.bool true) ∧ Only (fun _ => False) w w' := by
  have HJ : Hid (∀ w, Calls Try.prog 68 #[.agg #[.int .i64 a0, .int .i64 a1, .int .i64 a2, .int .i64 a3], .agg #[.int .i64 b0, .int .i64 b1, .int .i64 b2, .int .i64 b3]] w fun e w' => e = .returned (.tuple #[.agg #[.int .i64 0, .int .i64 0, .int .i64 0, .int .i64 0], .int .i64 1]) ∧ Only (fun _ => False) w w') := Lib.hid (fun w => join_no2 a0 a1 a2 a3 b0 b1 b2 b3 ha hb w)
  have HRJ : Hid (∀ w, Calls Try.prog 69 #[.agg #[.int .i64 a0, .int .i64 a1, .int .i64 a2, .int .i64 a3], .agg #[.int .i64 b0, .int .i64 b1, .int .i64 b2, .int .i64 b3]] w fun e w' => e = .returned (.tuple #[.agg #[.int .i64 0, .int .i64 0, .int .i64 0, .int .i64 0], .int .i64 1]) ∧ Only (fun _ => False) w w') := Lib.hid (fun w => rjoin_no2 a0 a1 a2 a3 b0 b1 b2 b3 ha hb w)
  have EQ1 : ∀ w : World, (Op.equalIn 10000 108 (.agg #[.int .i64 0, .int .i64 0, .int .i64 0, .int .i64 0]) (.agg #[.int .i64 0, .int .i64 0, .int .i64 0, .int .i64 0])).run Try.prog w = .ok true w := fun w => (eq4_run 9998 0 0 0 0 0 0 0 0 w).trans (by simp)
  go_enter Try.func14, Try.ntmps14
  go_wp2_with fail
  go_region
  · obtain ⟨W0, hW0⟩ : ∃ W0, W0 = (((((w.alloc (.cells #[.int .i64 a0, .int .i64 a1, .int .i64 a2, .int .i64 a3] 108)).alloc (.cells #[.int .i64 b0, .int .i64 b1, .int .i64 b2, .int .i64 b3] 108))).alloc (.cells #[.int .i64 a0, .int .i64 a1, .int .i64 a2, .int .i64 a3] 110)).alloc (.cells #[.int .i64 b0, .int .i64 b1, .int .i64 b2, .int .i64 b3] 110)).drew := ⟨_, rfl⟩
    have HF0 : Hid (Only (fun _ => False) w W0) := Lib.hid (by rw [hW0]; exact ((((Only.refl _ w).alloc _).alloc _).alloc _).alloc _ |>.drew)
    have HC0 : Hid (∀ w', Only (fun _ => False) W0 w' → (w'.cell? ⟨w.heap.size, 0, none⟩ = some (.int .i64 a0) ∧ w'.cell? ⟨w.heap.size, 1, none⟩ = some (.int .i64 a1) ∧ w'.cell? ⟨w.heap.size, 2, none⟩ = some (.int .i64 a2) ∧ w'.cell? ⟨w.heap.size, 3, none⟩ = some (.int .i64 a3)) ∧ (w'.cell? ⟨w.heap.size + 1, 0, none⟩ = some (.int .i64 b0) ∧ w'.cell? ⟨w.heap.size + 1, 1, none⟩ = some (.int .i64 b1) ∧ w'.cell? ⟨w.heap.size + 1, 2, none⟩ = some (.int .i64 b2) ∧ w'.cell? ⟨w.heap.size + 1, 3, none⟩ = some (.int .i64 b3)) ∧ (w'.cell? ⟨w.heap.size + 1 + 1, 0, none⟩ = some (.int .i64 a0) ∧ w'.cell? ⟨w.heap.size + 1 + 1, 1, none⟩ = some (.int .i64 a1) ∧ w'.cell? ⟨w.heap.size + 1 + 1, 2, none⟩ = some (.int .i64 a2) ∧ w'.cell? ⟨w.heap.size + 1 + 1, 3, none⟩ = some (.int .i64 a3)) ∧ (w'.cell? ⟨w.heap.size + 1 + 1 + 1, 0, none⟩ = some (.int .i64 b0) ∧ w'.cell? ⟨w.heap.size + 1 + 1 + 1, 1, none⟩ = some (.int .i64 b1) ∧ w'.cell? ⟨w.heap.size + 1 + 1 + 1, 2, none⟩ = some (.int .i64 b2) ∧ w'.cell? ⟨w.heap.size + 1 + 1 + 1, 3, none⟩ = some (.int .i64 b3))) := Lib.hid (fun w' ho => by
      rw [hW0] at ho
      exact ⟨box4 rfl (((((Only.refl (fun _ => False) _).alloc _).alloc _).alloc _).drew.trans ho), box4 (by simp) ((((Only.refl (fun _ => False) _).alloc _).alloc _).drew.trans ho), box4 (by simp) (((Only.refl (fun _ => False) _).alloc _).drew.trans ho), box4 (by simp) ((Only.refl (fun _ => False) _).drew.trans ho)⟩)
    rw [← hW0]
    clear hW0
    obtain ⟨⟨p0, p1, p2, p3⟩, ⟨q0, q1, q2, q3⟩, ⟨r0, r1, r2, r3⟩, ⟨s0, s1, s2, s3⟩⟩ := HC0.out W0 (Only.refl _ _)
    go_wp2_with fail
    refine (HJ.out _).mono ?_
    rintro _ w1 ⟨rfl, h1⟩
    clear p0 p1 p2 p3 q0 q1 q2 q3 r0 r1 r2 r3 s0 s1 s2 s3
    obtain ⟨W1, hW1⟩ : ∃ W1, W1 = w1.alloc (.cells #[.int .i64 0, .int .i64 0, .int .i64 0, .int .i64 0] 110) := ⟨_, rfl⟩
    have H1 : Hid (Only (fun _ => False) W0 W1) := Lib.hid (by rw [hW1]; exact h1.alloc _)
    have HC1 : Hid (∀ w', Only (fun _ => False) W1 w' → (w'.cell? ⟨w1.heap.size, 0, none⟩ = some (.int .i64 0) ∧ w'.cell? ⟨w1.heap.size, 1, none⟩ = some (.int .i64 0) ∧ w'.cell? ⟨w1.heap.size, 2, none⟩ = some (.int .i64 0) ∧ w'.cell? ⟨w1.heap.size, 3, none⟩ = some (.int .i64 0))) := Lib.hid (fun w' ho => by rw [hW1] at ho; exact box4 rfl ho)
    clear h1
    obtain ⟨⟨p0, p1, p2, p3⟩, ⟨q0, q1, q2, q3⟩, _⟩ := HC0.out W1 H1.out
    rw [hW1] at p0 p1 p2 p3 q0 q1 q2 q3
    go_wp2_with fail
    rw [← hW1]
    clear hW1 p0 p1 p2 p3 q0 q1 q2 q3
    refine (HRJ.out _).mono ?_
    rintro _ w2 ⟨rfl, h2⟩
    obtain ⟨W2, hW2⟩ : ∃ W2, W2 = w2.alloc (.cells #[.int .i64 0, .int .i64 0, .int .i64 0, .int .i64 0] 108) := ⟨_, rfl⟩
    have H2 : Hid (Only (fun _ => False) W1 W2) := Lib.hid (by rw [hW2]; exact h2.alloc _)
    have HC2 : Hid (∀ w', Only (fun _ => False) W2 w' → (w'.cell? ⟨w2.heap.size, 0, none⟩ = some (.int .i64 0) ∧ w'.cell? ⟨w2.heap.size, 1, none⟩ = some (.int .i64 0) ∧ w'.cell? ⟨w2.heap.size, 2, none⟩ = some (.int .i64 0) ∧ w'.cell? ⟨w2.heap.size, 3, none⟩ = some (.int .i64 0))) := Lib.hid (fun w' ho => by rw [hW2] at ho; exact box4 rfl ho)
    clear h2
    go_wp2_with fail
    rw [← hW2]
    clear hW2
    refine (beats_any _).mono ?_
    rintro _ w3 ⟨rfl, h3⟩
    have H3 : Hid (Only (fun _ => False) W1 w3) := Lib.hid (H2.out.trans h3)
    obtain ⟨t0, t1, t2, t3⟩ := HC1.out w3 H3.out
    obtain ⟨u0, u1, u2, u3⟩ := HC2.out w3 h3
    clear h3
    go_wp2_with fail
    go_ret
    exact ⟨rfl, HF0.out.trans (H1.out.trans H3.out)⟩
  · obtain ⟨W0, hW0⟩ : ∃ W0, W0 = (((((w.alloc (.cells #[.int .i64 a0, .int .i64 a1, .int .i64 a2, .int .i64 a3] 108)).alloc (.cells #[.int .i64 b0, .int .i64 b1, .int .i64 b2, .int .i64 b3] 108))).alloc (.cells #[.int .i64 b0, .int .i64 b1, .int .i64 b2, .int .i64 b3] 110)).alloc (.cells #[.int .i64 a0, .int .i64 a1, .int .i64 a2, .int .i64 a3] 110)).drew := ⟨_, rfl⟩
    have HF0 : Hid (Only (fun _ => False) w W0) := Lib.hid (by rw [hW0]; exact ((((Only.refl _ w).alloc _).alloc _).alloc _).alloc _ |>.drew)
    have HC0 : Hid (∀ w', Only (fun _ => False) W0 w' → (w'.cell? ⟨w.heap.size, 0, none⟩ = some (.int .i64 a0) ∧ w'.cell? ⟨w.heap.size, 1, none⟩ = some (.int .i64 a1) ∧ w'.cell? ⟨w.heap.size, 2, none⟩ = some (.int .i64 a2) ∧ w'.cell? ⟨w.heap.size, 3, none⟩ = some (.int .i64 a3)) ∧ (w'.cell? ⟨w.heap.size + 1, 0, none⟩ = some (.int .i64 b0) ∧ w'.cell? ⟨w.heap.size + 1, 1, none⟩ = some (.int .i64 b1) ∧ w'.cell? ⟨w.heap.size + 1, 2, none⟩ = some (.int .i64 b2) ∧ w'.cell? ⟨w.heap.size + 1, 3, none⟩ = some (.int .i64 b3)) ∧ (w'.cell? ⟨w.heap.size + 1 + 1 + 1, 0, none⟩ = some (.int .i64 a0) ∧ w'.cell? ⟨w.heap.size + 1 + 1 + 1, 1, none⟩ = some (.int .i64 a1) ∧ w'.cell? ⟨w.heap.size + 1 + 1 + 1, 2, none⟩ = some (.int .i64 a2) ∧ w'.cell? ⟨w.heap.size + 1 + 1 + 1, 3, none⟩ = some (.int .i64 a3)) ∧ (w'.cell? ⟨w.heap.size + 1 + 1, 0, none⟩ = some (.int .i64 b0) ∧ w'.cell? ⟨w.heap.size + 1 + 1, 1, none⟩ = some (.int .i64 b1) ∧ w'.cell? ⟨w.heap.size + 1 + 1, 2, none⟩ = some (.int .i64 b2) ∧ w'.cell? ⟨w.heap.size + 1 + 1, 3, none⟩ = some (.int .i64 b3))) := Lib.hid (fun w' ho => by
      rw [hW0] at ho
      exact ⟨box4 rfl (((((Only.refl (fun _ => False) _).alloc _).alloc _).alloc _).drew.trans ho), box4 (by simp) ((((Only.refl (fun _ => False) _).alloc _).alloc _).drew.trans ho), box4 (by simp) ((Only.refl (fun _ => False) _).drew.trans ho), box4 (by simp) (((Only.refl (fun _ => False) _).alloc _).drew.trans ho)⟩)
    rw [← hW0]
    clear hW0
    obtain ⟨⟨p0, p1, p2, p3⟩, ⟨q0, q1, q2, q3⟩, ⟨r0, r1, r2, r3⟩, ⟨s0, s1, s2, s3⟩⟩ := HC0.out W0 (Only.refl _ _)
    go_wp2_with fail
    refine (HJ.out _).mono ?_
    rintro _ w1 ⟨rfl, h1⟩
    clear p0 p1 p2 p3 q0 q1 q2 q3 r0 r1 r2 r3 s0 s1 s2 s3
    obtain ⟨W1, hW1⟩ : ∃ W1, W1 = w1.alloc (.cells #[.int .i64 0, .int .i64 0, .int .i64 0, .int .i64 0] 110) := ⟨_, rfl⟩
    have H1 : Hid (Only (fun _ => False) W0 W1) := Lib.hid (by rw [hW1]; exact h1.alloc _)
    have HC1 : Hid (∀ w', Only (fun _ => False) W1 w' → (w'.cell? ⟨w1.heap.size, 0, none⟩ = some (.int .i64 0) ∧ w'.cell? ⟨w1.heap.size, 1, none⟩ = some (.int .i64 0) ∧ w'.cell? ⟨w1.heap.size, 2, none⟩ = some (.int .i64 0) ∧ w'.cell? ⟨w1.heap.size, 3, none⟩ = some (.int .i64 0))) := Lib.hid (fun w' ho => by rw [hW1] at ho; exact box4 rfl ho)
    clear h1
    obtain ⟨⟨p0, p1, p2, p3⟩, ⟨q0, q1, q2, q3⟩, _⟩ := HC0.out W1 H1.out
    rw [hW1] at p0 p1 p2 p3 q0 q1 q2 q3
    go_wp2_with fail
    rw [← hW1]
    clear hW1 p0 p1 p2 p3 q0 q1 q2 q3
    refine (HRJ.out _).mono ?_
    rintro _ w2 ⟨rfl, h2⟩
    obtain ⟨W2, hW2⟩ : ∃ W2, W2 = w2.alloc (.cells #[.int .i64 0, .int .i64 0, .int .i64 0, .int .i64 0] 108) := ⟨_, rfl⟩
    have H2 : Hid (Only (fun _ => False) W1 W2) := Lib.hid (by rw [hW2]; exact h2.alloc _)
    have HC2 : Hid (∀ w', Only (fun _ => False) W2 w' → (w'.cell? ⟨w2.heap.size, 0, none⟩ = some (.int .i64 0) ∧ w'.cell? ⟨w2.heap.size, 1, none⟩ = some (.int .i64 0) ∧ w'.cell? ⟨w2.heap.size, 2, none⟩ = some (.int .i64 0) ∧ w'.cell? ⟨w2.heap.size, 3, none⟩ = some (.int .i64 0))) := Lib.hid (fun w' ho => by rw [hW2] at ho; exact box4 rfl ho)
    clear h2
    go_wp2_with fail
    rw [← hW2]
    clear hW2
    refine (beats_any _).mono ?_
    rintro _ w3 ⟨rfl, h3⟩
    have H3 : Hid (Only (fun _ => False) W1 w3) := Lib.hid (H2.out.trans h3)
    obtain ⟨t0, t1, t2, t3⟩ := HC1.out w3 H3.out
    obtain ⟨u0, u1, u2, u3⟩ := HC2.out w3 h3
    clear h3
    go_wp2_with fail
    go_ret
    exact ⟨rfl, HF0.out.trans (H1.out.trans H3.out)⟩
set_option maxRecDepth 100000 in
set_option maxHeartbeats 4000000 in
theorem joins_over (a0 a1 a2 a3 b0 b1 b2 b3 n : Int) (ha : rightB a0 a1 a2 a3 = true) (hb : rightB b0 b1 b2 b3 = true) (hs : rightB (a0 + b0) (a1 + b1) (a2 + b2) (a3 + b3) = false) (w : World) : Calls Try.prog 14 #[.agg #[.int .i64 a0, .int .i64 a1, .int .i64 a2, .int .i64 a3], .agg #[.int .i64 b0, .int .i64 b1, .int .i64 b2, .int .i64 b3], .int .i64 n] w fun e w' => e = .returned (.bool true) ∧ Only (fun _ => False) w w' := by
  have HJ : Hid (∀ w, Calls Try.prog 68 #[.agg #[.int .i64 a0, .int .i64 a1, .int .i64 a2, .int .i64 a3], .agg #[.int .i64 b0, .int .i64 b1, .int .i64 b2, .int .i64 b3]] w fun e w' => e = .returned (.tuple #[.agg #[.int .i64 0, .int .i64 0, .int .i64 0, .int .i64 0], .int .i64 6]) ∧ Only (fun _ => False) w w') := Lib.hid (fun w => join_over a0 a1 a2 a3 b0 b1 b2 b3 ha hb hs w)
  have HRJ : Hid (∀ w, Calls Try.prog 69 #[.agg #[.int .i64 a0, .int .i64 a1, .int .i64 a2, .int .i64 a3], .agg #[.int .i64 b0, .int .i64 b1, .int .i64 b2, .int .i64 b3]] w fun e w' => e = .returned (.tuple #[.agg #[.int .i64 0, .int .i64 0, .int .i64 0, .int .i64 0], .int .i64 6]) ∧ Only (fun _ => False) w w') := Lib.hid (fun w => rjoin_over a0 a1 a2 a3 b0 b1 b2 b3 ha hb hs w)
  have EQ1 : ∀ w : World, (Op.equalIn 10000 108 (.agg #[.int .i64 0, .int .i64 0, .int .i64 0, .int .i64 0]) (.agg #[.int .i64 0, .int .i64 0, .int .i64 0, .int .i64 0])).run Try.prog w = .ok true w := fun w => (eq4_run 9998 0 0 0 0 0 0 0 0 w).trans (by simp)
  go_enter Try.func14, Try.ntmps14
  go_wp2_with fail
  go_region
  · obtain ⟨W0, hW0⟩ : ∃ W0, W0 = (((((w.alloc (.cells #[.int .i64 a0, .int .i64 a1, .int .i64 a2, .int .i64 a3] 108)).alloc (.cells #[.int .i64 b0, .int .i64 b1, .int .i64 b2, .int .i64 b3] 108))).alloc (.cells #[.int .i64 a0, .int .i64 a1, .int .i64 a2, .int .i64 a3] 110)).alloc (.cells #[.int .i64 b0, .int .i64 b1, .int .i64 b2, .int .i64 b3] 110)).drew := ⟨_, rfl⟩
    have HF0 : Hid (Only (fun _ => False) w W0) := Lib.hid (by rw [hW0]; exact ((((Only.refl _ w).alloc _).alloc _).alloc _).alloc _ |>.drew)
    have HC0 : Hid (∀ w', Only (fun _ => False) W0 w' → (w'.cell? ⟨w.heap.size, 0, none⟩ = some (.int .i64 a0) ∧ w'.cell? ⟨w.heap.size, 1, none⟩ = some (.int .i64 a1) ∧ w'.cell? ⟨w.heap.size, 2, none⟩ = some (.int .i64 a2) ∧ w'.cell? ⟨w.heap.size, 3, none⟩ = some (.int .i64 a3)) ∧ (w'.cell? ⟨w.heap.size + 1, 0, none⟩ = some (.int .i64 b0) ∧ w'.cell? ⟨w.heap.size + 1, 1, none⟩ = some (.int .i64 b1) ∧ w'.cell? ⟨w.heap.size + 1, 2, none⟩ = some (.int .i64 b2) ∧ w'.cell? ⟨w.heap.size + 1, 3, none⟩ = some (.int .i64 b3)) ∧ (w'.cell? ⟨w.heap.size + 1 + 1, 0, none⟩ = some (.int .i64 a0) ∧ w'.cell? ⟨w.heap.size + 1 + 1, 1, none⟩ = some (.int .i64 a1) ∧ w'.cell? ⟨w.heap.size + 1 + 1, 2, none⟩ = some (.int .i64 a2) ∧ w'.cell? ⟨w.heap.size + 1 + 1, 3, none⟩ = some (.int .i64 a3)) ∧ (w'.cell? ⟨w.heap.size + 1 + 1 + 1, 0, none⟩ = some (.int .i64 b0) ∧ w'.cell? ⟨w.heap.size + 1 + 1 + 1, 1, none⟩ = some (.int .i64 b1) ∧ w'.cell? ⟨w.heap.size + 1 + 1 + 1, 2, none⟩ = some (.int .i64 b2) ∧ w'.cell? ⟨w.heap.size + 1 + 1 + 1, 3, none⟩ = some (.int .i64 b3))) := Lib.hid (fun w' ho => by
      rw [hW0] at ho
      exact ⟨box4 rfl (((((Only.refl (fun _ => False) _).alloc _).alloc _).alloc _).drew.trans ho), box4 (by simp) ((((Only.refl (fun _ => False) _).alloc _).alloc _).drew.trans ho), box4 (by simp) (((Only.refl (fun _ => False) _).alloc _).drew.trans ho), box4 (by simp) ((Only.refl (fun _ => False) _).drew.trans ho)⟩)
    rw [← hW0]
    clear hW0
    obtain ⟨⟨p0, p1, p2, p3⟩, ⟨q0, q1, q2, q3⟩, ⟨r0, r1, r2, r3⟩, ⟨s0, s1, s2, s3⟩⟩ := HC0.out W0 (Only.refl _ _)
    go_wp2_with fail
    refine (HJ.out _).mono ?_
    rintro _ w1 ⟨rfl, h1⟩
    clear p0 p1 p2 p3 q0 q1 q2 q3 r0 r1 r2 r3 s0 s1 s2 s3
    obtain ⟨W1, hW1⟩ : ∃ W1, W1 = w1.alloc (.cells #[.int .i64 0, .int .i64 0, .int .i64 0, .int .i64 0] 110) := ⟨_, rfl⟩
    have H1 : Hid (Only (fun _ => False) W0 W1) := Lib.hid (by rw [hW1]; exact h1.alloc _)
    have HC1 : Hid (∀ w', Only (fun _ => False) W1 w' → (w'.cell? ⟨w1.heap.size, 0, none⟩ = some (.int .i64 0) ∧ w'.cell? ⟨w1.heap.size, 1, none⟩ = some (.int .i64 0) ∧ w'.cell? ⟨w1.heap.size, 2, none⟩ = some (.int .i64 0) ∧ w'.cell? ⟨w1.heap.size, 3, none⟩ = some (.int .i64 0))) := Lib.hid (fun w' ho => by rw [hW1] at ho; exact box4 rfl ho)
    clear h1
    obtain ⟨⟨p0, p1, p2, p3⟩, ⟨q0, q1, q2, q3⟩, _⟩ := HC0.out W1 H1.out
    rw [hW1] at p0 p1 p2 p3 q0 q1 q2 q3
    go_wp2_with fail
    rw [← hW1]
    clear hW1 p0 p1 p2 p3 q0 q1 q2 q3
    refine (HRJ.out _).mono ?_
    rintro _ w2 ⟨rfl, h2⟩
    obtain ⟨W2, hW2⟩ : ∃ W2, W2 = w2.alloc (.cells #[.int .i64 0, .int .i64 0, .int .i64 0, .int .i64 0] 108) := ⟨_, rfl⟩
    have H2 : Hid (Only (fun _ => False) W1 W2) := Lib.hid (by rw [hW2]; exact h2.alloc _)
    have HC2 : Hid (∀ w', Only (fun _ => False) W2 w' → (w'.cell? ⟨w2.heap.size, 0, none⟩ = some (.int .i64 0) ∧ w'.cell? ⟨w2.heap.size, 1, none⟩ = some (.int .i64 0) ∧ w'.cell? ⟨w2.heap.size, 2, none⟩ = some (.int .i64 0) ∧ w'.cell? ⟨w2.heap.size, 3, none⟩ = some (.int .i64 0))) := Lib.hid (fun w' ho => by rw [hW2] at ho; exact box4 rfl ho)
    clear h2
    go_wp2_with fail
    rw [← hW2]
    clear hW2
    refine (beats_any _).mono ?_
    rintro _ w3 ⟨rfl, h3⟩
    have H3 : Hid (Only (fun _ => False) W1 w3) := Lib.hid (H2.out.trans h3)
    obtain ⟨t0, t1, t2, t3⟩ := HC1.out w3 H3.out
    obtain ⟨u0, u1, u2, u3⟩ := HC2.out w3 h3
    clear h3
    go_wp2_with fail
    go_ret
    exact ⟨rfl, HF0.out.trans (H1.out.trans H3.out)⟩
  · obtain ⟨W0, hW0⟩ : ∃ W0, W0 = (((((w.alloc (.cells #[.int .i64 a0, .int .i64 a1, .int .i64 a2, .int .i64 a3] 108)).alloc (.cells #[.int .i64 b0, .int .i64 b1, .int .i64 b2, .int .i64 b3] 108))).alloc (.cells #[.int .i64 b0, .int .i64 b1, .int .i64 b2, .int .i64 b3] 110)).alloc (.cells #[.int .i64 a0, .int .i64 a1, .int .i64 a2, .int .i64 a3] 110)).drew := ⟨_, rfl⟩
    have HF0 : Hid (Only (fun _ => False) w W0) := Lib.hid (by rw [hW0]; exact ((((Only.refl _ w).alloc _).alloc _).alloc _).alloc _ |>.drew)
    have HC0 : Hid (∀ w', Only (fun _ => False) W0 w' → (w'.cell? ⟨w.heap.size, 0, none⟩ = some (.int .i64 a0) ∧ w'.cell? ⟨w.heap.size, 1, none⟩ = some (.int .i64 a1) ∧ w'.cell? ⟨w.heap.size, 2, none⟩ = some (.int .i64 a2) ∧ w'.cell? ⟨w.heap.size, 3, none⟩ = some (.int .i64 a3)) ∧ (w'.cell? ⟨w.heap.size + 1, 0, none⟩ = some (.int .i64 b0) ∧ w'.cell? ⟨w.heap.size + 1, 1, none⟩ = some (.int .i64 b1) ∧ w'.cell? ⟨w.heap.size + 1, 2, none⟩ = some (.int .i64 b2) ∧ w'.cell? ⟨w.heap.size + 1, 3, none⟩ = some (.int .i64 b3)) ∧ (w'.cell? ⟨w.heap.size + 1 + 1 + 1, 0, none⟩ = some (.int .i64 a0) ∧ w'.cell? ⟨w.heap.size + 1 + 1 + 1, 1, none⟩ = some (.int .i64 a1) ∧ w'.cell? ⟨w.heap.size + 1 + 1 + 1, 2, none⟩ = some (.int .i64 a2) ∧ w'.cell? ⟨w.heap.size + 1 + 1 + 1, 3, none⟩ = some (.int .i64 a3)) ∧ (w'.cell? ⟨w.heap.size + 1 + 1, 0, none⟩ = some (.int .i64 b0) ∧ w'.cell? ⟨w.heap.size + 1 + 1, 1, none⟩ = some (.int .i64 b1) ∧ w'.cell? ⟨w.heap.size + 1 + 1, 2, none⟩ = some (.int .i64 b2) ∧ w'.cell? ⟨w.heap.size + 1 + 1, 3, none⟩ = some (.int .i64 b3))) := Lib.hid (fun w' ho => by
      rw [hW0] at ho
      exact ⟨box4 rfl (((((Only.refl (fun _ => False) _).alloc _).alloc _).alloc _).drew.trans ho), box4 (by simp) ((((Only.refl (fun _ => False) _).alloc _).alloc _).drew.trans ho), box4 (by simp) ((Only.refl (fun _ => False) _).drew.trans ho), box4 (by simp) (((Only.refl (fun _ => False) _).alloc _).drew.trans ho)⟩)
    rw [← hW0]
    clear hW0
    obtain ⟨⟨p0, p1, p2, p3⟩, ⟨q0, q1, q2, q3⟩, ⟨r0, r1, r2, r3⟩, ⟨s0, s1, s2, s3⟩⟩ := HC0.out W0 (Only.refl _ _)
    go_wp2_with fail
    refine (HJ.out _).mono ?_
    rintro _ w1 ⟨rfl, h1⟩
    clear p0 p1 p2 p3 q0 q1 q2 q3 r0 r1 r2 r3 s0 s1 s2 s3
    obtain ⟨W1, hW1⟩ : ∃ W1, W1 = w1.alloc (.cells #[.int .i64 0, .int .i64 0, .int .i64 0, .int .i64 0] 110) := ⟨_, rfl⟩
    have H1 : Hid (Only (fun _ => False) W0 W1) := Lib.hid (by rw [hW1]; exact h1.alloc _)
    have HC1 : Hid (∀ w', Only (fun _ => False) W1 w' → (w'.cell? ⟨w1.heap.size, 0, none⟩ = some (.int .i64 0) ∧ w'.cell? ⟨w1.heap.size, 1, none⟩ = some (.int .i64 0) ∧ w'.cell? ⟨w1.heap.size, 2, none⟩ = some (.int .i64 0) ∧ w'.cell? ⟨w1.heap.size, 3, none⟩ = some (.int .i64 0))) := Lib.hid (fun w' ho => by rw [hW1] at ho; exact box4 rfl ho)
    clear h1
    obtain ⟨⟨p0, p1, p2, p3⟩, ⟨q0, q1, q2, q3⟩, _⟩ := HC0.out W1 H1.out
    rw [hW1] at p0 p1 p2 p3 q0 q1 q2 q3
    go_wp2_with fail
    rw [← hW1]
    clear hW1 p0 p1 p2 p3 q0 q1 q2 q3
    refine (HRJ.out _).mono ?_
    rintro _ w2 ⟨rfl, h2⟩
    obtain ⟨W2, hW2⟩ : ∃ W2, W2 = w2.alloc (.cells #[.int .i64 0, .int .i64 0, .int .i64 0, .int .i64 0] 108) := ⟨_, rfl⟩
    have H2 : Hid (Only (fun _ => False) W1 W2) := Lib.hid (by rw [hW2]; exact h2.alloc _)
    have HC2 : Hid (∀ w', Only (fun _ => False) W2 w' → (w'.cell? ⟨w2.heap.size, 0, none⟩ = some (.int .i64 0) ∧ w'.cell? ⟨w2.heap.size, 1, none⟩ = some (.int .i64 0) ∧ w'.cell? ⟨w2.heap.size, 2, none⟩ = some (.int .i64 0) ∧ w'.cell? ⟨w2.heap.size, 3, none⟩ = some (.int .i64 0))) := Lib.hid (fun w' ho => by rw [hW2] at ho; exact box4 rfl ho)
    clear h2
    go_wp2_with fail
    rw [← hW2]
    clear hW2
    refine (beats_any _).mono ?_
    rintro _ w3 ⟨rfl, h3⟩
    have H3 : Hid (Only (fun _ => False) W1 w3) := Lib.hid (H2.out.trans h3)
    obtain ⟨t0, t1, t2, t3⟩ := HC1.out w3 H3.out
    obtain ⟨u0, u1, u2, u3⟩ := HC2.out w3 h3
    clear h3
    go_wp2_with fail
    go_ret
    exact ⟨rfl, HF0.out.trans (H1.out.trans H3.out)⟩
end Go.Proofs.Ytlldecklngcklaa.rhyw
