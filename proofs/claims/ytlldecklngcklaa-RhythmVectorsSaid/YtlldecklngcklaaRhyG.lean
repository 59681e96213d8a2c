/- RhythmVectors's walk. -/
import Derived.Test.YtlldecklngcklaaRhyF
namespace Go.Proofs.Ytlldecklngcklaa.rhyw
open Go.RowKit mem fltm rhym intm bigm bigw
set_option linter.unusedVariables false

set_option maxRecDepth 100000 in
set_option maxHeartbeats 2000000 in
theorem vectors_yes (a b c d : Int) (hR : rightB a b c d = true) (w : World) : Calls Try.prog 11 #[.agg #[.int .i64 a, .int .i64 b, .int .i64 c, .int .i64 d]] w fun e w' => e = .returned (.bool true) ∧ Only (fun _ => False) w w' := by
  have HRV := Lib.hid (rvec_any a b c d)
  have HP := Lib.hid (peak_any a b c d)
  have HRP := Lib.hid (rpeak_any a b c d)
  have HS := Lib.hid (strength_any a b c d)
  have HRS := Lib.hid (rstrength_any a b c d)
  have HRR := Lib.hid (rright_any a b c d)
  have HV := Lib.hid (vector_any a b c d)
  have HT := Lib.hid (total_any a b c d)
  rw [hR] at HRR
  have hb := v_bounds a b c d
  have ht : totN a b c d = a + b + c + d := by unfold totN; rw [hR]; simp
  rw [ht] at HT
  obtain ⟨⟨a1, a2⟩, ⟨b1, b2⟩, ⟨c1, c2⟩, ⟨d1, d2⟩⟩ := right_of hR
  clear ht
  generalize peakN (vx a b c d) (vy a b c d) = n1 at *
  generalize peakB (vx a b c d) (vy a b c d) = n2 at *
  generalize stNQ a b c d = n3 at *
  generalize stBQ a b c d = n4 at *
  generalize vx a b c d = x at *
  generalize vy a b c d = y at *
  have cx := int_fl (v := x) (by omega)
  have cy := int_fl (v := y) (by omega)
  have rx : ∀ w : World, (convert 119 3 (.float .f64 (fl x))).run Try.prog w = .ok (.int .i64 x) w := fun w => run_convert_float_int w 119 3 .f64 .i64 (fl x) x (by rw [Try.underlying119]; rfl) Try.underlying3 cx
  have ry : ∀ w : World, (convert 119 3 (.float .f64 (fl y))).run Try.prog w = .ok (.int .i64 y) w := fun w => run_convert_float_int w 119 3 .f64 .i64 (fl y) y (by rw [Try.underlying119]; rfl) Try.underlying3 cy
  clear cx cy hb
  obtain ⟨W0, hW0⟩ : ∃ W0, W0 = (w.alloc (.cells #[.int .i64 a, .int .i64 b, .int .i64 c, .int .i64 d] 108)).alloc (.cells #[.int .i64 a, .int .i64 b, .int .i64 c, .int .i64 d] 110) := ⟨_, rfl⟩
  have HF0 : Hid (Only (fun _ => False) w W0) := Lib.hid (by rw [hW0]; exact ((Only.refl _ w).alloc _).alloc _)
  have HC : Hid (∀ w', Only (fun _ => False) W0 w' → (w'.cell? ⟨w.heap.size, 0, none⟩ = some (.int .i64 a) ∧ w'.cell? ⟨w.heap.size, 1, none⟩ = some (.int .i64 b) ∧ w'.cell? ⟨w.heap.size, 2, none⟩ = some (.int .i64 c) ∧ w'.cell? ⟨w.heap.size, 3, none⟩ = some (.int .i64 d)) ∧
      (w'.cell? ⟨w.heap.size + 1, 0, none⟩ = some (.int .i64 a) ∧ w'.cell? ⟨w.heap.size + 1, 1, none⟩ = some (.int .i64 b) ∧ w'.cell? ⟨w.heap.size + 1, 2, none⟩ = some (.int .i64 c) ∧ w'.cell? ⟨w.heap.size + 1, 3, none⟩ = some (.int .i64 d))) := Lib.hid (fun w' ho => by
    rw [hW0] at ho
    exact ⟨box4 rfl (((Only.refl (fun _ => False) _).alloc _).trans ho), box4 (by simp) ho⟩)
  go_enter Try.func11, Try.ntmps11
  go_wp2_with fail
  rw [← hW0]
  clear hW0
  refine (HRV.out _).mono ?_
  rintro _ w1 ⟨rfl, h1⟩
  have H1 := Lib.hid h1
  clear h1
  obtain ⟨⟨p0, p1, p2, p3⟩, p4, p5, p6, p7⟩ := HC.out _ H1.out
  go_wp2_with fail
  refine (HP.out _).mono ?_
  rintro _ w2 ⟨rfl, h2⟩
  have H2 := Lib.hid (H1.out.trans h2)
  clear h2 p0 p1 p2 p3 p4 p5 p6 p7
  obtain ⟨⟨p0, p1, p2, p3⟩, p4, p5, p6, p7⟩ := HC.out _ H2.out
  go_wp2_with fail
  refine (HRP.out _).mono ?_
  rintro _ w3 ⟨rfl, h3⟩
  have H3 := Lib.hid (H2.out.trans h3)
  clear h3 p0 p1 p2 p3 p4 p5 p6 p7
  obtain ⟨⟨p0, p1, p2, p3⟩, p4, p5, p6, p7⟩ := HC.out _ H3.out
  go_wp2_with fail
  refine (HS.out _).mono ?_
  rintro _ w4 ⟨rfl, h4⟩
  have H4 := Lib.hid (H3.out.trans h4)
  clear h4 p0 p1 p2 p3 p4 p5 p6 p7
  obtain ⟨⟨p0, p1, p2, p3⟩, p4, p5, p6, p7⟩ := HC.out _ H4.out
  go_wp2_with fail
  refine (HRS.out _).mono ?_
  rintro _ w5 ⟨rfl, h5⟩
  have H5 := Lib.hid (H4.out.trans h5)
  clear h5 p0 p1 p2 p3 p4 p5 p6 p7
  obtain ⟨⟨p0, p1, p2, p3⟩, p4, p5, p6, p7⟩ := HC.out _ H5.out
  go_wp2_with fail
  refine (HRR.out _).mono ?_
  rintro _ w6 ⟨rfl, h6⟩
  have H6 := Lib.hid (H5.out.trans h6)
  clear h6 p0 p1 p2 p3 p4 p5 p6 p7
  obtain ⟨⟨p0, p1, p2, p3⟩, p4, p5, p6, p7⟩ := HC.out _ H6.out
  go_wp2_with fail
  refine (HV.out _).mono ?_
  rintro _ w7 ⟨rfl, h7⟩
  have H7 := Lib.hid (H6.out.trans h7)
  clear h7 p0 p1 p2 p3 p4 p5 p6 p7
  obtain ⟨⟨p0, p1, p2, p3⟩, p4, p5, p6, p7⟩ := HC.out _ H7.out
  go_wp2_with fail
  refine (beats_any _).mono ?_
  rintro _ w8 ⟨rfl, h8⟩
  have H8 := Lib.hid (H7.out.trans h8)
  clear h8 p0 p1 p2 p3 p4 p5 p6 p7
  obtain ⟨⟨p0, p1, p2, p3⟩, p4, p5, p6, p7⟩ := HC.out _ H8.out
  go_wp2_with fail
  refine (HT.out _).mono ?_
  rintro _ w9 ⟨rfl, h9⟩
  have H9 := Lib.hid (H8.out.trans h9)
  clear h9 p0 p1 p2 p3 p4 p5 p6 p7
  obtain ⟨⟨p0, p1, p2, p3⟩, p4, p5, p6, p7⟩ := HC.out _ H9.out
  go_wp2_with fail
  go_ret
  exact ⟨rfl, HF0.out.trans H9.out⟩
set_option maxRecDepth 100000 in
set_option maxHeartbeats 2000000 in
theorem vectors_no (a b c d : Int) (hR : rightB a b c d = false) (w : World) : Calls Try.prog 11 #[.agg #[.int .i64 a, .int .i64 b, .int .i64 c, .int .i64 d]] w fun e w' => e = .returned (.bool true) ∧ Only (fun _ => False) w w' := by
  have HRV := Lib.hid (rvec_any a b c d)
  have HP := Lib.hid (peak_any a b c d)
  have HRP := Lib.hid (rpeak_any a b c d)
  have HS := Lib.hid (strength_any a b c d)
  have HRS := Lib.hid (rstrength_any a b c d)
  have HRR := Lib.hid (rright_any a b c d)
  have HV := Lib.hid (vector_any a b c d)
  have HT := Lib.hid (total_any a b c d)
  rw [hR] at HRR
  have hb := v_bounds a b c d
  have ht : totN a b c d = 0 := by unfold totN; rw [hR]; simp
  rw [ht] at HT
  clear ht
  generalize peakN (vx a b c d) (vy a b c d) = n1 at *
  generalize peakB (vx a b c d) (vy a b c d) = n2 at *
  generalize stNQ a b c d = n3 at *
  generalize stBQ a b c d = n4 at *
  generalize vx a b c d = x at *
  generalize vy a b c d = y at *
  have cx := int_fl (v := x) (by omega)
  have cy := int_fl (v := y) (by omega)
  have rx : ∀ w : World, (convert 119 3 (.float .f64 (fl x))).run Try.prog w = .ok (.int .i64 x) w := fun w => run_convert_float_int w 119 3 .f64 .i64 (fl x) x (by rw [Try.underlying119]; rfl) Try.underlying3 cx
  have ry : ∀ w : World, (convert 119 3 (.float .f64 (fl y))).run Try.prog w = .ok (.int .i64 y) w := fun w => run_convert_float_int w 119 3 .f64 .i64 (fl y) y (by rw [Try.underlying119]; rfl) Try.underlying3 cy
  clear cx cy hb
  obtain ⟨W0, hW0⟩ : ∃ W0, W0 = (w.alloc (.cells #[.int .i64 a, .int .i64 b, .int .i64 c, .int .i64 d] 108)).alloc (.cells #[.int .i64 a, .int .i64 b, .int .i64 c, .int .i64 d] 110) := ⟨_, rfl⟩
  have HF0 : Hid (Only (fun _ => False) w W0) := Lib.hid (by rw [hW0]; exact ((Only.refl _ w).alloc _).alloc _)
  have HC : Hid (∀ w', Only (fun _ => False) W0 w' → (w'.cell? ⟨w.heap.size, 0, none⟩ = some (.int .i64 a) ∧ w'.cell? ⟨w.heap.size, 1, none⟩ = some (.int .i64 b) ∧ w'.cell? ⟨w.heap.size, 2, none⟩ = some (.int .i64 c) ∧ w'.cell? ⟨w.heap.size, 3, none⟩ = some (.int .i64 d)) ∧
      (w'.cell? ⟨w.heap.size + 1, 0, none⟩ = some (.int .i64 a) ∧ w'.cell? ⟨w.heap.size + 1, 1, none⟩ = some (.int .i64 b) ∧ w'.cell? ⟨w.heap.size + 1, 2, none⟩ = some (.int .i64 c) ∧ w'.cell? ⟨w.heap.size + 1, 3, none⟩ = some (.int .i64 d))) := Lib.hid (fun w' ho => by
    rw [hW0] at ho
    exact ⟨box4 rfl (((Only.refl (fun _ => False) _).alloc _).trans ho), box4 (by simp) ho⟩)
  go_enter Try.func11, Try.ntmps11
  go_wp2_with fail
  rw [← hW0]
  clear hW0
  refine (HRV.out _).mono ?_
  rintro _ w1 ⟨rfl, h1⟩
  have H1 := Lib.hid h1
  clear h1
  obtain ⟨⟨p0, p1, p2, p3⟩, p4, p5, p6, p7⟩ := HC.out _ H1.out
  go_wp2_with fail
  refine (HP.out _).mono ?_
  rintro _ w2 ⟨rfl, h2⟩
  have H2 := Lib.hid (H1.out.trans h2)
  clear h2 p0 p1 p2 p3 p4 p5 p6 p7
  obtain ⟨⟨p0, p1, p2, p3⟩, p4, p5, p6, p7⟩ := HC.out _ H2.out
  go_wp2_with fail
  refine (HRP.out _).mono ?_
  rintro _ w3 ⟨rfl, h3⟩
  have H3 := Lib.hid (H2.out.trans h3)
  clear h3 p0 p1 p2 p3 p4 p5 p6 p7
  obtain ⟨⟨p0, p1, p2, p3⟩, p4, p5, p6, p7⟩ := HC.out _ H3.out
  go_wp2_with fail
  refine (HS.out _).mono ?_
  rintro _ w4 ⟨rfl, h4⟩
  have H4 := Lib.hid (H3.out.trans h4)
  clear h4 p0 p1 p2 p3 p4 p5 p6 p7
  obtain ⟨⟨p0, p1, p2, p3⟩, p4, p5, p6, p7⟩ := HC.out _ H4.out
  go_wp2_with fail
  refine (HRS.out _).mono ?_
  rintro _ w5 ⟨rfl, h5⟩
  have H5 := Lib.hid (H4.out.trans h5)
  clear h5 p0 p1 p2 p3 p4 p5 p6 p7
  obtain ⟨⟨p0, p1, p2, p3⟩, p4, p5, p6, p7⟩ := HC.out _ H5.out
  go_wp2_with fail
  refine (HRR.out _).mono ?_
  rintro _ w6 ⟨rfl, h6⟩
  have H6 := Lib.hid (H5.out.trans h6)
  clear h6 p0 p1 p2 p3 p4 p5 p6 p7
  obtain ⟨⟨p0, p1, p2, p3⟩, p4, p5, p6, p7⟩ := HC.out _ H6.out
  go_wp2_with fail
  refine (HV.out _).mono ?_
  rintro _ w7 ⟨rfl, h7⟩
  have H7 := Lib.hid (H6.out.trans h7)
  clear h7 p0 p1 p2 p3 p4 p5 p6 p7
  obtain ⟨⟨p0, p1, p2, p3⟩, p4, p5, p6, p7⟩ := HC.out _ H7.out
  go_wp2_with fail
  refine (beats_any _).mono ?_
  rintro _ w8 ⟨rfl, h8⟩
  have H8 := Lib.hid (H7.out.trans h8)
  clear h8 p0 p1 p2 p3 p4 p5 p6 p7
  obtain ⟨⟨p0, p1, p2, p3⟩, p4, p5, p6, p7⟩ := HC.out _ H8.out
  go_wp2_with fail
  refine (HT.out _).mono ?_
  rintro _ w9 ⟨rfl, h9⟩
  have H9 := Lib.hid (H8.out.trans h9)
  clear h9 p0 p1 p2 p3 p4 p5 p6 p7
  obtain ⟨⟨p0, p1, p2, p3⟩, p4, p5, p6, p7⟩ := HC.out _ H9.out
  go_wp2_with fail
  go_ret
  exact ⟨rfl, HF0.out.trans H9.out⟩
theorem vectors_walk (a b c d : Int) (w : World) : Calls Try.prog 11 #[.agg #[.int .i64 a, .int .i64 b, .int .i64 c, .int .i64 d]] w fun e w' => e = .returned (.bool true) ∧ Below w.heap.size w w' := by
  cases h : rightB a b c d with
  | false => exact (vectors_no a b c d h w).mono fun _ _ ⟨h1, h2⟩ => ⟨h1, h2.none⟩
  | true => exact (vectors_yes a b c d h w).mono fun _ _ ⟨h1, h2⟩ => ⟨h1, h2.none⟩
end Go.Proofs.Ytlldecklngcklaa.rhyw
