/- RhythmAdds's walk. -/
import Derived.Test.YtlldecklngcklaaRhyH
import Derived.Test.YtlldecklngcklaaRhyI
namespace Go.Proofs.Ytlldecklngcklaa.rhyw
open Go.RowKit mem fltm rhym intm bigm bigw
set_option linter.unusedVariables false

set_option maxRecDepth 100000 in
set_option maxHeartbeats 2000000 in
theorem adds_b_rf_0 (a b c d t u n : Int) (ht : 0 ≤ t) (hm : t ≤ 9223372036854775807) (hu : 4 ≤ u) (hu2 : u ≤ 1073741824) (hk : t % u * 4 / u = 0) (hr : rightB a b c d = false) (w : World) : Calls Try.prog 12 #[.agg #[.int .i64 a, .int .i64 b, .int .i64 c, .int .i64 d], .agg #[.int .i64 t, .int .i64 u], .int .i64 n] w fun e w' => e = .returned (.bool true) ∧ Only (fun _ => False) w w' := by
  obtain ⟨W0, hW0⟩ : ∃ W0, W0 = ((w.alloc (.cells #[.int .i64 a, .int .i64 b, .int .i64 c, .int .i64 d] 108)).alloc (.cells #[.int .i64 t, .int .i64 u] 121)).alloc (.cells #[.int .i64 a, .int .i64 b, .int .i64 c, .int .i64 d] 110) := ⟨_, rfl⟩
  have HF0 : Hid (Only (fun _ => False) w W0) := Lib.hid (by rw [hW0]; exact (((Only.refl _ w).alloc _).alloc _).alloc _)
  have HC : Hid (∀ w', Only (fun _ => False) W0 w' → Kept w w' a b c d t u) := Lib.hid (fun w' ho => by rw [hW0] at ho; exact kept_start w w' a b c d t u ho)
  have HZ : Hid (∀ w', Only (fun _ => False) W0 w' → Four w' w.heap.size) := Lib.hid (fun w' ho => by rw [hW0] at ho; exact (Four.new rfl).only ((((Only.refl (fun _ => False) _).alloc _).alloc _).trans ho) (fun f => f))
  have HSZ : Hid (w.heap.size + 1 + 1 < W0.heap.size) := Lib.hid (by rw [hW0]; simp)
  go_enter Try.func12, Try.ntmps12
  go_wp2_with fail
  rw [← hW0]
  clear hW0
  have e1 : 0 ≤ t % u ∧ t % u < u := ⟨Int.emod_nonneg _ (by omega), Int.emod_lt_of_pos _ (by omega)⟩
  have e2 : t.tmod u = t % u := Int.tmod_eq_emod_of_nonneg ht
  have e3 : (t % u * 4).tdiv u = t % u * 4 / u := Int.tdiv_eq_ediv_of_nonneg (by omega)
  have e5 : t % u * 4 / u < 4 := Int.ediv_lt_of_lt_mul (by omega) (by omega)
  have e6 : 0 ≤ t % u * 4 / u := Int.ediv_nonneg (by omega) (by omega)
  have e4 : wrap64 (t % u * 4 / u) = t % u * 4 / u := by rw [wrap64_eq]; omega
  refine (quarter_yes t u ht hm hu hu2 _).mono ?_
  rintro _ _ ⟨rfl, rfl⟩
  rw [hk] at *
  generalize t % u = r at *
  clear hm
  obtain ⟨⟨p0, p1, p2, p3⟩, ⟨p4, p5⟩, p6, p7, p8, p9⟩ := HC.out W0 (Only.refl _ _)
  clear p0 p1 p2 p3 p4 p5 p6 p7 p8 p9
  go_wp2_with fail
  refine (beats_any _).mono ?_
  rintro _ w1 ⟨rfl, h1⟩
  have H1 := Lib.hid h1
  clear h1
  obtain ⟨⟨p0, p1, p2, p3⟩, ⟨p4, p5⟩, p6, p7, p8, p9⟩ := HC.out w1 H1.out
  go_wp2_with fail
  go_quiet (fail)
  go_wp2_with fail
  refine (add_no a b c d 0 n (.inl (not_right hr)) _).mono ?_
  rintro _ w2 ⟨rfl, h2⟩
  replace h2 : Only (fun _ => False) w1 w2 := (only_drewN (Only.refl _ w1) _).trans h2
  clear p0 p1 p2 p3 p4 p5 p6 p7 p8 p9
  obtain ⟨W2, hW2⟩ : ∃ W2, W2 = w2.alloc (.cells #[.int .i64 0, .int .i64 0, .int .i64 0, .int .i64 0] 110) := ⟨_, rfl⟩
  have H2 : Hid (Only (fun _ => False) W0 W2) := Lib.hid (by rw [hW2]; exact (H1.out.trans h2).alloc _)
  have HSB : Hid (∀ w', Only (fun _ => False) W2 w' → (w'.cell? ⟨w2.heap.size, 0, none⟩ = some (.int .i64 0) ∧ w'.cell? ⟨w2.heap.size, 1, none⟩ = some (.int .i64 0) ∧ w'.cell? ⟨w2.heap.size, 2, none⟩ = some (.int .i64 0) ∧ w'.cell? ⟨w2.heap.size, 3, none⟩ = some (.int .i64 0))) := Lib.hid (fun w' ho => by rw [hW2] at ho; exact box4 rfl ho)
  have HSL : Hid (W0.heap.size ≤ w2.heap.size) := Lib.hid (H1.out.trans h2).size
  clear h2
  obtain ⟨⟨p0, p1, p2, p3⟩, ⟨p4, p5⟩, p6, p7, p8, p9⟩ := HC.out W2 H2.out
  rw [hW2] at p0 p1 p2 p3 p4 p5 p6 p7 p8 p9
  go_wp2_with fail
  rw [← hW2]
  clear hW2 p0 p1 p2 p3 p4 p5 p6 p7 p8 p9
  refine (rright_any a b c d _).mono ?_
  rintro _ w3 ⟨rfl, h3⟩
  rw [hr]
  obtain ⟨s0, s1, s2, s3⟩ := HSB.out w3 h3
  have H3 := Lib.hid h3
  clear h3
  obtain ⟨⟨p0, p1, p2, p3⟩, ⟨p4, p5⟩, p6, p7, p8, p9⟩ := HC.out w3 (H2.out.trans H3.out)
  have EQ : ∀ w : World, (Op.equalIn 9999 108 (.agg #[.int .i64 0, .int .i64 0, .int .i64 0, .int .i64 0]) (.agg #[.int .i64 0, .int .i64 0, .int .i64 0, .int .i64 0])).run Try.prog w = .ok true w := fun w => (eq4_run 9997 0 0 0 0 0 0 0 0 w).trans (by simp)
  go_wp2_with fail
  go_ret
  exact ⟨rfl, HF0.out.trans (H2.out.trans H3.out)⟩
set_option maxRecDepth 100000 in
set_option maxHeartbeats 2000000 in
theorem adds_b_lo_0 (a b c d t u n : Int) (ht : 0 ≤ t) (hm : t ≤ 9223372036854775807) (hu : 4 ≤ u) (hu2 : u ≤ 1073741824) (hk : t % u * 4 / u = 0) (hr : rightB a b c d = true) (hn : n < 0) (w : World) : Calls Try.prog 12 #[.agg #[.int .i64 a, .int .i64 b, .int .i64 c, .int .i64 d], .agg #[.int .i64 t, .int .i64 u], .int .i64 n] w fun e w' => e = .returned (.bool true) ∧ Only (fun _ => False) w w' := by
  obtain ⟨W0, hW0⟩ : ∃ W0, W0 = ((w.alloc (.cells #[.int .i64 a, .int .i64 b, .int .i64 c, .int .i64 d] 108)).alloc (.cells #[.int .i64 t, .int .i64 u] 121)).alloc (.cells #[.int .i64 a, .int .i64 b, .int .i64 c, .int .i64 d] 110) := ⟨_, rfl⟩
  have HF0 : Hid (Only (fun _ => False) w W0) := Lib.hid (by rw [hW0]; exact (((Only.refl _ w).alloc _).alloc _).alloc _)
  have HC : Hid (∀ w', Only (fun _ => False) W0 w' → Kept w w' a b c d t u) := Lib.hid (fun w' ho => by rw [hW0] at ho; exact kept_start w w' a b c d t u ho)
  have HZ : Hid (∀ w', Only (fun _ => False) W0 w' → Four w' w.heap.size) := Lib.hid (fun w' ho => by rw [hW0] at ho; exact (Four.new rfl).only ((((Only.refl (fun _ => False) _).alloc _).alloc _).trans ho) (fun f => f))
  have HSZ : Hid (w.heap.size + 1 + 1 < W0.heap.size) := Lib.hid (by rw [hW0]; simp)
  go_enter Try.func12, Try.ntmps12
  go_wp2_with fail
  rw [← hW0]
  clear hW0
  have e1 : 0 ≤ t % u ∧ t % u < u := ⟨Int.emod_nonneg _ (by omega), Int.emod_lt_of_pos _ (by omega)⟩
  have e2 : t.tmod u = t % u := Int.tmod_eq_emod_of_nonneg ht
  have e3 : (t % u * 4).tdiv u = t % u * 4 / u := Int.tdiv_eq_ediv_of_nonneg (by omega)
  have e5 : t % u * 4 / u < 4 := Int.ediv_lt_of_lt_mul (by omega) (by omega)
  have e6 : 0 ≤ t % u * 4 / u := Int.ediv_nonneg (by omega) (by omega)
  have e4 : wrap64 (t % u * 4 / u) = t % u * 4 / u := by rw [wrap64_eq]; omega
  refine (quarter_yes t u ht hm hu hu2 _).mono ?_
  rintro _ _ ⟨rfl, rfl⟩
  rw [hk] at *
  generalize t % u = r at *
  clear hm
  obtain ⟨⟨p0, p1, p2, p3⟩, ⟨p4, p5⟩, p6, p7, p8, p9⟩ := HC.out W0 (Only.refl _ _)
  clear p0 p1 p2 p3 p4 p5 p6 p7 p8 p9
  go_wp2_with fail
  refine (beats_any _).mono ?_
  rintro _ w1 ⟨rfl, h1⟩
  have H1 := Lib.hid h1
  clear h1
  obtain ⟨⟨p0, p1, p2, p3⟩, ⟨p4, p5⟩, p6, p7, p8, p9⟩ := HC.out w1 H1.out
  go_wp2_with fail
  go_quiet (fail)
  go_wp2_with fail
  refine (add_no a b c d 0 n (by omega) _).mono ?_
  rintro _ w2 ⟨rfl, h2⟩
  replace h2 : Only (fun _ => False) w1 w2 := (only_drewN (Only.refl _ w1) _).trans h2
  clear p0 p1 p2 p3 p4 p5 p6 p7 p8 p9
  obtain ⟨W2, hW2⟩ : ∃ W2, W2 = w2.alloc (.cells #[.int .i64 0, .int .i64 0, .int .i64 0, .int .i64 0] 110) := ⟨_, rfl⟩
  have H2 : Hid (Only (fun _ => False) W0 W2) := Lib.hid (by rw [hW2]; exact (H1.out.trans h2).alloc _)
  have HSB : Hid (∀ w', Only (fun _ => False) W2 w' → (w'.cell? ⟨w2.heap.size, 0, none⟩ = some (.int .i64 0) ∧ w'.cell? ⟨w2.heap.size, 1, none⟩ = some (.int .i64 0) ∧ w'.cell? ⟨w2.heap.size, 2, none⟩ = some (.int .i64 0) ∧ w'.cell? ⟨w2.heap.size, 3, none⟩ = some (.int .i64 0))) := Lib.hid (fun w' ho => by rw [hW2] at ho; exact box4 rfl ho)
  have HSL : Hid (W0.heap.size ≤ w2.heap.size) := Lib.hid (H1.out.trans h2).size
  clear h2
  obtain ⟨⟨p0, p1, p2, p3⟩, ⟨p4, p5⟩, p6, p7, p8, p9⟩ := HC.out W2 H2.out
  rw [hW2] at p0 p1 p2 p3 p4 p5 p6 p7 p8 p9
  go_wp2_with fail
  rw [← hW2]
  clear hW2 p0 p1 p2 p3 p4 p5 p6 p7 p8 p9
  refine (rright_any a b c d _).mono ?_
  rintro _ w3 ⟨rfl, h3⟩
  rw [hr]
  obtain ⟨s0, s1, s2, s3⟩ := HSB.out w3 h3
  have H3 := Lib.hid h3
  clear h3
  obtain ⟨⟨p0, p1, p2, p3⟩, ⟨p4, p5⟩, p6, p7, p8, p9⟩ := HC.out w3 (H2.out.trans H3.out)
  have EQ : ∀ w : World, (Op.equalIn 9999 108 (.agg #[.int .i64 0, .int .i64 0, .int .i64 0, .int .i64 0]) (.agg #[.int .i64 0, .int .i64 0, .int .i64 0, .int .i64 0])).run Try.prog w = .ok true w := fun w => (eq4_run 9997 0 0 0 0 0 0 0 0 w).trans (by simp)
  go_wp2_with fail
  go_ret
  exact ⟨rfl, HF0.out.trans (H2.out.trans H3.out)⟩
set_option maxRecDepth 100000 in
set_option maxHeartbeats 2000000 in
theorem adds_b_rf_1 (a b c d t u n : Int) (ht : 0 ≤ t) (hm : t ≤ 9223372036854775807) (hu : 4 ≤ u) (hu2 : u ≤ 1073741824) (hk : t % u * 4 / u = 1) (hr : rightB a b c d = false) (w : World) : Calls Try.prog 12 #[.agg #[.int .i64 a, .int .i64 b, .int .i64 c, .int .i64 d], .agg #[.int .i64 t, .int .i64 u], .int .i64 n] w fun e w' => e = .returned (.bool true) ∧ Only (fun _ => False) w w' := by
  obtain ⟨W0, hW0⟩ : ∃ W0, W0 = ((w.alloc (.cells #[.int .i64 a, .int .i64 b, .int .i64 c, .int .i64 d] 108)).alloc (.cells #[.int .i64 t, .int .i64 u] 121)).alloc (.cells #[.int .i64 a, .int .i64 b, .int .i64 c, .int .i64 d] 110) := ⟨_, rfl⟩
  have HF0 : Hid (Only (fun _ => False) w W0) := Lib.hid (by rw [hW0]; exact (((Only.refl _ w).alloc _).alloc _).alloc _)
  have HC : Hid (∀ w', Only (fun _ => False) W0 w' → Kept w w' a b c d t u) := Lib.hid (fun w' ho => by rw [hW0] at ho; exact kept_start w w' a b c d t u ho)
  have HZ : Hid (∀ w', Only (fun _ => False) W0 w' → Four w' w.heap.size) := Lib.hid (fun w' ho => by rw [hW0] at ho; exact (Four.new rfl).only ((((Only.refl (fun _ => False) _).alloc _).alloc _).trans ho) (fun f => f))
  have HSZ : Hid (w.heap.size + 1 + 1 < W0.heap.size) := Lib.hid (by rw [hW0]; simp)
  go_enter Try.func12, Try.ntmps12
  go_wp2_with fail
  rw [← hW0]
  clear hW0
  have e1 : 0 ≤ t % u ∧ t % u < u := ⟨Int.emod_nonneg _ (by omega), Int.emod_lt_of_pos _ (by omega)⟩
  have e2 : t.tmod u = t % u := Int.tmod_eq_emod_of_nonneg ht
  have e3 : (t % u * 4).tdiv u = t % u * 4 / u := Int.tdiv_eq_ediv_of_nonneg (by omega)
  have e5 : t % u * 4 / u < 4 := Int.ediv_lt_of_lt_mul (by omega) (by omega)
  have e6 : 0 ≤ t % u * 4 / u := Int.ediv_nonneg (by omega) (by omega)
  have e4 : wrap64 (t % u * 4 / u) = t % u * 4 / u := by rw [wrap64_eq]; omega
  refine (quarter_yes t u ht hm hu hu2 _).mono ?_
  rintro _ _ ⟨rfl, rfl⟩
  rw [hk] at *
  generalize t % u = r at *
  clear hm
  obtain ⟨⟨p0, p1, p2, p3⟩, ⟨p4, p5⟩, p6, p7, p8, p9⟩ := HC.out W0 (Only.refl _ _)
  clear p0 p1 p2 p3 p4 p5 p6 p7 p8 p9
  go_wp2_with fail
  refine (beats_any _).mono ?_
  rintro _ w1 ⟨rfl, h1⟩
  have H1 := Lib.hid h1
  clear h1
  obtain ⟨⟨p0, p1, p2, p3⟩, ⟨p4, p5⟩, p6, p7, p8, p9⟩ := HC.out w1 H1.out
  go_wp2_with fail
  go_quiet (fail)
  go_wp2_with fail
  refine (add_no a b c d 1 n (.inl (not_right hr)) _).mono ?_
  rintro _ w2 ⟨rfl, h2⟩
  replace h2 : Only (fun _ => False) w1 w2 := (only_drewN (Only.refl _ w1) _).trans h2
  clear p0 p1 p2 p3 p4 p5 p6 p7 p8 p9
  obtain ⟨W2, hW2⟩ : ∃ W2, W2 = w2.alloc (.cells #[.int .i64 0, .int .i64 0, .int .i64 0, .int .i64 0] 110) := ⟨_, rfl⟩
  have H2 : Hid (Only (fun _ => False) W0 W2) := Lib.hid (by rw [hW2]; exact (H1.out.trans h2).alloc _)
  have HSB : Hid (∀ w', Only (fun _ => False) W2 w' → (w'.cell? ⟨w2.heap.size, 0, none⟩ = some (.int .i64 0) ∧ w'.cell? ⟨w2.heap.size, 1, none⟩ = some (.int .i64 0) ∧ w'.cell? ⟨w2.heap.size, 2, none⟩ = some (.int .i64 0) ∧ w'.cell? ⟨w2.heap.size, 3, none⟩ = some (.int .i64 0))) := Lib.hid (fun w' ho => by rw [hW2] at ho; exact box4 rfl ho)
  have HSL : Hid (W0.heap.size ≤ w2.heap.size) := Lib.hid (H1.out.trans h2).size
  clear h2
  obtain ⟨⟨p0, p1, p2, p3⟩, ⟨p4, p5⟩, p6, p7, p8, p9⟩ := HC.out W2 H2.out
  rw [hW2] at p0 p1 p2 p3 p4 p5 p6 p7 p8 p9
  go_wp2_with fail
  rw [← hW2]
  clear hW2 p0 p1 p2 p3 p4 p5 p6 p7 p8 p9
  refine (rright_any a b c d _).mono ?_
  rintro _ w3 ⟨rfl, h3⟩
  rw [hr]
  obtain ⟨s0, s1, s2, s3⟩ := HSB.out w3 h3
  have H3 := Lib.hid h3
  clear h3
  obtain ⟨⟨p0, p1, p2, p3⟩, ⟨p4, p5⟩, p6, p7, p8, p9⟩ := HC.out w3 (H2.out.trans H3.out)
  have EQ : ∀ w : World, (Op.equalIn 9999 108 (.agg #[.int .i64 0, .int .i64 0, .int .i64 0, .int .i64 0]) (.agg #[.int .i64 0, .int .i64 0, .int .i64 0, .int .i64 0])).run Try.prog w = .ok true w := fun w => (eq4_run 9997 0 0 0 0 0 0 0 0 w).trans (by simp)
  go_wp2_with fail
  go_ret
  exact ⟨rfl, HF0.out.trans (H2.out.trans H3.out)⟩
set_option maxRecDepth 100000 in
set_option maxHeartbeats 2000000 in
theorem adds_b_lo_1 (a b c d t u n : Int) (ht : 0 ≤ t) (hm : t ≤ 9223372036854775807) (hu : 4 ≤ u) (hu2 : u ≤ 1073741824) (hk : t % u * 4 / u = 1) (hr : rightB a b c d = true) (hn : n < 0) (w : World) : Calls Try.prog 12 #[.agg #[.int .i64 a, .int .i64 b, .int .i64 c, .int .i64 d], .agg #[.int .i64 t, .int .i64 u], .int .i64 n] w fun e w' => e = .returned (.bool true) ∧ Only (fun _ => False) w w' := by
  obtain ⟨W0, hW0⟩ : ∃ W0, W0 = ((w.alloc (.cells #[.int .i64 a, .int .i64 b, .int .i64 c, .int .i64 d] 108)).alloc (.cells #[.int .i64 t, .int .i64 u] 121)).alloc (.cells #[.int .i64 a, .int .i64 b, .int .i64 c, .int .i64 d] 110) := ⟨_, rfl⟩
  have HF0 : Hid (Only (fun _ => False) w W0) := Lib.hid (by rw [hW0]; exact (((Only.refl _ w).alloc _).alloc _).alloc _)
  have HC : Hid (∀ w', Only (fun _ => False) W0 w' → Kept w w' a b c d t u) := Lib.hid (fun w' ho => by rw [hW0] at ho; exact kept_start w w' a b c d t u ho)
  have HZ : Hid (∀ w', Only (fun _ => False) W0 w' → Four w' w.heap.size) := Lib.hid (fun w' ho => by rw [hW0] at ho; exact (Four.new rfl).only ((((Only.refl (fun _ => False) _).alloc _).alloc _).trans ho) (fun f => f))
  have HSZ : Hid (w.heap.size + 1 + 1 < W0.heap.size) := Lib.hid (by rw [hW0]; simp)
  go_enter Try.func12, Try.ntmps12
  go_wp2_with fail
  rw [← hW0]
  clear hW0
  have e1 : 0 ≤ t % u ∧ t % u < u := ⟨Int.emod_nonneg _ (by omega), Int.emod_lt_of_pos _ (by omega)⟩
  have e2 : t.tmod u = t % u := Int.tmod_eq_emod_of_nonneg ht
  have e3 : (t % u * 4).tdiv u = t % u * 4 / u := Int.tdiv_eq_ediv_of_nonneg (by omega)
  have e5 : t % u * 4 / u < 4 := Int.ediv_lt_of_lt_mul (by omega) (by omega)
  have e6 : 0 ≤ t % u * 4 / u := Int.ediv_nonneg (by omega) (by omega)
  have e4 : wrap64 (t % u * 4 / u) = t % u * 4 / u := by rw [wrap64_eq]; omega
  refine (quarter_yes t u ht hm hu hu2 _).mono ?_
  rintro _ _ ⟨rfl, rfl⟩
  rw [hk] at *
  generalize t % u = r at *
  clear hm
  obtain ⟨⟨p0, p1, p2, p3⟩, ⟨p4, p5⟩, p6, p7, p8, p9⟩ := HC.out W0 (Only.refl _ _)
  clear p0 p1 p2 p3 p4 p5 p6 p7 p8 p9
  go_wp2_with fail
  refine (beats_any _).mono ?_
  rintro _ w1 ⟨rfl, h1⟩
  have H1 := Lib.hid h1
  clear h1
  obtain ⟨⟨p0, p1, p2, p3⟩, ⟨p4, p5⟩, p6, p7, p8, p9⟩ := HC.out w1 H1.out
  go_wp2_with fail
  go_quiet (fail)
  go_wp2_with fail
  refine (add_no a b c d 1 n (by omega) _).mono ?_
  rintro _ w2 ⟨rfl, h2⟩
  replace h2 : Only (fun _ => False) w1 w2 := (only_drewN (Only.refl _ w1) _).trans h2
  clear p0 p1 p2 p3 p4 p5 p6 p7 p8 p9
  obtain ⟨W2, hW2⟩ : ∃ W2, W2 = w2.alloc (.cells #[.int .i64 0, .int .i64 0, .int .i64 0, .int .i64 0] 110) := ⟨_, rfl⟩
  have H2 : Hid (Only (fun _ => False) W0 W2) := Lib.hid (by rw [hW2]; exact (H1.out.trans h2).alloc _)
  have HSB : Hid (∀ w', Only (fun _ => False) W2 w' → (w'.cell? ⟨w2.heap.size, 0, none⟩ = some (.int .i64 0) ∧ w'.cell? ⟨w2.heap.size, 1, none⟩ = some (.int .i64 0) ∧ w'.cell? ⟨w2.heap.size, 2, none⟩ = some (.int .i64 0) ∧ w'.cell? ⟨w2.heap.size, 3, none⟩ = some (.int .i64 0))) := Lib.hid (fun w' ho => by rw [hW2] at ho; exact box4 rfl ho)
  have HSL : Hid (W0.heap.size ≤ w2.heap.size) := Lib.hid (H1.out.trans h2).size
  clear h2
  obtain ⟨⟨p0, p1, p2, p3⟩, ⟨p4, p5⟩, p6, p7, p8, p9⟩ := HC.out W2 H2.out
  rw [hW2] at p0 p1 p2 p3 p4 p5 p6 p7 p8 p9
  go_wp2_with fail
  rw [← hW2]
  clear hW2 p0 p1 p2 p3 p4 p5 p6 p7 p8 p9
  refine (rright_any a b c d _).mono ?_
  rintro _ w3 ⟨rfl, h3⟩
  rw [hr]
  obtain ⟨s0, s1, s2, s3⟩ := HSB.out w3 h3
  have H3 := Lib.hid h3
  clear h3
  obtain ⟨⟨p0, p1, p2, p3⟩, ⟨p4, p5⟩, p6, p7, p8, p9⟩ := HC.out w3 (H2.out.trans H3.out)
  have EQ : ∀ w : World, (Op.equalIn 9999 108 (.agg #[.int .i64 0, .int .i64 0, .int .i64 0, .int .i64 0]) (.agg #[.int .i64 0, .int .i64 0, .int .i64 0, .int .i64 0])).run Try.prog w = .ok true w := fun w => (eq4_run 9997 0 0 0 0 0 0 0 0 w).trans (by simp)
  go_wp2_with fail
  go_ret
  exact ⟨rfl, HF0.out.trans (H2.out.trans H3.out)⟩
set_option maxRecDepth 100000 in
set_option maxHeartbeats 2000000 in
theorem adds_b_rf_2 (a b c d t u n : Int) (ht : 0 ≤ t) (hm : t ≤ 9223372036854775807) (hu : 4 ≤ u) (hu2 : u ≤ 1073741824) (hk : t % u * 4 / u = 2) (hr : rightB a b c d = false) (w : World) : Calls Try.prog 12 #[.agg #[.int .i64 a, .int .i64 b, .int .i64 c, .int .i64 d], .agg #[.int .i64 t, .int .i64 u], .int .i64 n] w fun e w' => e = .returned (.bool true) ∧ Only (fun _ => False) w w' := by
  obtain ⟨W0, hW0⟩ : ∃ W0, W0 = ((w.alloc (.cells #[.int .i64 a, .int .i64 b, .int .i64 c, .int .i64 d] 108)).alloc (.cells #[.int .i64 t, .int .i64 u] 121)).alloc (.cells #[.int .i64 a, .int .i64 b, .int .i64 c, .int .i64 d] 110) := ⟨_, rfl⟩
  have HF0 : Hid (Only (fun _ => False) w W0) := Lib.hid (by rw [hW0]; exact (((Only.refl _ w).alloc _).alloc _).alloc _)
  have HC : Hid (∀ w', Only (fun _ => False) W0 w' → Kept w w' a b c d t u) := Lib.hid (fun w' ho => by rw [hW0] at ho; exact kept_start w w' a b c d t u ho)
  have HZ : Hid (∀ w', Only (fun _ => False) W0 w' → Four w' w.heap.size) := Lib.hid (fun w' ho => by rw [hW0] at ho; exact (Four.new rfl).only ((((Only.refl (fun _ => False) _).alloc _).alloc _).trans ho) (fun f => f))
  have HSZ : Hid (w.heap.size + 1 + 1 < W0.heap.size) := Lib.hid (by rw [hW0]; simp)
  go_enter Try.func12, Try.ntmps12
  go_wp2_with fail
  rw [← hW0]
  clear hW0
  have e1 : 0 ≤ t % u ∧ t % u < u := ⟨Int.emod_nonneg _ (by omega), Int.emod_lt_of_pos _ (by omega)⟩
  have e2 : t.tmod u = t % u := Int.tmod_eq_emod_of_nonneg ht
  have e3 : (t % u * 4).tdiv u = t % u * 4 / u := Int.tdiv_eq_ediv_of_nonneg (by omega)
  have e5 : t % u * 4 / u < 4 := Int.ediv_lt_of_lt_mul (by omega) (by omega)
  have e6 : 0 ≤ t % u * 4 / u := Int.ediv_nonneg (by omega) (by omega)
  have e4 : wrap64 (t % u * 4 / u) = t % u * 4 / u := by rw [wrap64_eq]; omega
  refine (quarter_yes t u ht hm hu hu2 _).mono ?_
  rintro _ _ ⟨rfl, rfl⟩
  rw [hk] at *
  generalize t % u = r at *
  clear hm
  obtain ⟨⟨p0, p1, p2, p3⟩, ⟨p4, p5⟩, p6, p7, p8, p9⟩ := HC.out W0 (Only.refl _ _)
  clear p0 p1 p2 p3 p4 p5 p6 p7 p8 p9
  go_wp2_with fail
  refine (beats_any _).mono ?_
  rintro _ w1 ⟨rfl, h1⟩
  have H1 := Lib.hid h1
  clear h1
  obtain ⟨⟨p0, p1, p2, p3⟩, ⟨p4, p5⟩, p6, p7, p8, p9⟩ := HC.out w1 H1.out
  go_wp2_with fail
  go_quiet (fail)
  go_wp2_with fail
  refine (add_no a b c d 2 n (.inl (not_right hr)) _).mono ?_
  rintro _ w2 ⟨rfl, h2⟩
  replace h2 : Only (fun _ => False) w1 w2 := (only_drewN (Only.refl _ w1) _).trans h2
  clear p0 p1 p2 p3 p4 p5 p6 p7 p8 p9
  obtain ⟨W2, hW2⟩ : ∃ W2, W2 = w2.alloc (.cells #[.int .i64 0, .int .i64 0, .int .i64 0, .int .i64 0] 110) := ⟨_, rfl⟩
  have H2 : Hid (Only (fun _ => False) W0 W2) := Lib.hid (by rw [hW2]; exact (H1.out.trans h2).alloc _)
  have HSB : Hid (∀ w', Only (fun _ => False) W2 w' → (w'.cell? ⟨w2.heap.size, 0, none⟩ = some (.int .i64 0) ∧ w'.cell? ⟨w2.heap.size, 1, none⟩ = some (.int .i64 0) ∧ w'.cell? ⟨w2.heap.size, 2, none⟩ = some (.int .i64 0) ∧ w'.cell? ⟨w2.heap.size, 3, none⟩ = some (.int .i64 0))) := Lib.hid (fun w' ho => by rw [hW2] at ho; exact box4 rfl ho)
  have HSL : Hid (W0.heap.size ≤ w2.heap.size) := Lib.hid (H1.out.trans h2).size
  clear h2
  obtain ⟨⟨p0, p1, p2, p3⟩, ⟨p4, p5⟩, p6, p7, p8, p9⟩ := HC.out W2 H2.out
  rw [hW2] at p0 p1 p2 p3 p4 p5 p6 p7 p8 p9
  go_wp2_with fail
  rw [← hW2]
  clear hW2 p0 p1 p2 p3 p4 p5 p6 p7 p8 p9
  refine (rright_any a b c d _).mono ?_
  rintro _ w3 ⟨rfl, h3⟩
  rw [hr]
  obtain ⟨s0, s1, s2, s3⟩ := HSB.out w3 h3
  have H3 := Lib.hid h3
  clear h3
  obtain ⟨⟨p0, p1, p2, p3⟩, ⟨p4, p5⟩, p6, p7, p8, p9⟩ := HC.out w3 (H2.out.trans H3.out)
  have EQ : ∀ w : World, (Op.equalIn 9999 108 (.agg #[.int .i64 0, .int .i64 0, .int .i64 0, .int .i64 0]) (.agg #[.int .i64 0, .int .i64 0, .int .i64 0, .int .i64 0])).run Try.prog w = .ok true w := fun w => (eq4_run 9997 0 0 0 0 0 0 0 0 w).trans (by simp)
  go_wp2_with fail
  go_ret
  exact ⟨rfl, HF0.out.trans (H2.out.trans H3.out)⟩
set_option maxRecDepth 100000 in
set_option maxHeartbeats 2000000 in
theorem adds_b_lo_2 (a b c d t u n : Int) (ht : 0 ≤ t) (hm : t ≤ 9223372036854775807) (hu : 4 ≤ u) (hu2 : u ≤ 1073741824) (hk : t % u * 4 / u = 2) (hr : rightB a b c d = true) (hn : n < 0) (w : World) : Calls Try.prog 12 #[.agg #[.int .i64 a, .int .i64 b, .int .i64 c, .int .i64 d], .agg #[.int .i64 t, .int .i64 u], .int .i64 n] w fun e w' => e = .returned (.bool true) ∧ Only (fun _ => False) w w' := by
  obtain ⟨W0, hW0⟩ : ∃ W0, W0 = ((w.alloc (.cells #[.int .i64 a, .int .i64 b, .int .i64 c, .int .i64 d] 108)).alloc (.cells #[.int .i64 t, .int .i64 u] 121)).alloc (.cells #[.int .i64 a, .int .i64 b, .int .i64 c, .int .i64 d] 110) := ⟨_, rfl⟩
  have HF0 : Hid (Only (fun _ => False) w W0) := Lib.hid (by rw [hW0]; exact (((Only.refl _ w).alloc _).alloc _).alloc _)
  have HC : Hid (∀ w', Only (fun _ => False) W0 w' → Kept w w' a b c d t u) := Lib.hid (fun w' ho => by rw [hW0] at ho; exact kept_start w w' a b c d t u ho)
  have HZ : Hid (∀ w', Only (fun _ => False) W0 w' → Four w' w.heap.size) := Lib.hid (fun w' ho => by rw [hW0] at ho; exact (Four.new rfl).only ((((Only.refl (fun _ => False) _).alloc _).alloc _).trans ho) (fun f => f))
  have HSZ : Hid (w.heap.size + 1 + 1 < W0.heap.size) := Lib.hid (by rw [hW0]; simp)
  go_enter Try.func12, Try.ntmps12
  go_wp2_with fail
  rw [← hW0]
  clear hW0
  have e1 : 0 ≤ t % u ∧ t % u < u := ⟨Int.emod_nonneg _ (by omega), Int.emod_lt_of_pos _ (by omega)⟩
  have e2 : t.tmod u = t % u := Int.tmod_eq_emod_of_nonneg ht
  have e3 : (t % u * 4).tdiv u = t % u * 4 / u := Int.tdiv_eq_ediv_of_nonneg (by omega)
  have e5 : t % u * 4 / u < 4 := Int.ediv_lt_of_lt_mul (by omega) (by omega)
  have e6 : 0 ≤ t % u * 4 / u := Int.ediv_nonneg (by omega) (by omega)
  have e4 : wrap64 (t % u * 4 / u) = t % u * 4 / u := by rw [wrap64_eq]; omega
  refine (quarter_yes t u ht hm hu hu2 _).mono ?_
  rintro _ _ ⟨rfl, rfl⟩
  rw [hk] at *
  generalize t % u = r at *
  clear hm
  obtain ⟨⟨p0, p1, p2, p3⟩, ⟨p4, p5⟩, p6, p7, p8, p9⟩ := HC.out W0 (Only.refl _ _)
  clear p0 p1 p2 p3 p4 p5 p6 p7 p8 p9
  go_wp2_with fail
  refine (beats_any _).mono ?_
  rintro _ w1 ⟨rfl, h1⟩
  have H1 := Lib.hid h1
  clear h1
  obtain ⟨⟨p0, p1, p2, p3⟩, ⟨p4, p5⟩, p6, p7, p8, p9⟩ := HC.out w1 H1.out
  go_wp2_with fail
  go_quiet (fail)
  go_wp2_with fail
  refine (add_no a b c d 2 n (by omega) _).mono ?_
  rintro _ w2 ⟨rfl, h2⟩
  replace h2 : Only (fun _ => False) w1 w2 := (only_drewN (Only.refl _ w1) _).trans h2
  clear p0 p1 p2 p3 p4 p5 p6 p7 p8 p9
  obtain ⟨W2, hW2⟩ : ∃ W2, W2 = w2.alloc (.cells #[.int .i64 0, .int .i64 0, .int .i64 0, .int .i64 0] 110) := ⟨_, rfl⟩
  have H2 : Hid (Only (fun _ => False) W0 W2) := Lib.hid (by rw [hW2]; exact (H1.out.trans h2).alloc _)
  have HSB : Hid (∀ w', Only (fun _ => False) W2 w' → (w'.cell? ⟨w2.heap.size, 0, none⟩ = some (.int .i64 0) ∧ w'.cell? ⟨w2.heap.size, 1, none⟩ = some (.int .i64 0) ∧ w'.cell? ⟨w2.heap.size, 2, none⟩ = some (.int .i64 0) ∧ w'.cell? ⟨w2.heap.size, 3, none⟩ = some (.int .i64 0))) := Lib.hid (fun w' ho => by rw [hW2] at ho; exact box4 rfl ho)
  have HSL : Hid (W0.heap.size ≤ w2.heap.size) := Lib.hid (H1.out.trans h2).size
  clear h2
  obtain ⟨⟨p0, p1, p2, p3⟩, ⟨p4, p5⟩, p6, p7, p8, p9⟩ := HC.out W2 H2.out
  rw [hW2] at p0 p1 p2 p3 p4 p5 p6 p7 p8 p9
  go_wp2_with fail
  rw [← hW2]
  clear hW2 p0 p1 p2 p3 p4 p5 p6 p7 p8 p9
  refine (rright_any a b c d _).mono ?_
  rintro _ w3 ⟨rfl, h3⟩
  rw [hr]
  obtain ⟨s0, s1, s2, s3⟩ := HSB.out w3 h3
  have H3 := Lib.hid h3
  clear h3
  obtain ⟨⟨p0, p1, p2, p3⟩, ⟨p4, p5⟩, p6, p7, p8, p9⟩ := HC.out w3 (H2.out.trans H3.out)
  have EQ : ∀ w : World, (Op.equalIn 9999 108 (.agg #[.int .i64 0, .int .i64 0, .int .i64 0, .int .i64 0]) (.agg #[.int .i64 0, .int .i64 0, .int .i64 0, .int .i64 0])).run Try.prog w = .ok true w := fun w => (eq4_run 9997 0 0 0 0 0 0 0 0 w).trans (by simp)
  go_wp2_with fail
  go_ret
  exact ⟨rfl, HF0.out.trans (H2.out.trans H3.out)⟩
set_option maxRecDepth 100000 in
set_option maxHeartbeats 2000000 in
theorem adds_b_rf_3 (a b c d t u n : Int) (ht : 0 ≤ t) (hm : t ≤ 9223372036854775807) (hu : 4 ≤ u) (hu2 : u ≤ 1073741824) (hk : t % u * 4 / u = 3) (hr : rightB a b c d = false) (w : World) : Calls Try.prog 12 #[.agg #[.int .i64 a, .int .i64 b, .int .i64 c, .int .i64 d], .agg #[.int .i64 t, .int .i64 u], .int .i64 n] w fun e w' => e = .returned (.bool true) ∧ Only (fun _ => False) w w' := by
  obtain ⟨W0, hW0⟩ : ∃ W0, W0 = ((w.alloc (.cells #[.int .i64 a, .int .i64 b, .int .i64 c, .int .i64 d] 108)).alloc (.cells #[.int .i64 t, .int .i64 u] 121)).alloc (.cells #[.int .i64 a, .int .i64 b, .int .i64 c, .int .i64 d] 110) := ⟨_, rfl⟩
  have HF0 : Hid (Only (fun _ => False) w W0) := Lib.hid (by rw [hW0]; exact (((Only.refl _ w).alloc _).alloc _).alloc _)
  have HC : Hid (∀ w', Only (fun _ => False) W0 w' → Kept w w' a b c d t u) := Lib.hid (fun w' ho => by rw [hW0] at ho; exact kept_start w w' a b c d t u ho)
  have HZ : Hid (∀ w', Only (fun _ => False) W0 w' → Four w' w.heap.size) := Lib.hid (fun w' ho => by rw [hW0] at ho; exact (Four.new rfl).only ((((Only.refl (fun _ => False) _).alloc _).alloc _).trans ho) (fun f => f))
  have HSZ : Hid (w.heap.size + 1 + 1 < W0.heap.size) := Lib.hid (by rw [hW0]; simp)
  go_enter Try.func12, Try.ntmps12
  go_wp2_with fail
  rw [← hW0]
  clear hW0
  have e1 : 0 ≤ t % u ∧ t % u < u := ⟨Int.emod_nonneg _ (by omega), Int.emod_lt_of_pos _ (by omega)⟩
  have e2 : t.tmod u = t % u := Int.tmod_eq_emod_of_nonneg ht
  have e3 : (t % u * 4).tdiv u = t % u * 4 / u := Int.tdiv_eq_ediv_of_nonneg (by omega)
  have e5 : t % u * 4 / u < 4 := Int.ediv_lt_of_lt_mul (by omega) (by omega)
  have e6 : 0 ≤ t % u * 4 / u := Int.ediv_nonneg (by omega) (by omega)
  have e4 : wrap64 (t % u * 4 / u) = t % u * 4 / u := by rw [wrap64_eq]; omega
  refine (quarter_yes t u ht hm hu hu2 _).mono ?_
  rintro _ _ ⟨rfl, rfl⟩
  rw [hk] at *
  generalize t % u = r at *
  clear hm
  obtain ⟨⟨p0, p1, p2, p3⟩, ⟨p4, p5⟩, p6, p7, p8, p9⟩ := HC.out W0 (Only.refl _ _)
  clear p0 p1 p2 p3 p4 p5 p6 p7 p8 p9
  go_wp2_with fail
  refine (beats_any _).mono ?_
  rintro _ w1 ⟨rfl, h1⟩
  have H1 := Lib.hid h1
  clear h1
  obtain ⟨⟨p0, p1, p2, p3⟩, ⟨p4, p5⟩, p6, p7, p8, p9⟩ := HC.out w1 H1.out
  go_wp2_with fail
  go_quiet (fail)
  go_wp2_with fail
  refine (add_no a b c d 3 n (.inl (not_right hr)) _).mono ?_
  rintro _ w2 ⟨rfl, h2⟩
  replace h2 : Only (fun _ => False) w1 w2 := (only_drewN (Only.refl _ w1) _).trans h2
  clear p0 p1 p2 p3 p4 p5 p6 p7 p8 p9
  obtain ⟨W2, hW2⟩ : ∃ W2, W2 = w2.alloc (.cells #[.int .i64 0, .int .i64 0, .int .i64 0, .int .i64 0] 110) := ⟨_, rfl⟩
  have H2 : Hid (Only (fun _ => False) W0 W2) := Lib.hid (by rw [hW2]; exact (H1.out.trans h2).alloc _)
  have HSB : Hid (∀ w', Only (fun _ => False) W2 w' → (w'.cell? ⟨w2.heap.size, 0, none⟩ = some (.int .i64 0) ∧ w'.cell? ⟨w2.heap.size, 1, none⟩ = some (.int .i64 0) ∧ w'.cell? ⟨w2.heap.size, 2, none⟩ = some (.int .i64 0) ∧ w'.cell? ⟨w2.heap.size, 3, none⟩ = some (.int .i64 0))) := Lib.hid (fun w' ho => by rw [hW2] at ho; exact box4 rfl ho)
  have HSL : Hid (W0.heap.size ≤ w2.heap.size) := Lib.hid (H1.out.trans h2).size
  clear h2
  obtain ⟨⟨p0, p1, p2, p3⟩, ⟨p4, p5⟩, p6, p7, p8, p9⟩ := HC.out W2 H2.out
  rw [hW2] at p0 p1 p2 p3 p4 p5 p6 p7 p8 p9
  go_wp2_with fail
  rw [← hW2]
  clear hW2 p0 p1 p2 p3 p4 p5 p6 p7 p8 p9
  refine (rright_any a b c d _).mono ?_
  rintro _ w3 ⟨rfl, h3⟩
  rw [hr]
  obtain ⟨s0, s1, s2, s3⟩ := HSB.out w3 h3
  have H3 := Lib.hid h3
  clear h3
  obtain ⟨⟨p0, p1, p2, p3⟩, ⟨p4, p5⟩, p6, p7, p8, p9⟩ := HC.out w3 (H2.out.trans H3.out)
  have EQ : ∀ w : World, (Op.equalIn 9999 108 (.agg #[.int .i64 0, .int .i64 0, .int .i64 0, .int .i64 0]) (.agg #[.int .i64 0, .int .i64 0, .int .i64 0, .int .i64 0])).run Try.prog w = .ok true w := fun w => (eq4_run 9997 0 0 0 0 0 0 0 0 w).trans (by simp)
  go_wp2_with fail
  go_ret
  exact ⟨rfl, HF0.out.trans (H2.out.trans H3.out)⟩
set_option maxRecDepth 100000 in
set_option maxHeartbeats 2000000 in
theorem adds_b_lo_3 (a b c d t u n : Int) (ht : 0 ≤ t) (hm : t ≤ 9223372036854775807) (hu : 4 ≤ u) (hu2 : u ≤ 1073741824) (hk : t % u * 4 / u = 3) (hr : rightB a b c d = true) (hn : n < 0) (w : World) : Calls Try.prog 12 #[.agg #[.int .i64 a, .int .i64 b, .int .i64 c, .int .i64 d], .agg #[.int .i64 t, .int .i64 u], .int .i64 n] w fun e w' => e = .returned (.bool true) ∧ Only (fun _ => False) w w' := by
  obtain ⟨W0, hW0⟩ : ∃ W0, W0 = ((w.alloc (.cells #[.int .i64 a, .int .i64 b, .int .i64 c, .int .i64 d] 108)).alloc (.cells #[.int .i64 t, .int .i64 u] 121)).alloc (.cells #[.int .i64 a, .int .i64 b, .int .i64 c, .int .i64 d] 110) := ⟨_, rfl⟩
  have HF0 : Hid (Only (fun _ => False) w W0) := Lib.hid (by rw [hW0]; exact (((Only.refl _ w).alloc _).alloc _).alloc _)
  have HC : Hid (∀ w', Only (fun _ => False) W0 w' → Kept w w' a b c d t u) := Lib.hid (fun w' ho => by rw [hW0] at ho; exact kept_start w w' a b c d t u ho)
  have HZ : Hid (∀ w', Only (fun _ => False) W0 w' → Four w' w.heap.size) := Lib.hid (fun w' ho => by rw [hW0] at ho; exact (Four.new rfl).only ((((Only.refl (fun _ => False) _).alloc _).alloc _).trans ho) (fun f => f))
  have HSZ : Hid (w.heap.size + 1 + 1 < W0.heap.size) := Lib.hid (by rw [hW0]; simp)
  go_enter Try.func12, Try.ntmps12
  go_wp2_with fail
  rw [← hW0]
  clear hW0
  have e1 : 0 ≤ t % u ∧ t % u < u := ⟨Int.emod_nonneg _ (by omega), Int.emod_lt_of_pos _ (by omega)⟩
  have e2 : t.tmod u = t % u := Int.tmod_eq_emod_of_nonneg ht
  have e3 : (t % u * 4).tdiv u = t % u * 4 / u := Int.tdiv_eq_ediv_of_nonneg (by omega)
  have e5 : t % u * 4 / u < 4 := Int.ediv_lt_of_lt_mul (by omega) (by omega)
  have e6 : 0 ≤ t % u * 4 / u := Int.ediv_nonneg (by omega) (by omega)
  have e4 : wrap64 (t % u * 4 / u) = t % u * 4 / u := by rw [wrap64_eq]; omega
  refine (quarter_yes t u ht hm hu hu2 _).mono ?_
  rintro _ _ ⟨rfl, rfl⟩
  rw [hk] at *
  generalize t % u = r at *
  clear hm
  obtain ⟨⟨p0, p1, p2, p3⟩, ⟨p4, p5⟩, p6, p7, p8, p9⟩ := HC.out W0 (Only.refl _ _)
  clear p0 p1 p2 p3 p4 p5 p6 p7 p8 p9
  go_wp2_with fail
  refine (beats_any _).mono ?_
  rintro _ w1 ⟨rfl, h1⟩
  have H1 := Lib.hid h1
  clear h1
  obtain ⟨⟨p0, p1, p2, p3⟩, ⟨p4, p5⟩, p6, p7, p8, p9⟩ := HC.out w1 H1.out
  go_wp2_with fail
  go_quiet (fail)
  go_wp2_with fail
  refine (add_no a b c d 3 n (by omega) _).mono ?_
  rintro _ w2 ⟨rfl, h2⟩
  replace h2 : Only (fun _ => False) w1 w2 := (only_drewN (Only.refl _ w1) _).trans h2
  clear p0 p1 p2 p3 p4 p5 p6 p7 p8 p9
  obtain ⟨W2, hW2⟩ : ∃ W2, W2 = w2.alloc (.cells #[.int .i64 0, .int .i64 0, .int .i64 0, .int .i64 0] 110) := ⟨_, rfl⟩
  have H2 : Hid (Only (fun _ => False) W0 W2) := Lib.hid (by rw [hW2]; exact (H1.out.trans h2).alloc _)
  have HSB : Hid (∀ w', Only (fun _ => False) W2 w' → (w'.cell? ⟨w2.heap.size, 0, none⟩ = some (.int .i64 0) ∧ w'.cell? ⟨w2.heap.size, 1, none⟩ = some (.int .i64 0) ∧ w'.cell? ⟨w2.heap.size, 2, none⟩ = some (.int .i64 0) ∧ w'.cell? ⟨w2.heap.size, 3, none⟩ = some (.int .i64 0))) := Lib.hid (fun w' ho => by rw [hW2] at ho; exact box4 rfl ho)
  have HSL : Hid (W0.heap.size ≤ w2.heap.size) := Lib.hid (H1.out.trans h2).size
  clear h2
  obtain ⟨⟨p0, p1, p2, p3⟩, ⟨p4, p5⟩, p6, p7, p8, p9⟩ := HC.out W2 H2.out
  rw [hW2] at p0 p1 p2 p3 p4 p5 p6 p7 p8 p9
  go_wp2_with fail
  rw [← hW2]
  clear hW2 p0 p1 p2 p3 p4 p5 p6 p7 p8 p9
  refine (rright_any a b c d _).mono ?_
  rintro _ w3 ⟨rfl, h3⟩
  rw [hr]
  obtain ⟨s0, s1, s2, s3⟩ := HSB.out w3 h3
  have H3 := Lib.hid h3
  clear h3
  obtain ⟨⟨p0, p1, p2, p3⟩, ⟨p4, p5⟩, p6, p7, p8, p9⟩ := HC.out w3 (H2.out.trans H3.out)
  have EQ : ∀ w : World, (Op.equalIn 9999 108 (.agg #[.int .i64 0, .int .i64 0, .int .i64 0, .int .i64 0]) (.agg #[.int .i64 0, .int .i64 0, .int .i64 0, .int .i64 0])).run Try.prog w = .ok true w := fun w => (eq4_run 9997 0 0 0 0 0 0 0 0 w).trans (by simp)
  go_wp2_with fail
  go_ret
  exact ⟨rfl, HF0.out.trans (H2.out.trans H3.out)⟩
end Go.Proofs.Ytlldecklngcklaa.rhyw
