/- RhythmAdds's walk. -/
import Derived.Test.YtlldecklngcklaaRhyH
import Derived.Test.YtlldecklngcklaaRhyI
namespace Go.Proofs.Ytlldecklngcklaa.rhyw
open Go.RowKit mem fltm rhym intm bigm bigw
set_option linter.unusedVariables false

set_option maxRecDepth 100000 in
set_option maxHeartbeats 2000000 in
theorem adds_b_over_0 (a b c d t u n : Int) (ht : 0 ≤ t) (hm : t ≤ 9223372036854775807) (hu : 4 ≤ u) (hu2 : u ≤ 1073741824) (hk : t % u * 4 / u = 0) (HQ : Hid (Q4 a b c d)) (hr : rightB a b c d = true) (h0 : 0 ≤ n) (hn : 1125899906842624 - a < n) (w : World) : Calls Try.prog 12 #[.agg #[.int .i64 a, .int .i64 b, .int .i64 c, .int .i64 d], .agg #[.int .i64 t, .int .i64 u], .int .i64 n] w fun e w' => e = .returned (.bool true) ∧ Only (fun _ => False) w w' := by
  obtain ⟨W0, hW0⟩ : ∃ W0, W0 = ((w.alloc (.cells #[.int .i64 a, .int .i64 b, .int .i64 c, .int .i64 d] 108)).alloc (.cells #[.int .i64 t, .int .i64 u] 121)).alloc (.cells #[.int .i64 a, .int .i64 b, .int .i64 c, .int .i64 d] 110) := ⟨_, rfl⟩
  have HF0 : Hid (Only (fun _ => False) w W0) := Lib.hid (by rw [hW0]; exact (((Only.refl _ w).alloc _).alloc _).alloc _)
  have HC : Hid (∀ w', Only (fun _ => False) W0 w' → Kept w w' a b c d t u) := Lib.hid (fun w' ho => by rw [hW0] at ho; exact kept_start w w' a b c d t u ho)
  have HZ : Hid (∀ w', Only (fun _ => False) W0 w' → Four w' w.heap.size) := Lib.hid (fun w' ho => by rw [hW0] at ho; exact (Four.new rfl).only ((((Only.refl (fun _ => False) _).alloc _).alloc _).trans ho) (fun f => f))
  have HSZ : Hid (w.heap.size + 1 + 1 < W0.heap.size) := Lib.hid (by rw [hW0]; simp)
  go_enter Try.func12, Try.ntmps12
  go_wp2_with fail
  rw [← hW0]
  clear hW0
  have e1 : 0 ≤ t % u ∧ t % u < u := ⟨Int.emod_nonneg _ (by omega), Int.emod_lt_of_pos _ (by omega)⟩
  have e2 : t.tmod u = t % u := Int.tmod_eq_emod_of_nonneg ht
  have e3 : (t % u * 4).tdiv u = t % u * 4 / u := Int.tdiv_eq_ediv_of_nonneg (by omega)
  have e5 : t % u * 4 / u < 4 := Int.ediv_lt_of_lt_mul (by omega) (by omega)
  have e6 : 0 ≤ t % u * 4 / u := Int.ediv_nonneg (by omega) (by omega)
  have e4 : wrap64 (t % u * 4 / u) = t % u * 4 / u := by rw [wrap64_eq]; omega
  refine (quarter_yes t u ht hm hu hu2 _).mono ?_
  rintro _ _ ⟨rfl, rfl⟩
  rw [hk] at *
  generalize t % u = r at *
  clear hm
  obtain ⟨⟨a1, a2⟩, ⟨b1, b2⟩, ⟨c1, c2⟩, ⟨d1, d2⟩⟩ := HQ.out
  obtain ⟨⟨p0, p1, p2, p3⟩, ⟨p4, p5⟩, p6, p7, p8, p9⟩ := HC.out W0 (Only.refl _ _)
  clear p0 p1 p2 p3 p4 p5 p6 p7 p8 p9
  go_wp2_with fail
  refine (beats_any _).mono ?_
  rintro _ w1 ⟨rfl, h1⟩
  have H1 := Lib.hid h1
  clear h1
  obtain ⟨⟨p0, p1, p2, p3⟩, ⟨p4, p5⟩, p6, p7, p8, p9⟩ := HC.out w1 H1.out
  go_wp2_with fail
  go_quiet (fail)
  go_wp2_with fail
  refine (add_over_0 a b c d n HQ.out h0 hn _).mono ?_
  rintro _ w2 ⟨rfl, h2⟩
  replace h2 : Only (fun _ => False) w1 w2 := (only_drewN (Only.refl _ w1) _).trans h2
  clear p0 p1 p2 p3 p4 p5 p6 p7 p8 p9
  obtain ⟨W2, hW2⟩ : ∃ W2, W2 = w2.alloc (.cells #[.int .i64 0, .int .i64 0, .int .i64 0, .int .i64 0] 110) := ⟨_, rfl⟩
  have H2 : Hid (Only (fun _ => False) W0 W2) := Lib.hid (by rw [hW2]; exact (H1.out.trans h2).alloc _)
  have HSB : Hid (∀ w', Only (fun _ => False) W2 w' → (w'.cell? ⟨w2.heap.size, 0, none⟩ = some (.int .i64 0) ∧ w'.cell? ⟨w2.heap.size, 1, none⟩ = some (.int .i64 0) ∧ w'.cell? ⟨w2.heap.size, 2, none⟩ = some (.int .i64 0) ∧ w'.cell? ⟨w2.heap.size, 3, none⟩ = some (.int .i64 0))) := Lib.hid (fun w' ho => by rw [hW2] at ho; exact box4 rfl ho)
  have HSL : Hid (W0.heap.size ≤ w2.heap.size) := Lib.hid (H1.out.trans h2).size
  clear h2
  obtain ⟨⟨p0, p1, p2, p3⟩, ⟨p4, p5⟩, p6, p7, p8, p9⟩ := HC.out W2 H2.out
  rw [hW2] at p0 p1 p2 p3 p4 p5 p6 p7 p8 p9
  go_wp2_with fail
  rw [← hW2]
  clear hW2 p0 p1 p2 p3 p4 p5 p6 p7 p8 p9
  refine (rright_any a b c d _).mono ?_
  rintro _ w3 ⟨rfl, h3⟩
  rw [hr]
  obtain ⟨s0, s1, s2, s3⟩ := HSB.out w3 h3
  have H3 := Lib.hid h3
  clear h3
  obtain ⟨⟨p0, p1, p2, p3⟩, ⟨p4, p5⟩, p6, p7, p8, p9⟩ := HC.out w3 (H2.out.trans H3.out)
  have EQ : ∀ w : World, (Op.equalIn 9999 108 (.agg #[.int .i64 0, .int .i64 0, .int .i64 0, .int .i64 0]) (.agg #[.int .i64 0, .int .i64 0, .int .i64 0, .int .i64 0])).run Try.prog w = .ok true w := fun w => (eq4_run 9997 0 0 0 0 0 0 0 0 w).trans (by simp)
  go_wp2_with fail
  go_ret
  exact ⟨rfl, HF0.out.trans (H2.out.trans H3.out)⟩
set_option maxRecDepth 100000 in
set_option maxHeartbeats 2000000 in
theorem adds_b_ok_0 (a b c d t u n : Int) (ht : 0 ≤ t) (hm : t ≤ 9223372036854775807) (hu : 4 ≤ u) (hu2 : u ≤ 1073741824) (hk : t % u * 4 / u = 0) (HQ : Hid (Q4 a b c d)) (hr : rightB a b c d = true) (h0 : 0 ≤ n) (hn : n ≤ 1125899906842624 - a) (w : World) : Calls Try.prog 12 #[.agg #[.int .i64 a, .int .i64 b, .int .i64 c, .int .i64 d], .agg #[.int .i64 t, .int .i64 u], .int .i64 n] w fun e w' => e = .returned (.bool true) ∧ Only (fun _ => False) w w' := by
  obtain ⟨W0, hW0⟩ : ∃ W0, W0 = ((w.alloc (.cells #[.int .i64 a, .int .i64 b, .int .i64 c, .int .i64 d] 108)).alloc (.cells #[.int .i64 t, .int .i64 u] 121)).alloc (.cells #[.int .i64 a, .int .i64 b, .int .i64 c, .int .i64 d] 110) := ⟨_, rfl⟩
  have HF0 : Hid (Only (fun _ => False) w W0) := Lib.hid (by rw [hW0]; exact (((Only.refl _ w).alloc _).alloc _).alloc _)
  have HC : Hid (∀ w', Only (fun _ => False) W0 w' → Kept w w' a b c d t u) := Lib.hid (fun w' ho => by rw [hW0] at ho; exact kept_start w w' a b c d t u ho)
  have HZ : Hid (∀ w', Only (fun _ => False) W0 w' → Four w' w.heap.size) := Lib.hid (fun w' ho => by rw [hW0] at ho; exact (Four.new rfl).only ((((Only.refl (fun _ => False) _).alloc _).alloc _).trans ho) (fun f => f))
  have HSZ : Hid (w.heap.size + 1 + 1 < W0.heap.size) := Lib.hid (by rw [hW0]; simp)
  go_enter Try.func12, Try.ntmps12
  go_wp2_with fail
  rw [← hW0]
  clear hW0
  have e1 : 0 ≤ t % u ∧ t % u < u := ⟨Int.emod_nonneg _ (by omega), Int.emod_lt_of_pos _ (by omega)⟩
  have e2 : t.tmod u = t % u := Int.tmod_eq_emod_of_nonneg ht
  have e3 : (t % u * 4).tdiv u = t % u * 4 / u := Int.tdiv_eq_ediv_of_nonneg (by omega)
  have e5 : t % u * 4 / u < 4 := Int.ediv_lt_of_lt_mul (by omega) (by omega)
  have e6 : 0 ≤ t % u * 4 / u := Int.ediv_nonneg (by omega) (by omega)
  have e4 : wrap64 (t % u * 4 / u) = t % u * 4 / u := by rw [wrap64_eq]; omega
  refine (quarter_yes t u ht hm hu hu2 _).mono ?_
  rintro _ _ ⟨rfl, rfl⟩
  rw [hk] at *
  generalize t % u = r at *
  clear hm
  obtain ⟨⟨a1, a2⟩, ⟨b1, b2⟩, ⟨c1, c2⟩, ⟨d1, d2⟩⟩ := HQ.out
  obtain ⟨⟨p0, p1, p2, p3⟩, ⟨p4, p5⟩, p6, p7, p8, p9⟩ := HC.out W0 (Only.refl _ _)
  clear p0 p1 p2 p3 p4 p5 p6 p7 p8 p9
  go_wp2_with fail
  refine (beats_any _).mono ?_
  rintro _ w1 ⟨rfl, h1⟩
  have H1 := Lib.hid h1
  clear h1
  obtain ⟨⟨p0, p1, p2, p3⟩, ⟨p4, p5⟩, p6, p7, p8, p9⟩ := HC.out w1 H1.out
  go_wp2_with fail
  go_quiet (fail)
  go_wp2_with fail
  refine (add_ok_0 a b c d n HQ.out h0 hn _).mono ?_
  rintro _ w2 ⟨rfl, h2⟩
  replace h2 : Only (fun _ => False) w1 w2 := (only_drewN (Only.refl _ w1) _).trans h2
  clear p0 p1 p2 p3 p4 p5 p6 p7 p8 p9
  obtain ⟨W2, hW2⟩ : ∃ W2, W2 = w2.alloc (.cells #[.int .i64 (a + n), .int .i64 b, .int .i64 c, .int .i64 d] 110) := ⟨_, rfl⟩
  have H2 : Hid (Only (fun _ => False) W0 W2) := Lib.hid (by rw [hW2]; exact (H1.out.trans h2).alloc _)
  have HSB : Hid (∀ w', Only (fun _ => False) W2 w' → (w'.cell? ⟨w2.heap.size, 0, none⟩ = some (.int .i64 (a + n)) ∧ w'.cell? ⟨w2.heap.size, 1, none⟩ = some (.int .i64 b) ∧ w'.cell? ⟨w2.heap.size, 2, none⟩ = some (.int .i64 c) ∧ w'.cell? ⟨w2.heap.size, 3, none⟩ = some (.int .i64 d))) := Lib.hid (fun w' ho => by rw [hW2] at ho; exact box4 rfl ho)
  have HSL : Hid (W0.heap.size ≤ w2.heap.size) := Lib.hid (H1.out.trans h2).size
  clear h2
  obtain ⟨⟨p0, p1, p2, p3⟩, ⟨p4, p5⟩, p6, p7, p8, p9⟩ := HC.out W2 H2.out
  rw [hW2] at p0 p1 p2 p3 p4 p5 p6 p7 p8 p9
  go_wp2_with fail
  rw [← hW2]
  clear hW2 p0 p1 p2 p3 p4 p5 p6 p7 p8 p9
  refine (rright_any a b c d _).mono ?_
  rintro _ w3 ⟨rfl, h3⟩
  rw [hr]
  obtain ⟨s0, s1, s2, s3⟩ := HSB.out w3 h3
  have H3 := Lib.hid h3
  clear h3
  obtain ⟨⟨p0, p1, p2, p3⟩, ⟨p4, p5⟩, p6, p7, p8, p9⟩ := HC.out w3 (H2.out.trans H3.out)
  have HFOUR := HZ.out w3 (H2.out.trans H3.out)
  obtain ⟨_, _, _, _, g0, g1, g2, g3⟩ := HFOUR
  obtain ⟨W4, hW4⟩ : ∃ W4, W4 = w3.setCell ⟨w.heap.size, 0, none⟩ (.int .i64 (a + n)) := ⟨_, rfl⟩
  have HSZ2 := HSZ.out
  have HSL2 := HSL.out
  have HR4 : Hid (∀ w', Only (fun _ => False) W4 w' → (w'.cell? ⟨w.heap.size, 0, none⟩ = some (.int .i64 (a + n)) ∧ w'.cell? ⟨w.heap.size, 1, none⟩ = some (.int .i64 b) ∧ w'.cell? ⟨w.heap.size, 2, none⟩ = some (.int .i64 c) ∧ w'.cell? ⟨w.heap.size, 3, none⟩ = some (.int .i64 d)) ∧ (w'.cell? ⟨w.heap.size + 1 + 1, 0, none⟩ = some (.int .i64 a) ∧ w'.cell? ⟨w.heap.size + 1 + 1, 1, none⟩ = some (.int .i64 b) ∧ w'.cell? ⟨w.heap.size + 1 + 1, 2, none⟩ = some (.int .i64 c) ∧ w'.cell? ⟨w.heap.size + 1 + 1, 3, none⟩ = some (.int .i64 d)) ∧ (w'.cell? ⟨w2.heap.size, 0, none⟩ = some (.int .i64 (a + n)) ∧ w'.cell? ⟨w2.heap.size, 1, none⟩ = some (.int .i64 b) ∧ w'.cell? ⟨w2.heap.size, 2, none⟩ = some (.int .i64 c) ∧ w'.cell? ⟨w2.heap.size, 3, none⟩ = some (.int .i64 d))) := Lib.hid (fun w' ho => by
    rw [hW4] at ho
    refine ⟨⟨?_, ?_, ?_, ?_⟩, ⟨?_, ?_, ?_, ?_⟩, ⟨?_, ?_, ?_, ?_⟩⟩
    · exact ho.cell' (cell_same p0) (fun f => f)
    · exact ho.cell' (by rw [cell_other (off_ne (by omega))]; exact p1) (fun f => f)
    · exact ho.cell' (by rw [cell_other (off_ne (by omega))]; exact p2) (fun f => f)
    · exact ho.cell' (by rw [cell_other (off_ne (by omega))]; exact p3) (fun f => f)
    · exact ho.cell' (by rw [cell_other (blk_ne (by omega))]; exact p6) (fun f => f)
    · exact ho.cell' (by rw [cell_other (blk_ne (by omega))]; exact p7) (fun f => f)
    · exact ho.cell' (by rw [cell_other (blk_ne (by omega))]; exact p8) (fun f => f)
    · exact ho.cell' (by rw [cell_other (blk_ne (by omega))]; exact p9) (fun f => f)
    · exact ho.cell' (by rw [cell_other (blk_ne (by omega))]; exact s0) (fun f => f)
    · exact ho.cell' (by rw [cell_other (blk_ne (by omega))]; exact s1) (fun f => f)
    · exact ho.cell' (by rw [cell_other (blk_ne (by omega))]; exact s2) (fun f => f)
    · exact ho.cell' (by rw [cell_other (blk_ne (by omega))]; exact s3) (fun f => f))
  have HS4 : Hid (Only (fun _ => False) w W4) := Lib.hid (by rw [hW4]; exact (HF0.out.trans (H2.out.trans H3.out)).then (Only.set (fun q => q = w.heap.size) w3 w.heap.size 0 (.int .i64 (a + n)) rfl) (fun q hq e => by have e' : q = w.heap.size := e; omega))
  have HT1 : Hid (∀ w, Calls Try.prog 64 #[.agg #[.int .i64 (a + n), .int .i64 b, .int .i64 c, .int .i64 d]] w fun e w' => e = .returned (.int .i64 (a + b + c + d + n)) ∧ Only (fun _ => False) w w') := Lib.hid (fun w => by
    have := total_any (a + n) b c d w
    rw [tot_of (by have := HQ.out; unfold Q4 Q1 at *; omega), show (a + n) + b + c + d = a + b + c + d + n by omega] at this
    exact this)
  have HT2 : Hid (∀ w, Calls Try.prog 64 #[.agg #[.int .i64 a, .int .i64 b, .int .i64 c, .int .i64 d]] w fun e w' => e = .returned (.int .i64 (a + b + c + d)) ∧ Only (fun _ => False) w w') := Lib.hid (fun w => by
    have := total_any a b c d w
    rw [tot_of HQ.out] at this
    exact this)
  have hsum : 0 ≤ a + b + c + d ∧ a + b + c + d ≤ 4503599627370496 := by omega
  clear HC HZ HSZ HSL HSZ2 HSL2
  generalize a + b + c + d = z at *
  have hwr : IntKind.i64.wrap (z + n) = z + n := by rw [wrap_i64]; omega
  go_wp2_with fail
  rw [← hW4]
  have hz := hW4
  clear hW4 hz p0 p1 p2 p3 p4 p5 p6 p7 p8 p9 s0 s1 s2 s3 g0 g1 g2 g3
  have EQ : ∀ w : World, (Op.equalIn 10000 108 (.agg #[.int .i64 (a + n), .int .i64 b, .int .i64 c, .int .i64 d]) (.agg #[.int .i64 (a + n), .int .i64 b, .int .i64 c, .int .i64 d])).run Try.prog w = .ok true w := fun w => (eq4_run 9998 (a + n) b c d (a + n) b c d w).trans (by simp)
  have HS0 : Hid (∀ w', Only (fun _ => False) W4 w' → Only (fun _ => False) W4 w' ∧ ((w'.cell? ⟨w.heap.size, 0, none⟩ = some (.int .i64 (a + n)) ∧ w'.cell? ⟨w.heap.size, 1, none⟩ = some (.int .i64 b) ∧ w'.cell? ⟨w.heap.size, 2, none⟩ = some (.int .i64 c) ∧ w'.cell? ⟨w.heap.size, 3, none⟩ = some (.int .i64 d)) ∧ (w'.cell? ⟨w.heap.size + 1 + 1, 0, none⟩ = some (.int .i64 a) ∧ w'.cell? ⟨w.heap.size + 1 + 1, 1, none⟩ = some (.int .i64 b) ∧ w'.cell? ⟨w.heap.size + 1 + 1, 2, none⟩ = some (.int .i64 c) ∧ w'.cell? ⟨w.heap.size + 1 + 1, 3, none⟩ = some (.int .i64 d)) ∧ (w'.cell? ⟨w2.heap.size, 0, none⟩ = some (.int .i64 (a + n)) ∧ w'.cell? ⟨w2.heap.size, 1, none⟩ = some (.int .i64 b) ∧ w'.cell? ⟨w2.heap.size, 2, none⟩ = some (.int .i64 c) ∧ w'.cell? ⟨w2.heap.size, 3, none⟩ = some (.int .i64 d)))) := Lib.hid (fun w' ho => ⟨ho, HR4.out w' ho⟩)
  obtain ⟨_, ⟨q0, q1, q2, q3⟩, ⟨q4, q5, q6, q7⟩, q8, q9, q10, q11⟩ := HS0.out W4 (Only.refl _ _)
  go_region_held3 (fun w' => Only (fun _ => False) W4 w' ∧ ((w'.cell? ⟨w.heap.size, 0, none⟩ = some (.int .i64 (a + n)) ∧ w'.cell? ⟨w.heap.size, 1, none⟩ = some (.int .i64 b) ∧ w'.cell? ⟨w.heap.size, 2, none⟩ = some (.int .i64 c) ∧ w'.cell? ⟨w.heap.size, 3, none⟩ = some (.int .i64 d)) ∧ (w'.cell? ⟨w.heap.size + 1 + 1, 0, none⟩ = some (.int .i64 a) ∧ w'.cell? ⟨w.heap.size + 1 + 1, 1, none⟩ = some (.int .i64 b) ∧ w'.cell? ⟨w.heap.size + 1 + 1, 2, none⟩ = some (.int .i64 c) ∧ w'.cell? ⟨w.heap.size + 1 + 1, 3, none⟩ = some (.int .i64 d)) ∧ (w'.cell? ⟨w2.heap.size, 0, none⟩ = some (.int .i64 (a + n)) ∧ w'.cell? ⟨w2.heap.size, 1, none⟩ = some (.int .i64 b) ∧ w'.cell? ⟨w2.heap.size, 2, none⟩ = some (.int .i64 c) ∧ w'.cell? ⟨w2.heap.size, 3, none⟩ = some (.int .i64 d))))
    ((refine HS0.out _ ?_; first | exact (Only.refl _ _).drew | exact Only.refl _ _ | (go_split_ands; exact Only.trans (by assumption) ho)))
    (first | (go_at_call 64; (with_reducible refine (HT1.out _).mono ?_); rintro _ wn ⟨rfl, ho⟩) | (go_at_call 64; (with_reducible refine (HT2.out _).mono ?_); rintro _ wn ⟨rfl, ho⟩))
  have HFF : Hid (Only (fun _ => False) W4 wn) := Lib.hid (by go_split_ands; assumption)
  go_wp2_with fail
  go_ret
  exact ⟨rfl, HS4.out.trans HFF.out⟩
set_option maxRecDepth 100000 in
set_option maxHeartbeats 2000000 in
theorem adds_b_over_1 (a b c d t u n : Int) (ht : 0 ≤ t) (hm : t ≤ 9223372036854775807) (hu : 4 ≤ u) (hu2 : u ≤ 1073741824) (hk : t % u * 4 / u = 1) (HQ : Hid (Q4 a b c d)) (hr : rightB a b c d = true) (h0 : 0 ≤ n) (hn : 1125899906842624 - b < n) (w : World) : Calls Try.prog 12 #[.agg #[.int .i64 a, .int .i64 b, .int .i64 c, .int .i64 d], .agg #[.int .i64 t, .int .i64 u], .int .i64 n] w fun e w' => e = .returned (.bool true) ∧ Only (fun _ => False) w w' := by
  obtain ⟨W0, hW0⟩ : ∃ W0, W0 = ((w.alloc (.cells #[.int .i64 a, .int .i64 b, .int .i64 c, .int .i64 d] 108)).alloc (.cells #[.int .i64 t, .int .i64 u] 121)).alloc (.cells #[.int .i64 a, .int .i64 b, .int .i64 c, .int .i64 d] 110) := ⟨_, rfl⟩
  have HF0 : Hid (Only (fun _ => False) w W0) := Lib.hid (by rw [hW0]; exact (((Only.refl _ w).alloc _).alloc _).alloc _)
  have HC : Hid (∀ w', Only (fun _ => False) W0 w' → Kept w w' a b c d t u) := Lib.hid (fun w' ho => by rw [hW0] at ho; exact kept_start w w' a b c d t u ho)
  have HZ : Hid (∀ w', Only (fun _ => False) W0 w' → Four w' w.heap.size) := Lib.hid (fun w' ho => by rw [hW0] at ho; exact (Four.new rfl).only ((((Only.refl (fun _ => False) _).alloc _).alloc _).trans ho) (fun f => f))
  have HSZ : Hid (w.heap.size + 1 + 1 < W0.heap.size) := Lib.hid (by rw [hW0]; simp)
  go_enter Try.func12, Try.ntmps12
  go_wp2_with fail
  rw [← hW0]
  clear hW0
  have e1 : 0 ≤ t % u ∧ t % u < u := ⟨Int.emod_nonneg _ (by omega), Int.emod_lt_of_pos _ (by omega)⟩
  have e2 : t.tmod u = t % u := Int.tmod_eq_emod_of_nonneg ht
  have e3 : (t % u * 4).tdiv u = t % u * 4 / u := Int.tdiv_eq_ediv_of_nonneg (by omega)
  have e5 : t % u * 4 / u < 4 := Int.ediv_lt_of_lt_mul (by omega) (by omega)
  have e6 : 0 ≤ t % u * 4 / u := Int.ediv_nonneg (by omega) (by omega)
  have e4 : wrap64 (t % u * 4 / u) = t % u * 4 / u := by rw [wrap64_eq]; omega
  refine (quarter_yes t u ht hm hu hu2 _).mono ?_
  rintro _ _ ⟨rfl, rfl⟩
  rw [hk] at *
  generalize t % u = r at *
  clear hm
  obtain ⟨⟨a1, a2⟩, ⟨b1, b2⟩, ⟨c1, c2⟩, ⟨d1, d2⟩⟩ := HQ.out
  obtain ⟨⟨p0, p1, p2, p3⟩, ⟨p4, p5⟩, p6, p7, p8, p9⟩ := HC.out W0 (Only.refl _ _)
  clear p0 p1 p2 p3 p4 p5 p6 p7 p8 p9
  go_wp2_with fail
  refine (beats_any _).mono ?_
  rintro _ w1 ⟨rfl, h1⟩
  have H1 := Lib.hid h1
  clear h1
  obtain ⟨⟨p0, p1, p2, p3⟩, ⟨p4, p5⟩, p6, p7, p8, p9⟩ := HC.out w1 H1.out
  go_wp2_with fail
  go_quiet (fail)
  go_wp2_with fail
  refine (add_over_1 a b c d n HQ.out h0 hn _).mono ?_
  rintro _ w2 ⟨rfl, h2⟩
  replace h2 : Only (fun _ => False) w1 w2 := (only_drewN (Only.refl _ w1) _).trans h2
  clear p0 p1 p2 p3 p4 p5 p6 p7 p8 p9
  obtain ⟨W2, hW2⟩ : ∃ W2, W2 = w2.alloc (.cells #[.int .i64 0, .int .i64 0, .int .i64 0, .int .i64 0] 110) := ⟨_, rfl⟩
  have H2 : Hid (Only (fun _ => False) W0 W2) := Lib.hid (by rw [hW2]; exact (H1.out.trans h2).alloc _)
  have HSB : Hid (∀ w', Only (fun _ => False) W2 w' → (w'.cell? ⟨w2.heap.size, 0, none⟩ = some (.int .i64 0) ∧ w'.cell? ⟨w2.heap.size, 1, none⟩ = some (.int .i64 0) ∧ w'.cell? ⟨w2.heap.size, 2, none⟩ = some (.int .i64 0) ∧ w'.cell? ⟨w2.heap.size, 3, none⟩ = some (.int .i64 0))) := Lib.hid (fun w' ho => by rw [hW2] at ho; exact box4 rfl ho)
  have HSL : Hid (W0.heap.size ≤ w2.heap.size) := Lib.hid (H1.out.trans h2).size
  clear h2
  obtain ⟨⟨p0, p1, p2, p3⟩, ⟨p4, p5⟩, p6, p7, p8, p9⟩ := HC.out W2 H2.out
  rw [hW2] at p0 p1 p2 p3 p4 p5 p6 p7 p8 p9
  go_wp2_with fail
  rw [← hW2]
  clear hW2 p0 p1 p2 p3 p4 p5 p6 p7 p8 p9
  refine (rright_any a b c d _).mono ?_
  rintro _ w3 ⟨rfl, h3⟩
  rw [hr]
  obtain ⟨s0, s1, s2, s3⟩ := HSB.out w3 h3
  have H3 := Lib.hid h3
  clear h3
  obtain ⟨⟨p0, p1, p2, p3⟩, ⟨p4, p5⟩, p6, p7, p8, p9⟩ := HC.out w3 (H2.out.trans H3.out)
  have EQ : ∀ w : World, (Op.equalIn 9999 108 (.agg #[.int .i64 0, .int .i64 0, .int .i64 0, .int .i64 0]) (.agg #[.int .i64 0, .int .i64 0, .int .i64 0, .int .i64 0])).run Try.prog w = .ok true w := fun w => (eq4_run 9997 0 0 0 0 0 0 0 0 w).trans (by simp)
  go_wp2_with fail
  go_ret
  exact ⟨rfl, HF0.out.trans (H2.out.trans H3.out)⟩
set_option maxRecDepth 100000 in
set_option maxHeartbeats 2000000 in
theorem adds_b_ok_1 (a b c d t u n : Int) (ht : 0 ≤ t) (hm : t ≤ 9223372036854775807) (hu : 4 ≤ u) (hu2 : u ≤ 1073741824) (hk : t % u * 4 / u = 1) (HQ : Hid (Q4 a b c d)) (hr : rightB a b c d = true) (h0 : 0 ≤ n) (hn : n ≤ 1125899906842624 - b) (w : World) : Calls Try.prog 12 #[.agg #[.int .i64 a, .int .i64 b, .int .i64 c, .int .i64 d], .agg #[.int .i64 t, .int .i64 u], .int .i64 n] w fun e w' => e = .returned (.bool true) ∧ Only (fun _ => False) w w' := by
  obtain ⟨W0, hW0⟩ : ∃ W0, W0 = ((w.alloc (.cells #[.int .i64 a, .int .i64 b, .int .i64 c, .int .i64 d] 108)).alloc (.cells #[.int .i64 t, .int .i64 u] 121)).alloc (.cells #[.int .i64 a, .int .i64 b, .int .i64 c, .int .i64 d] 110) := ⟨_, rfl⟩
  have HF0 : Hid (Only (fun _ => False) w W0) := Lib.hid (by rw [hW0]; exact (((Only.refl _ w).alloc _).alloc _).alloc _)
  have HC : Hid (∀ w', Only (fun _ => False) W0 w' → Kept w w' a b c d t u) := Lib.hid (fun w' ho => by rw [hW0] at ho; exact kept_start w w' a b c d t u ho)
  have HZ : Hid (∀ w', Only (fun _ => False) W0 w' → Four w' w.heap.size) := Lib.hid (fun w' ho => by rw [hW0] at ho; exact (Four.new rfl).only ((((Only.refl (fun _ => False) _).alloc _).alloc _).trans ho) (fun f => f))
  have HSZ : Hid (w.heap.size + 1 + 1 < W0.heap.size) := Lib.hid (by rw [hW0]; simp)
  go_enter Try.func12, Try.ntmps12
  go_wp2_with fail
  rw [← hW0]
  clear hW0
  have e1 : 0 ≤ t % u ∧ t % u < u := ⟨Int.emod_nonneg _ (by omega), Int.emod_lt_of_pos _ (by omega)⟩
  have e2 : t.tmod u = t % u := Int.tmod_eq_emod_of_nonneg ht
  have e3 : (t % u * 4).tdiv u = t % u * 4 / u := Int.tdiv_eq_ediv_of_nonneg (by omega)
  have e5 : t % u * 4 / u < 4 := Int.ediv_lt_of_lt_mul (by omega) (by omega)
  have e6 : 0 ≤ t % u * 4 / u := Int.ediv_nonneg (by omega) (by omega)
  have e4 : wrap64 (t % u * 4 / u) = t % u * 4 / u := by rw [wrap64_eq]; omega
  refine (quarter_yes t u ht hm hu hu2 _).mono ?_
  rintro _ _ ⟨rfl, rfl⟩
  rw [hk] at *
  generalize t % u = r at *
  clear hm
  obtain ⟨⟨a1, a2⟩, ⟨b1, b2⟩, ⟨c1, c2⟩, ⟨d1, d2⟩⟩ := HQ.out
  obtain ⟨⟨p0, p1, p2, p3⟩, ⟨p4, p5⟩, p6, p7, p8, p9⟩ := HC.out W0 (Only.refl _ _)
  clear p0 p1 p2 p3 p4 p5 p6 p7 p8 p9
  go_wp2_with fail
  refine (beats_any _).mono ?_
  rintro _ w1 ⟨rfl, h1⟩
  have H1 := Lib.hid h1
  clear h1
  obtain ⟨⟨p0, p1, p2, p3⟩, ⟨p4, p5⟩, p6, p7, p8, p9⟩ := HC.out w1 H1.out
  go_wp2_with fail
  go_quiet (fail)
  go_wp2_with fail
  refine (add_ok_1 a b c d n HQ.out h0 hn _).mono ?_
  rintro _ w2 ⟨rfl, h2⟩
  replace h2 : Only (fun _ => False) w1 w2 := (only_drewN (Only.refl _ w1) _).trans h2
  clear p0 p1 p2 p3 p4 p5 p6 p7 p8 p9
  obtain ⟨W2, hW2⟩ : ∃ W2, W2 = w2.alloc (.cells #[.int .i64 a, .int .i64 (b + n), .int .i64 c, .int .i64 d] 110) := ⟨_, rfl⟩
  have H2 : Hid (Only (fun _ => False) W0 W2) := Lib.hid (by rw [hW2]; exact (H1.out.trans h2).alloc _)
  have HSB : Hid (∀ w', Only (fun _ => False) W2 w' → (w'.cell? ⟨w2.heap.size, 0, none⟩ = some (.int .i64 a) ∧ w'.cell? ⟨w2.heap.size, 1, none⟩ = some (.int .i64 (b + n)) ∧ w'.cell? ⟨w2.heap.size, 2, none⟩ = some (.int .i64 c) ∧ w'.cell? ⟨w2.heap.size, 3, none⟩ = some (.int .i64 d))) := Lib.hid (fun w' ho => by rw [hW2] at ho; exact box4 rfl ho)
  have HSL : Hid (W0.heap.size ≤ w2.heap.size) := Lib.hid (H1.out.trans h2).size
  clear h2
  obtain ⟨⟨p0, p1, p2, p3⟩, ⟨p4, p5⟩, p6, p7, p8, p9⟩ := HC.out W2 H2.out
  rw [hW2] at p0 p1 p2 p3 p4 p5 p6 p7 p8 p9
  go_wp2_with fail
  rw [← hW2]
  clear hW2 p0 p1 p2 p3 p4 p5 p6 p7 p8 p9
  refine (rright_any a b c d _).mono ?_
  rintro _ w3 ⟨rfl, h3⟩
  rw [hr]
  obtain ⟨s0, s1, s2, s3⟩ := HSB.out w3 h3
  have H3 := Lib.hid h3
  clear h3
  obtain ⟨⟨p0, p1, p2, p3⟩, ⟨p4, p5⟩, p6, p7, p8, p9⟩ := HC.out w3 (H2.out.trans H3.out)
  have HFOUR := HZ.out w3 (H2.out.trans H3.out)
  obtain ⟨_, _, _, _, g0, g1, g2, g3⟩ := HFOUR
  obtain ⟨W4, hW4⟩ : ∃ W4, W4 = w3.setCell ⟨w.heap.size, 1, none⟩ (.int .i64 (b + n)) := ⟨_, rfl⟩
  have HSZ2 := HSZ.out
  have HSL2 := HSL.out
  have HR4 : Hid (∀ w', Only (fun _ => False) W4 w' → (w'.cell? ⟨w.heap.size, 0, none⟩ = some (.int .i64 a) ∧ w'.cell? ⟨w.heap.size, 1, none⟩ = some (.int .i64 (b + n)) ∧ w'.cell? ⟨w.heap.size, 2, none⟩ = some (.int .i64 c) ∧ w'.cell? ⟨w.heap.size, 3, none⟩ = some (.int .i64 d)) ∧ (w'.cell? ⟨w.heap.size + 1 + 1, 0, none⟩ = some (.int .i64 a) ∧ w'.cell? ⟨w.heap.size + 1 + 1, 1, none⟩ = some (.int .i64 b) ∧ w'.cell? ⟨w.heap.size + 1 + 1, 2, none⟩ = some (.int .i64 c) ∧ w'.cell? ⟨w.heap.size + 1 + 1, 3, none⟩ = some (.int .i64 d)) ∧ (w'.cell? ⟨w2.heap.size, 0, none⟩ = some (.int .i64 a) ∧ w'.cell? ⟨w2.heap.size, 1, none⟩ = some (.int .i64 (b + n)) ∧ w'.cell? ⟨w2.heap.size, 2, none⟩ = some (.int .i64 c) ∧ w'.cell? ⟨w2.heap.size, 3, none⟩ = some (.int .i64 d))) := Lib.hid (fun w' ho => by
    rw [hW4] at ho
    refine ⟨⟨?_, ?_, ?_, ?_⟩, ⟨?_, ?_, ?_, ?_⟩, ⟨?_, ?_, ?_, ?_⟩⟩
    · exact ho.cell' (by rw [cell_other (off_ne (by omega))]; exact p0) (fun f => f)
    · exact ho.cell' (cell_same p1) (fun f => f)
    · exact ho.cell' (by rw [cell_other (off_ne (by omega))]; exact p2) (fun f => f)
    · exact ho.cell' (by rw [cell_other (off_ne (by omega))]; exact p3) (fun f => f)
    · exact ho.cell' (by rw [cell_other (blk_ne (by omega))]; exact p6) (fun f => f)
    · exact ho.cell' (by rw [cell_other (blk_ne (by omega))]; exact p7) (fun f => f)
    · exact ho.cell' (by rw [cell_other (blk_ne (by omega))]; exact p8) (fun f => f)
    · exact ho.cell' (by rw [cell_other (blk_ne (by omega))]; exact p9) (fun f => f)
    · exact ho.cell' (by rw [cell_other (blk_ne (by omega))]; exact s0) (fun f => f)
    · exact ho.cell' (by rw [cell_other (blk_ne (by omega))]; exact s1) (fun f => f)
    · exact ho.cell' (by rw [cell_other (blk_ne (by omega))]; exact s2) (fun f => f)
    · exact ho.cell' (by rw [cell_other (blk_ne (by omega))]; exact s3) (fun f => f))
  have HS4 : Hid (Only (fun _ => False) w W4) := Lib.hid (by rw [hW4]; exact (HF0.out.trans (H2.out.trans H3.out)).then (Only.set (fun q => q = w.heap.size) w3 w.heap.size 1 (.int .i64 (b + n)) rfl) (fun q hq e => by have e' : q = w.heap.size := e; omega))
  have HT1 : Hid (∀ w, Calls Try.prog 64 #[.agg #[.int .i64 a, .int .i64 (b + n), .int .i64 c, .int .i64 d]] w fun e w' => e = .returned (.int .i64 (a + b + c + d + n)) ∧ Only (fun _ => False) w w') := Lib.hid (fun w => by
    have := total_any a (b + n) c d w
    rw [tot_of (by have := HQ.out; unfold Q4 Q1 at *; omega), show a + (b + n) + c + d = a + b + c + d + n by omega] at this
    exact this)
  have HT2 : Hid (∀ w, Calls Try.prog 64 #[.agg #[.int .i64 a, .int .i64 b, .int .i64 c, .int .i64 d]] w fun e w' => e = .returned (.int .i64 (a + b + c + d)) ∧ Only (fun _ => False) w w') := Lib.hid (fun w => by
    have := total_any a b c d w
    rw [tot_of HQ.out] at this
    exact this)
  have hsum : 0 ≤ a + b + c + d ∧ a + b + c + d ≤ 4503599627370496 := by omega
  clear HC HZ HSZ HSL HSZ2 HSL2
  generalize a + b + c + d = z at *
  have hwr : IntKind.i64.wrap (z + n) = z + n := by rw [wrap_i64]; omega
  go_wp2_with fail
  rw [← hW4]
  have hz := hW4
  clear hW4 hz p0 p1 p2 p3 p4 p5 p6 p7 p8 p9 s0 s1 s2 s3 g0 g1 g2 g3
  have EQ : ∀ w : World, (Op.equalIn 10000 108 (.agg #[.int .i64 a, .int .i64 (b + n), .int .i64 c, .int .i64 d]) (.agg #[.int .i64 a, .int .i64 (b + n), .int .i64 c, .int .i64 d])).run Try.prog w = .ok true w := fun w => (eq4_run 9998 a (b + n) c d a (b + n) c d w).trans (by simp)
  have HS0 : Hid (∀ w', Only (fun _ => False) W4 w' → Only (fun _ => False) W4 w' ∧ ((w'.cell? ⟨w.heap.size, 0, none⟩ = some (.int .i64 a) ∧ w'.cell? ⟨w.heap.size, 1, none⟩ = some (.int .i64 (b + n)) ∧ w'.cell? ⟨w.heap.size, 2, none⟩ = some (.int .i64 c) ∧ w'.cell? ⟨w.heap.size, 3, none⟩ = some (.int .i64 d)) ∧ (w'.cell? ⟨w.heap.size + 1 + 1, 0, none⟩ = some (.int .i64 a) ∧ w'.cell? ⟨w.heap.size + 1 + 1, 1, none⟩ = some (.int .i64 b) ∧ w'.cell? ⟨w.heap.size + 1 + 1, 2, none⟩ = some (.int .i64 c) ∧ w'.cell? ⟨w.heap.size + 1 + 1, 3, none⟩ = some (.int .i64 d)) ∧ (w'.cell? ⟨w2.heap.size, 0, none⟩ = some (.int .i64 a) ∧ w'.cell? ⟨w2.heap.size, 1, none⟩ = some (.int .i64 (b + n)) ∧ w'.cell? ⟨w2.heap.size, 2, none⟩ = some (.int .i64 c) ∧ w'.cell? ⟨w2.heap.size, 3, none⟩ = some (.int .i64 d)))) := Lib.hid (fun w' ho => ⟨ho, HR4.out w' ho⟩)
  obtain ⟨_, ⟨q0, q1, q2, q3⟩, ⟨q4, q5, q6, q7⟩, q8, q9, q10, q11⟩ := HS0.out W4 (Only.refl _ _)
  go_region_held3 (fun w' => Only (fun _ => False) W4 w' ∧ ((w'.cell? ⟨w.heap.size, 0, none⟩ = some (.int .i64 a) ∧ w'.cell? ⟨w.heap.size, 1, none⟩ = some (.int .i64 (b + n)) ∧ w'.cell? ⟨w.heap.size, 2, none⟩ = some (.int .i64 c) ∧ w'.cell? ⟨w.heap.size, 3, none⟩ = some (.int .i64 d)) ∧ (w'.cell? ⟨w.heap.size + 1 + 1, 0, none⟩ = some (.int .i64 a) ∧ w'.cell? ⟨w.heap.size + 1 + 1, 1, none⟩ = some (.int .i64 b) ∧ w'.cell? ⟨w.heap.size + 1 + 1, 2, none⟩ = some (.int .i64 c) ∧ w'.cell? ⟨w.heap.size + 1 + 1, 3, none⟩ = some (.int .i64 d)) ∧ (w'.cell? ⟨w2.heap.size, 0, none⟩ = some (.int .i64 a) ∧ w'.cell? ⟨w2.heap.size, 1, none⟩ = some (.int .i64 (b + n)) ∧ w'.cell? ⟨w2.heap.size, 2, none⟩ = some (.int .i64 c) ∧ w'.cell? ⟨w2.heap.size, 3, none⟩ = some (.int .i64 d))))
    ((refine HS0.out _ ?_; first | exact (Only.refl _ _).drew | exact Only.refl _ _ | (go_split_ands; exact Only.trans (by assumption) ho)))
    (first | (go_at_call 64; (with_reducible refine (HT1.out _).mono ?_); rintro _ wn ⟨rfl, ho⟩) | (go_at_call 64; (with_reducible refine (HT2.out _).mono ?_); rintro _ wn ⟨rfl, ho⟩))
  have HFF : Hid (Only (fun _ => False) W4 wn) := Lib.hid (by go_split_ands; assumption)
  go_wp2_with fail
  go_ret
  exact ⟨rfl, HS4.out.trans HFF.out⟩
set_option maxRecDepth 100000 in
set_option maxHeartbeats 2000000 in
theorem adds_b_over_2 (a b c d t u n : Int) (ht : 0 ≤ t) (hm : t ≤ 9223372036854775807) (hu : 4 ≤ u) (hu2 : u ≤ 1073741824) (hk : t % u * 4 / u = 2) (HQ : Hid (Q4 a b c d)) (hr : rightB a b c d = true) (h0 : 0 ≤ n) (hn : 1125899906842624 - c < n) (w : World) : Calls Try.prog 12 #[.agg #[.int .i64 a, .int .i64 b, .int .i64 c, .int .i64 d], .agg #[.int .i64 t, .int .i64 u], .int .i64 n] w fun e w' => e = .returned (.bool true) ∧ Only (fun _ => False) w w' := by
  obtain ⟨W0, hW0⟩ : ∃ W0, W0 = ((w.alloc (.cells #[.int .i64 a, .int .i64 b, .int .i64 c, .int .i64 d] 108)).alloc (.cells #[.int .i64 t, .int .i64 u] 121)).alloc (.cells #[.int .i64 a, .int .i64 b, .int .i64 c, .int .i64 d] 110) := ⟨_, rfl⟩
  have HF0 : Hid (Only (fun _ => False) w W0) := Lib.hid (by rw [hW0]; exact (((Only.refl _ w).alloc _).alloc _).alloc _)
  have HC : Hid (∀ w', Only (fun _ => False) W0 w' → Kept w w' a b c d t u) := Lib.hid (fun w' ho => by rw [hW0] at ho; exact kept_start w w' a b c d t u ho)
  have HZ : Hid (∀ w', Only (fun _ => False) W0 w' → Four w' w.heap.size) := Lib.hid (fun w' ho => by rw [hW0] at ho; exact (Four.new rfl).only ((((Only.refl (fun _ => False) _).alloc _).alloc _).trans ho) (fun f => f))
  have HSZ : Hid (w.heap.size + 1 + 1 < W0.heap.size) := Lib.hid (by rw [hW0]; simp)
  go_enter Try.func12, Try.ntmps12
  go_wp2_with fail
  rw [← hW0]
  clear hW0
  have e1 : 0 ≤ t % u ∧ t % u < u := ⟨Int.emod_nonneg _ (by omega), Int.emod_lt_of_pos _ (by omega)⟩
  have e2 : t.tmod u = t % u := Int.tmod_eq_emod_of_nonneg ht
  have e3 : (t % u * 4).tdiv u = t % u * 4 / u := Int.tdiv_eq_ediv_of_nonneg (by omega)
  have e5 : t % u * 4 / u < 4 := Int.ediv_lt_of_lt_mul (by omega) (by omega)
  have e6 : 0 ≤ t % u * 4 / u := Int.ediv_nonneg (by omega) (by omega)
  have e4 : wrap64 (t % u * 4 / u) = t % u * 4 / u := by rw [wrap64_eq]; omega
  refine (quarter_yes t u ht hm hu hu2 _).mono ?_
  rintro _ _ ⟨rfl, rfl⟩
  rw [hk] at *
  generalize t % u = r at *
  clear hm
  obtain ⟨⟨a1, a2⟩, ⟨b1, b2⟩, ⟨c1, c2⟩, ⟨d1, d2⟩⟩ := HQ.out
  obtain ⟨⟨p0, p1, p2, p3⟩, ⟨p4, p5⟩, p6, p7, p8, p9⟩ := HC.out W0 (Only.refl _ _)
  clear p0 p1 p2 p3 p4 p5 p6 p7 p8 p9
  go_wp2_with fail
  refine (beats_any _).mono ?_
  rintro _ w1 ⟨rfl, h1⟩
  have H1 := Lib.hid h1
  clear h1
  obtain ⟨⟨p0, p1, p2, p3⟩, ⟨p4, p5⟩, p6, p7, p8, p9⟩ := HC.out w1 H1.out
  go_wp2_with fail
  go_quiet (fail)
  go_wp2_with fail
  refine (add_over_2 a b c d n HQ.out h0 hn _).mono ?_
  rintro _ w2 ⟨rfl, h2⟩
  replace h2 : Only (fun _ => False) w1 w2 := (only_drewN (Only.refl _ w1) _).trans h2
  clear p0 p1 p2 p3 p4 p5 p6 p7 p8 p9
  obtain ⟨W2, hW2⟩ : ∃ W2, W2 = w2.alloc (.cells #[.int .i64 0, .int .i64 0, .int .i64 0, .int .i64 0] 110) := ⟨_, rfl⟩
  have H2 : Hid (Only (fun _ => False) W0 W2) := Lib.hid (by rw [hW2]; exact (H1.out.trans h2).alloc _)
  have HSB : Hid (∀ w', Only (fun _ => False) W2 w' → (w'.cell? ⟨w2.heap.size, 0, none⟩ = some (.int .i64 0) ∧ w'.cell? ⟨w2.heap.size, 1, none⟩ = some (.int .i64 0) ∧ w'.cell? ⟨w2.heap.size, 2, none⟩ = some (.int .i64 0) ∧ w'.cell? ⟨w2.heap.size, 3, none⟩ = some (.int .i64 0))) := Lib.hid (fun w' ho => by rw [hW2] at ho; exact box4 rfl ho)
  have HSL : Hid (W0.heap.size ≤ w2.heap.size) := Lib.hid (H1.out.trans h2).size
  clear h2
  obtain ⟨⟨p0, p1, p2, p3⟩, ⟨p4, p5⟩, p6, p7, p8, p9⟩ := HC.out W2 H2.out
  rw [hW2] at p0 p1 p2 p3 p4 p5 p6 p7 p8 p9
  go_wp2_with fail
  rw [← hW2]
  clear hW2 p0 p1 p2 p3 p4 p5 p6 p7 p8 p9
  refine (rright_any a b c d _).mono ?_
  rintro _ w3 ⟨rfl, h3⟩
  rw [hr]
  obtain ⟨s0, s1, s2, s3⟩ := HSB.out w3 h3
  have H3 := Lib.hid h3
  clear h3
  obtain ⟨⟨p0, p1, p2, p3⟩, ⟨p4, p5⟩, p6, p7, p8, p9⟩ := HC.out w3 (H2.out.trans H3.out)
  have EQ : ∀ w : World, (Op.equalIn 9999 108 (.agg #[.int .i64 0, .int .i64 0, .int .i64 0, .int .i64 0]) (.agg #[.int .i64 0, .int .i64 0, .int .i64 0, .int .i64 0])).run Try.prog w = .ok true w := fun w => (eq4_run 9997 0 0 0 0 0 0 0 0 w).trans (by simp)
  go_wp2_with fail
  go_ret
  exact ⟨rfl, HF0.out.trans (H2.out.trans H3.out)⟩
set_option maxRecDepth 100000 in
set_option maxHeartbeats 2000000 in
theorem adds_b_ok_2 (a b c d t u n : Int) (ht : 0 ≤ t) (hm : t ≤ 9223372036854775807) (hu : 4 ≤ u) (hu2 : u ≤ 1073741824) (hk : t % u * 4 / u = 2) (HQ : Hid (Q4 a b c d)) (hr : rightB a b c d = true) (h0 : 0 ≤ n) (hn : n ≤ 1125899906842624 - c) (w : World) : Calls Try.prog 12 #[.agg #[.int .i64 a, .int .i64 b, .int .i64 c, .int .i64 d], .agg #[.int .i64 t, .int .i64 u], .int .i64 n] w fun e w' => e = .returned (.bool true) ∧ Only (fun _ => False) w w' := by
  obtain ⟨W0, hW0⟩ : ∃ W0, W0 = ((w.alloc (.cells #[.int .i64 a, .int .i64 b, .int .i64 c, .int .i64 d] 108)).alloc (.cells #[.int .i64 t, .int .i64 u] 121)).alloc (.cells #[.int .i64 a, .int .i64 b, .int .i64 c, .int .i64 d] 110) := ⟨_, rfl⟩
  have HF0 : Hid (Only (fun _ => False) w W0) := Lib.hid (by rw [hW0]; exact (((Only.refl _ w).alloc _).alloc _).alloc _)
  have HC : Hid (∀ w', Only (fun _ => False) W0 w' → Kept w w' a b c d t u) := Lib.hid (fun w' ho => by rw [hW0] at ho; exact kept_start w w' a b c d t u ho)
  have HZ : Hid (∀ w', Only (fun _ => False) W0 w' → Four w' w.heap.size) := Lib.hid (fun w' ho => by rw [hW0] at ho; exact (Four.new rfl).only ((((Only.refl (fun _ => False) _).alloc _).alloc _).trans ho) (fun f => f))
  have HSZ : Hid (w.heap.size + 1 + 1 < W0.heap.size) := Lib.hid (by rw [hW0]; simp)
  go_enter Try.func12, Try.ntmps12
  go_wp2_with fail
  rw [← hW0]
  clear hW0
  have e1 : 0 ≤ t % u ∧ t % u < u := ⟨Int.emod_nonneg _ (by omega), Int.emod_lt_of_pos _ (by omega)⟩
  have e2 : t.tmod u = t % u := Int.tmod_eq_emod_of_nonneg ht
  have e3 : (t % u * 4).tdiv u = t % u * 4 / u := Int.tdiv_eq_ediv_of_nonneg (by omega)
  have e5 : t % u * 4 / u < 4 := Int.ediv_lt_of_lt_mul (by omega) (by omega)
  have e6 : 0 ≤ t % u * 4 / u := Int.ediv_nonneg (by omega) (by omega)
  have e4 : wrap64 (t % u * 4 / u) = t % u * 4 / u := by rw [wrap64_eq]; omega
  refine (quarter_yes t u ht hm hu hu2 _).mono ?_
  rintro _ _ ⟨rfl, rfl⟩
  rw [hk] at *
  generalize t % u = r at *
  clear hm
  obtain ⟨⟨a1, a2⟩, ⟨b1, b2⟩, ⟨c1, c2⟩, ⟨d1, d2⟩⟩ := HQ.out
  obtain ⟨⟨p0, p1, p2, p3⟩, ⟨p4, p5⟩, p6, p7, p8, p9⟩ := HC.out W0 (Only.refl _ _)
  clear p0 p1 p2 p3 p4 p5 p6 p7 p8 p9
  go_wp2_with fail
  refine (beats_any _).mono ?_
  rintro _ w1 ⟨rfl, h1⟩
  have H1 := Lib.hid h1
  clear h1
  obtain ⟨⟨p0, p1, p2, p3⟩, ⟨p4, p5⟩, p6, p7, p8, p9⟩ := HC.out w1 H1.out
  go_wp2_with fail
  go_quiet (fail)
  go_wp2_with fail
  refine (add_ok_2 a b c d n HQ.out h0 hn _).mono ?_
  rintro _ w2 ⟨rfl, h2⟩
  replace h2 : Only (fun _ => False) w1 w2 := (only_drewN (Only.refl _ w1) _).trans h2
  clear p0 p1 p2 p3 p4 p5 p6 p7 p8 p9
  obtain ⟨W2, hW2⟩ : ∃ W2, W2 = w2.alloc (.cells #[.int .i64 a, .int .i64 b, .int .i64 (c + n), .int .i64 d] 110) := ⟨_, rfl⟩
  have H2 : Hid (Only (fun _ => False) W0 W2) := Lib.hid (by rw [hW2]; exact (H1.out.trans h2).alloc _)
  have HSB : Hid (∀ w', Only (fun _ => False) W2 w' → (w'.cell? ⟨w2.heap.size, 0, none⟩ = some (.int .i64 a) ∧ w'.cell? ⟨w2.heap.size, 1, none⟩ = some (.int .i64 b) ∧ w'.cell? ⟨w2.heap.size, 2, none⟩ = some (.int .i64 (c + n)) ∧ w'.cell? ⟨w2.heap.size, 3, none⟩ = some (.int .i64 d))) := Lib.hid (fun w' ho => by rw [hW2] at ho; exact box4 rfl ho)
  have HSL : Hid (W0.heap.size ≤ w2.heap.size) := Lib.hid (H1.out.trans h2).size
  clear h2
  obtain ⟨⟨p0, p1, p2, p3⟩, ⟨p4, p5⟩, p6, p7, p8, p9⟩ := HC.out W2 H2.out
  rw [hW2] at p0 p1 p2 p3 p4 p5 p6 p7 p8 p9
  go_wp2_with fail
  rw [← hW2]
  clear hW2 p0 p1 p2 p3 p4 p5 p6 p7 p8 p9
  refine (rright_any a b c d _).mono ?_
  rintro _ w3 ⟨rfl, h3⟩
  rw [hr]
  obtain ⟨s0, s1, s2, s3⟩ := HSB.out w3 h3
  have H3 := Lib.hid h3
  clear h3
  obtain ⟨⟨p0, p1, p2, p3⟩, ⟨p4, p5⟩, p6, p7, p8, p9⟩ := HC.out w3 (H2.out.trans H3.out)
  have HFOUR := HZ.out w3 (H2.out.trans H3.out)
  obtain ⟨_, _, _, _, g0, g1, g2, g3⟩ := HFOUR
  obtain ⟨W4, hW4⟩ : ∃ W4, W4 = w3.setCell ⟨w.heap.size, 2, none⟩ (.int .i64 (c + n)) := ⟨_, rfl⟩
  have HSZ2 := HSZ.out
  have HSL2 := HSL.out
  have HR4 : Hid (∀ w', Only (fun _ => False) W4 w' → (w'.cell? ⟨w.heap.size, 0, none⟩ = some (.int .i64 a) ∧ w'.cell? ⟨w.heap.size, 1, none⟩ = some (.int .i64 b) ∧ w'.cell? ⟨w.heap.size, 2, none⟩ = some (.int .i64 (c + n)) ∧ w'.cell? ⟨w.heap.size, 3, none⟩ = some (.int .i64 d)) ∧ (w'.cell? ⟨w.heap.size + 1 + 1, 0, none⟩ = some (.int .i64 a) ∧ w'.cell? ⟨w.heap.size + 1 + 1, 1, none⟩ = some (.int .i64 b) ∧ w'.cell? ⟨w.heap.size + 1 + 1, 2, none⟩ = some (.int .i64 c) ∧ w'.cell? ⟨w.heap.size + 1 + 1, 3, none⟩ = some (.int .i64 d)) ∧ (w'.cell? ⟨w2.heap.size, 0, none⟩ = some (.int .i64 a) ∧ w'.cell? ⟨w2.heap.size, 1, none⟩ = some (.int .i64 b) ∧ w'.cell? ⟨w2.heap.size, 2, none⟩ = some (.int .i64 (c + n)) ∧ w'.cell? ⟨w2.heap.size, 3, none⟩ = some (.int .i64 d))) := Lib.hid (fun w' ho => by
    rw [hW4] at ho
    refine ⟨⟨?_, ?_, ?_, ?_⟩, ⟨?_, ?_, ?_, ?_⟩, ⟨?_, ?_, ?_, ?_⟩⟩
    · exact ho.cell' (by rw [cell_other (off_ne (by omega))]; exact p0) (fun f => f)
    · exact ho.cell' (by rw [cell_other (off_ne (by omega))]; exact p1) (fun f => f)
    · exact ho.cell' (cell_same p2) (fun f => f)
    · exact ho.cell' (by rw [cell_other (off_ne (by omega))]; exact p3) (fun f => f)
    · exact ho.cell' (by rw [cell_other (blk_ne (by omega))]; exact p6) (fun f => f)
    · exact ho.cell' (by rw [cell_other (blk_ne (by omega))]; exact p7) (fun f => f)
    · exact ho.cell' (by rw [cell_other (blk_ne (by omega))]; exact p8) (fun f => f)
    · exact ho.cell' (by rw [cell_other (blk_ne (by omega))]; exact p9) (fun f => f)
    · exact ho.cell' (by rw [cell_other (blk_ne (by omega))]; exact s0) (fun f => f)
    · exact ho.cell' (by rw [cell_other (blk_ne (by omega))]; exact s1) (fun f => f)
    · exact ho.cell' (by rw [cell_other (blk_ne (by omega))]; exact s2) (fun f => f)
    · exact ho.cell' (by rw [cell_other (blk_ne (by omega))]; exact s3) (fun f => f))
  have HS4 : Hid (Only (fun _ => False) w W4) := Lib.hid (by rw [hW4]; exact (HF0.out.trans (H2.out.trans H3.out)).then (Only.set (fun q => q = w.heap.size) w3 w.heap.size 2 (.int .i64 (c + n)) rfl) (fun q hq e => by have e' : q = w.heap.size := e; omega))
  have HT1 : Hid (∀ w, Calls Try.prog 64 #[.agg #[.int .i64 a, .int .i64 b, .int .i64 (c + n), .int .i64 d]] w fun e w' => e = .returned (.int .i64 (a + b + c + d + n)) ∧ Only (fun _ => False) w w') := Lib.hid (fun w => by
    have := total_any a b (c + n) d w
    rw [tot_of (by have := HQ.out; unfold Q4 Q1 at *; omega), show a + b + (c + n) + d = a + b + c + d + n by omega] at this
    exact this)
  have HT2 : Hid (∀ w, Calls Try.prog 64 #[.agg #[.int .i64 a, .int .i64 b, .int .i64 c, .int .i64 d]] w fun e w' => e = .returned (.int .i64 (a + b + c + d)) ∧ Only (fun _ => False) w w') := Lib.hid (fun w => by
    have := total_any a b c d w
    rw [tot_of HQ.out] at this
    exact this)
  have hsum : 0 ≤ a + b + c + d ∧ a + b + c + d ≤ 4503599627370496 := by omega
  clear HC HZ HSZ HSL HSZ2 HSL2
  generalize a + b + c + d = z at *
  have hwr : IntKind.i64.wrap (z + n) = z + n := by rw [wrap_i64]; omega
  go_wp2_with fail
  rw [← hW4]
  have hz := hW4
  clear hW4 hz p0 p1 p2 p3 p4 p5 p6 p7 p8 p9 s0 s1 s2 s3 g0 g1 g2 g3
  have EQ : ∀ w : World, (Op.equalIn 10000 108 (.agg #[.int .i64 a, .int .i64 b, .int .i64 (c + n), .int .i64 d]) (.agg #[.int .i64 a, .int .i64 b, .int .i64 (c + n), .int .i64 d])).run Try.prog w = .ok true w := fun w => (eq4_run 9998 a b (c + n) d a b (c + n) d w).trans (by simp)
  have HS0 : Hid (∀ w', Only (fun _ => False) W4 w' → Only (fun _ => False) W4 w' ∧ ((w'.cell? ⟨w.heap.size, 0, none⟩ = some (.int .i64 a) ∧ w'.cell? ⟨w.heap.size, 1, none⟩ = some (.int .i64 b) ∧ w'.cell? ⟨w.heap.size, 2, none⟩ = some (.int .i64 (c + n)) ∧ w'.cell? ⟨w.heap.size, 3, none⟩ = some (.int .i64 d)) ∧ (w'.cell? ⟨w.heap.size + 1 + 1, 0, none⟩ = some (.int .i64 a) ∧ w'.cell? ⟨w.heap.size + 1 + 1, 1, none⟩ = some (.int .i64 b) ∧ w'.cell? ⟨w.heap.size + 1 + 1, 2, none⟩ = some (.int .i64 c) ∧ w'.cell? ⟨w.heap.size + 1 + 1, 3, none⟩ = some (.int .i64 d)) ∧ (w'.cell? ⟨w2.heap.size, 0, none⟩ = some (.int .i64 a) ∧ w'.cell? ⟨w2.heap.size, 1, none⟩ = some (.int .i64 b) ∧ w'.cell? ⟨w2.heap.size, 2, none⟩ = some (.int .i64 (c + n)) ∧ w'.cell? ⟨w2.heap.size, 3, none⟩ = some (.int .i64 d)))) := Lib.hid (fun w' ho => ⟨ho, HR4.out w' ho⟩)
  obtain ⟨_, ⟨q0, q1, q2, q3⟩, ⟨q4, q5, q6, q7⟩, q8, q9, q10, q11⟩ := HS0.out W4 (Only.refl _ _)
  go_region_held3 (fun w' => Only (fun _ => False) W4 w' ∧ ((w'.cell? ⟨w.heap.size, 0, none⟩ = some (.int .i64 a) ∧ w'.cell? ⟨w.heap.size, 1, none⟩ = some (.int .i64 b) ∧ w'.cell? ⟨w.heap.size, 2, none⟩ = some (.int .i64 (c + n)) ∧ w'.cell? ⟨w.heap.size, 3, none⟩ = some (.int .i64 d)) ∧ (w'.cell? ⟨w.heap.size + 1 + 1, 0, none⟩ = some (.int .i64 a) ∧ w'.cell? ⟨w.heap.size + 1 + 1, 1, none⟩ = some (.int .i64 b) ∧ w'.cell? ⟨w.heap.size + 1 + 1, 2, none⟩ = some (.int .i64 c) ∧ w'.cell? ⟨w.heap.size + 1 + 1, 3, none⟩ = some (.int .i64 d)) ∧ (w'.cell? ⟨w2.heap.size, 0, none⟩ = some (.int .i64 a) ∧ w'.cell? ⟨w2.heap.size, 1, none⟩ = some (.int .i64 b) ∧ w'.cell? ⟨w2.heap.size, 2, none⟩ = some (.int .i64 (c + n)) ∧ w'.cell? ⟨w2.heap.size, 3, none⟩ = some (.int .i64 d))))
    ((refine HS0.out _ ?_; first | exact (Only.refl _ _).drew | exact Only.refl _ _ | (go_split_ands; exact Only.trans (by assumption) ho)))
    (first | (go_at_call 64; (with_reducible refine (HT1.out _).mono ?_); rintro _ wn ⟨rfl, ho⟩) | (go_at_call 64; (with_reducible refine (HT2.out _).mono ?_); rintro _ wn ⟨rfl, ho⟩))
  have HFF : Hid (Only (fun _ => False) W4 wn) := Lib.hid (by go_split_ands; assumption)
  go_wp2_with fail
  go_ret
  exact ⟨rfl, HS4.out.trans HFF.out⟩
set_option maxRecDepth 100000 in
set_option maxHeartbeats 2000000 in
theorem adds_b_over_3 (a b c d t u n : Int) (ht : 0 ≤ t) (hm : t ≤ 9223372036854775807) (hu : 4 ≤ u) (hu2 : u ≤ 1073741824) (hk : t % u * 4 / u = 3) (HQ : Hid (Q4 a b c d)) (hr : rightB a b c d = true) (h0 : 0 ≤ n) (hn : 1125899906842624 - d < n) (w : World) : Calls Try.prog 12 #[.agg #[.int .i64 a, .int .i64 b, .int .i64 c, .int .i64 d], .agg #[.int .i64 t, .int .i64 u], .int .i64 n] w fun e w' => e = .returned (.bool true) ∧ Only (fun _ => False) w w' := by
  obtain ⟨W0, hW0⟩ : ∃ W0, W0 = ((w.alloc (.cells #[.int .i64 a, .int .i64 b, .int .i64 c, .int .i64 d] 108)).alloc (.cells #[.int .i64 t, .int .i64 u] 121)).alloc (.cells #[.int .i64 a, .int .i64 b, .int .i64 c, .int .i64 d] 110) := ⟨_, rfl⟩
  have HF0 : Hid (Only (fun _ => False) w W0) := Lib.hid (by rw [hW0]; exact (((Only.refl _ w).alloc _).alloc _).alloc _)
  have HC : Hid (∀ w', Only (fun _ => False) W0 w' → Kept w w' a b c d t u) := Lib.hid (fun w' ho => by rw [hW0] at ho; exact kept_start w w' a b c d t u ho)
  have HZ : Hid (∀ w', Only (fun _ => False) W0 w' → Four w' w.heap.size) := Lib.hid (fun w' ho => by rw [hW0] at ho; exact (Four.new rfl).only ((((Only.refl (fun _ => False) _).alloc _).alloc _).trans ho) (fun f => f))
  have HSZ : Hid (w.heap.size + 1 + 1 < W0.heap.size) := Lib.hid (by rw [hW0]; simp)
  go_enter Try.func12, Try.ntmps12
  go_wp2_with fail
  rw [← hW0]
  clear hW0
  have e1 : 0 ≤ t % u ∧ t % u < u := ⟨Int.emod_nonneg _ (by omega), Int.emod_lt_of_pos _ (by omega)⟩
  have e2 : t.tmod u = t % u := Int.tmod_eq_emod_of_nonneg ht
  have e3 : (t % u * 4).tdiv u = t % u * 4 / u := Int.tdiv_eq_ediv_of_nonneg (by omega)
  have e5 : t % u * 4 / u < 4 := Int.ediv_lt_of_lt_mul (by omega) (by omega)
  have e6 : 0 ≤ t % u * 4 / u := Int.ediv_nonneg (by omega) (by omega)
  have e4 : wrap64 (t % u * 4 / u) = t % u * 4 / u := by rw [wrap64_eq]; omega
  refine (quarter_yes t u ht hm hu hu2 _).mono ?_
  rintro _ _ ⟨rfl, rfl⟩
  rw [hk] at *
  generalize t % u = r at *
  clear hm
  obtain ⟨⟨a1, a2⟩, ⟨b1, b2⟩, ⟨c1, c2⟩, ⟨d1, d2⟩⟩ := HQ.out
  obtain ⟨⟨p0, p1, p2, p3⟩, ⟨p4, p5⟩, p6, p7, p8, p9⟩ := HC.out W0 (Only.refl _ _)
  clear p0 p1 p2 p3 p4 p5 p6 p7 p8 p9
  go_wp2_with fail
  refine (beats_any _).mono ?_
  rintro _ w1 ⟨rfl, h1⟩
  have H1 := Lib.hid h1
  clear h1
  obtain ⟨⟨p0, p1, p2, p3⟩, ⟨p4, p5⟩, p6, p7, p8, p9⟩ := HC.out w1 H1.out
  go_wp2_with fail
  go_quiet (fail)
  go_wp2_with fail
  refine (add_over_3 a b c d n HQ.out h0 hn _).mono ?_
  rintro _ w2 ⟨rfl, h2⟩
  replace h2 : Only (fun _ => False) w1 w2 := (only_drewN (Only.refl _ w1) _).trans h2
  clear p0 p1 p2 p3 p4 p5 p6 p7 p8 p9
  obtain ⟨W2, hW2⟩ : ∃ W2, W2 = w2.alloc (.cells #[.int .i64 0, .int .i64 0, .int .i64 0, .int .i64 0] 110) := ⟨_, rfl⟩
  have H2 : Hid (Only (fun _ => False) W0 W2) := Lib.hid (by rw [hW2]; exact (H1.out.trans h2).alloc _)
  have HSB : Hid (∀ w', Only (fun _ => False) W2 w' → (w'.cell? ⟨w2.heap.size, 0, none⟩ = some (.int .i64 0) ∧ w'.cell? ⟨w2.heap.size, 1, none⟩ = some (.int .i64 0) ∧ w'.cell? ⟨w2.heap.size, 2, none⟩ = some (.int .i64 0) ∧ w'.cell? ⟨w2.heap.size, 3, none⟩ = some (.int .i64 0))) := Lib.hid (fun w' ho => by rw [hW2] at ho; exact box4 rfl ho)
  have HSL : Hid (W0.heap.size ≤ w2.heap.size) := Lib.hid (H1.out.trans h2).size
  clear h2
  obtain ⟨⟨p0, p1, p2, p3⟩, ⟨p4, p5⟩, p6, p7, p8, p9⟩ := HC.out W2 H2.out
  rw [hW2] at p0 p1 p2 p3 p4 p5 p6 p7 p8 p9
  go_wp2_with fail
  rw [← hW2]
  clear hW2 p0 p1 p2 p3 p4 p5 p6 p7 p8 p9
  refine (rright_any a b c d _).mono ?_
  rintro _ w3 ⟨rfl, h3⟩
  rw [hr]
  obtain ⟨s0, s1, s2, s3⟩ := HSB.out w3 h3
  have H3 := Lib.hid h3
  clear h3
  obtain ⟨⟨p0, p1, p2, p3⟩, ⟨p4, p5⟩, p6, p7, p8, p9⟩ := HC.out w3 (H2.out.trans H3.out)
  have EQ : ∀ w : World, (Op.equalIn 9999 108 (.agg #[.int .i64 0, .int .i64 0, .int .i64 0, .int .i64 0]) (.agg #[.int .i64 0, .int .i64 0, .int .i64 0, .int .i64 0])).run Try.prog w = .ok true w := fun w => (eq4_run 9997 0 0 0 0 0 0 0 0 w).trans (by simp)
  go_wp2_with fail
  go_ret
  exact ⟨rfl, HF0.out.trans (H2.out.trans H3.out)⟩
set_option maxRecDepth 100000 in
set_option maxHeartbeats 2000000 in
theorem adds_b_ok_3 (a b c d t u n : Int) (ht : 0 ≤ t) (hm : t ≤ 9223372036854775807) (hu : 4 ≤ u) (hu2 : u ≤ 1073741824) (hk : t % u * 4 / u = 3) (HQ : Hid (Q4 a b c d)) (hr : rightB a b c d = true) (h0 : 0 ≤ n) (hn : n ≤ 1125899906842624 - d) (w : World) : Calls Try.prog 12 #[.agg #[.int .i64 a, .int .i64 b, .int .i64 c, .int .i64 d], .agg #[.int .i64 t, .int .i64 u], .int .i64 n] w fun e w' => e = .returned (.bool true) ∧ Only (fun _ => False) w w' := by
  obtain ⟨W0, hW0⟩ : ∃ W0, W0 = ((w.alloc (.cells #[.int .i64 a, .int .i64 b, .int .i64 c, .int .i64 d] 108)).alloc (.cells #[.int .i64 t, .int .i64 u] 121)).alloc (.cells #[.int .i64 a, .int .i64 b, .int .i64 c, .int .i64 d] 110) := ⟨_, rfl⟩
  have HF0 : Hid (Only (fun _ => False) w W0) := Lib.hid (by rw [hW0]; exact (((Only.refl _ w).alloc _).alloc _).alloc _)
  have HC : Hid (∀ w', Only (fun _ => False) W0 w' → Kept w w' a b c d t u) := Lib.hid (fun w' ho => by rw [hW0] at ho; exact kept_start w w' a b c d t u ho)
  have HZ : Hid (∀ w', Only (fun _ => False) W0 w' → Four w' w.heap.size) := Lib.hid (fun w' ho => by rw [hW0] at ho; exact (Four.new rfl).only ((((Only.refl (fun _ => False) _).alloc _).alloc _).trans ho) (fun f => f))
  have HSZ : Hid (w.heap.size + 1 + 1 < W0.heap.size) := Lib.hid (by rw [hW0]; simp)
  go_enter Try.func12, Try.ntmps12
  go_wp2_with fail
  rw [← hW0]
  clear hW0
  have e1 : 0 ≤ t % u ∧ t % u < u := ⟨Int.emod_nonneg _ (by omega), Int.emod_lt_of_pos _ (by omega)⟩
  have e2 : t.tmod u = t % u := Int.tmod_eq_emod_of_nonneg ht
  have e3 : (t % u * 4).tdiv u = t % u * 4 / u := Int.tdiv_eq_ediv_of_nonneg (by omega)
  have e5 : t % u * 4 / u < 4 := Int.ediv_lt_of_lt_mul (by omega) (by omega)
  have e6 : 0 ≤ t % u * 4 / u := Int.ediv_nonneg (by omega) (by omega)
  have e4 : wrap64 (t % u * 4 / u) = t % u * 4 / u := by rw [wrap64_eq]; omega
  refine (quarter_yes t u ht hm hu hu2 _).mono ?_
  rintro _ _ ⟨rfl, rfl⟩
  rw [hk] at *
  generalize t % u = r at *
  clear hm
  obtain ⟨⟨a1, a2⟩, ⟨b1, b2⟩, ⟨c1, c2⟩, ⟨d1, d2⟩⟩ := HQ.out
  obtain ⟨⟨p0, p1, p2, p3⟩, ⟨p4, p5⟩, p6, p7, p8, p9⟩ := HC.out W0 (Only.refl _ _)
  clear p0 p1 p2 p3 p4 p5 p6 p7 p8 p9
  go_wp2_with fail
  refine (beats_any _).mono ?_
  rintro _ w1 ⟨rfl, h1⟩
  have H1 := Lib.hid h1
  clear h1
  obtain ⟨⟨p0, p1, p2, p3⟩, ⟨p4, p5⟩, p6, p7, p8, p9⟩ := HC.out w1 H1.out
  go_wp2_with fail
  go_quiet (fail)
  go_wp2_with fail
  refine (add_ok_3 a b c d n HQ.out h0 hn _).mono ?_
  rintro _ w2 ⟨rfl, h2⟩
  replace h2 : Only (fun _ => False) w1 w2 := (only_drewN (Only.refl _ w1) _).trans h2
  clear p0 p1 p2 p3 p4 p5 p6 p7 p8 p9
  obtain ⟨W2, hW2⟩ : ∃ W2, W2 = w2.alloc (.cells #[.int .i64 a, .int .i64 b, .int .i64 c, .int .i64 (d + n)] 110) := ⟨_, rfl⟩
  have H2 : Hid (Only (fun _ => False) W0 W2) := Lib.hid (by rw [hW2]; exact (H1.out.trans h2).alloc _)
  have HSB : Hid (∀ w', Only (fun _ => False) W2 w' → (w'.cell? ⟨w2.heap.size, 0, none⟩ = some (.int .i64 a) ∧ w'.cell? ⟨w2.heap.size, 1, none⟩ = some (.int .i64 b) ∧ w'.cell? ⟨w2.heap.size, 2, none⟩ = some (.int .i64 c) ∧ w'.cell? ⟨w2.heap.size, 3, none⟩ = some (.int .i64 (d + n)))) := Lib.hid (fun w' ho => by rw [hW2] at ho; exact box4 rfl ho)
  have HSL : Hid (W0.heap.size ≤ w2.heap.size) := Lib.hid (H1.out.trans h2).size
  clear h2
  obtain ⟨⟨p0, p1, p2, p3⟩, ⟨p4, p5⟩, p6, p7, p8, p9⟩ := HC.out W2 H2.out
  rw [hW2] at p0 p1 p2 p3 p4 p5 p6 p7 p8 p9
  go_wp2_with fail
  rw [← hW2]
  clear hW2 p0 p1 p2 p3 p4 p5 p6 p7 p8 p9
  refine (rright_any a b c d _).mono ?_
  rintro _ w3 ⟨rfl, h3⟩
  rw [hr]
  obtain ⟨s0, s1, s2, s3⟩ := HSB.out w3 h3
  have H3 := Lib.hid h3
  clear h3
  obtain ⟨⟨p0, p1, p2, p3⟩, ⟨p4, p5⟩, p6, p7, p8, p9⟩ := HC.out w3 (H2.out.trans H3.out)
  have HFOUR := HZ.out w3 (H2.out.trans H3.out)
  obtain ⟨_, _, _, _, g0, g1, g2, g3⟩ := HFOUR
  obtain ⟨W4, hW4⟩ : ∃ W4, W4 = w3.setCell ⟨w.heap.size, 3, none⟩ (.int .i64 (d + n)) := ⟨_, rfl⟩
  have HSZ2 := HSZ.out
  have HSL2 := HSL.out
  have HR4 : Hid (∀ w', Only (fun _ => False) W4 w' → (w'.cell? ⟨w.heap.size, 0, none⟩ = some (.int .i64 a) ∧ w'.cell? ⟨w.heap.size, 1, none⟩ = some (.int .i64 b) ∧ w'.cell? ⟨w.heap.size, 2, none⟩ = some (.int .i64 c) ∧ w'.cell? ⟨w.heap.size, 3, none⟩ = some (.int .i64 (d + n))) ∧ (w'.cell? ⟨w.heap.size + 1 + 1, 0, none⟩ = some (.int .i64 a) ∧ w'.cell? ⟨w.heap.size + 1 + 1, 1, none⟩ = some (.int .i64 b) ∧ w'.cell? ⟨w.heap.size + 1 + 1, 2, none⟩ = some (.int .i64 c) ∧ w'.cell? ⟨w.heap.size + 1 + 1, 3, none⟩ = some (.int .i64 d)) ∧ (w'.cell? ⟨w2.heap.size, 0, none⟩ = some (.int .i64 a) ∧ w'.cell? ⟨w2.heap.size, 1, none⟩ = some (.int .i64 b) ∧ w'.cell? ⟨w2.heap.size, 2, none⟩ = some (.int .i64 c) ∧ w'.cell? ⟨w2.heap.size, 3, none⟩ = some (.int .i64 (d + n)))) := Lib.hid (fun w' ho => by
    rw [hW4] at ho
    refine ⟨⟨?_, ?_, ?_, ?_⟩, ⟨?_, ?_, ?_, ?_⟩, ⟨?_, ?_, ?_, ?_⟩⟩
    · exact ho.cell' (by rw [cell_other (off_ne (by omega))]; exact p0) (fun f => f)
    · exact ho.cell' (by rw [cell_other (off_ne (by omega))]; exact p1) (fun f => f)
    · exact ho.cell' (by rw [cell_other (off_ne (by omega))]; exact p2) (fun f => f)
    · exact ho.cell' (cell_same p3) (fun f => f)
    · exact ho.cell' (by rw [cell_other (blk_ne (by omega))]; exact p6) (fun f => f)
    · exact ho.cell' (by rw [cell_other (blk_ne (by omega))]; exact p7) (fun f => f)
    · exact ho.cell' (by rw [cell_other (blk_ne (by omega))]; exact p8) (fun f => f)
    · exact ho.cell' (by rw [cell_other (blk_ne (by omega))]; exact p9) (fun f => f)
    · exact ho.cell' (by rw [cell_other (blk_ne (by omega))]; exact s0) (fun f => f)
    · exact ho.cell' (by rw [cell_other (blk_ne (by omega))]; exact s1) (fun f => f)
    · exact ho.cell' (by rw [cell_other (blk_ne (by omega))]; exact s2) (fun f => f)
    · exact ho.cell' (by rw [cell_other (blk_ne (by omega))]; exact s3) (fun f => f))
  have HS4 : Hid (Only (fun _ => False) w W4) := Lib.hid (by rw [hW4]; exact (HF0.out.trans (H2.out.trans H3.out)).then (Only.set (fun q => q = w.heap.size) w3 w.heap.size 3 (.int .i64 (d + n)) rfl) (fun q hq e => by have e' : q = w.heap.size := e; omega))
  have HT1 : Hid (∀ w, Calls Try.prog 64 #[.agg #[.int .i64 a, .int .i64 b, .int .i64 c, .int .i64 (d + n)]] w fun e w' => e = .returned (.int .i64 (a + b + c + d + n)) ∧ Only (fun _ => False) w w') := Lib.hid (fun w => by
    have := total_any a b c (d + n) w
    rw [tot_of (by have := HQ.out; unfold Q4 Q1 at *; omega), show a + b + c + (d + n) = a + b + c + d + n by omega] at this
    exact this)
  have HT2 : Hid (∀ w, Calls Try.prog 64 #[.agg #[.int .i64 a, .int .i64 b, .int .i64 c, .int .i64 d]] w fun e w' => e = .returned (.int .i64 (a + b + c + d)) ∧ Only (fun _ => False) w w') := Lib.hid (fun w => by
    have := total_any a b c d w
    rw [tot_of HQ.out] at this
    exact this)
  have hsum : 0 ≤ a + b + c + d ∧ a + b + c + d ≤ 4503599627370496 := by omega
  clear HC HZ HSZ HSL HSZ2 HSL2
  generalize a + b + c + d = z at *
  have hwr : IntKind.i64.wrap (z + n) = z + n := by rw [wrap_i64]; omega
  go_wp2_with fail
  rw [← hW4]
  have hz := hW4
  clear hW4 hz p0 p1 p2 p3 p4 p5 p6 p7 p8 p9 s0 s1 s2 s3 g0 g1 g2 g3
  have EQ : ∀ w : World, (Op.equalIn 10000 108 (.agg #[.int .i64 a, .int .i64 b, .int .i64 c, .int .i64 (d + n)]) (.agg #[.int .i64 a, .int .i64 b, .int .i64 c, .int .i64 (d + n)])).run Try.prog w = .ok true w := fun w => (eq4_run 9998 a b c (d + n) a b c (d + n) w).trans (by simp)
  have HS0 : Hid (∀ w', Only (fun _ => False) W4 w' → Only (fun _ => False) W4 w' ∧ ((w'.cell? ⟨w.heap.size, 0, none⟩ = some (.int .i64 a) ∧ w'.cell? ⟨w.heap.size, 1, none⟩ = some (.int .i64 b) ∧ w'.cell? ⟨w.heap.size, 2, none⟩ = some (.int .i64 c) ∧ w'.cell? ⟨w.heap.size, 3, none⟩ = some (.int .i64 (d + n))) ∧ (w'.cell? ⟨w.heap.size + 1 + 1, 0, none⟩ = some (.int .i64 a) ∧ w'.cell? ⟨w.heap.size + 1 + 1, 1, none⟩ = some (.int .i64 b) ∧ w'.cell? ⟨w.heap.size + 1 + 1, 2, none⟩ = some (.int .i64 c) ∧ w'.cell? ⟨w.heap.size + 1 + 1, 3, none⟩ = some (.int .i64 d)) ∧ (w'.cell? ⟨w2.heap.size, 0, none⟩ = some (.int .i64 a) ∧ w'.cell? ⟨w2.heap.size, 1, none⟩ = some (.int .i64 b) ∧ w'.cell? ⟨w2.heap.size, 2, none⟩ = some (.int .i64 c) ∧ w'.cell? ⟨w2.heap.size, 3, none⟩ = some (.int .i64 (d + n))))) := Lib.hid (fun w' ho => ⟨ho, HR4.out w' ho⟩)
  obtain ⟨_, ⟨q0, q1, q2, q3⟩, ⟨q4, q5, q6, q7⟩, q8, q9, q10, q11⟩ := HS0.out W4 (Only.refl _ _)
  go_region_held3 (fun w' => Only (fun _ => False) W4 w' ∧ ((w'.cell? ⟨w.heap.size, 0, none⟩ = some (.int .i64 a) ∧ w'.cell? ⟨w.heap.size, 1, none⟩ = some (.int .i64 b) ∧ w'.cell? ⟨w.heap.size, 2, none⟩ = some (.int .i64 c) ∧ w'.cell? ⟨w.heap.size, 3, none⟩ = some (.int .i64 (d + n))) ∧ (w'.cell? ⟨w.heap.size + 1 + 1, 0, none⟩ = some (.int .i64 a) ∧ w'.cell? ⟨w.heap.size + 1 + 1, 1, none⟩ = some (.int .i64 b) ∧ w'.cell? ⟨w.heap.size + 1 + 1, 2, none⟩ = some (.int .i64 c) ∧ w'.cell? ⟨w.heap.size + 1 + 1, 3, none⟩ = some (.int .i64 d)) ∧ (w'.cell? ⟨w2.heap.size, 0, none⟩ = some (.int .i64 a) ∧ w'.cell? ⟨w2.heap.size, 1, none⟩ = some (.int .i64 b) ∧ w'.cell? ⟨w2.heap.size, 2, none⟩ = some (.int .i64 c) ∧ w'.cell? ⟨w2.heap.size, 3, none⟩ = some (.int .i64 (d + n)))))
    ((refine HS0.out _ ?_; first | exact (Only.refl _ _).drew | exact Only.refl _ _ | (go_split_ands; exact Only.trans (by assumption) ho)))
    (first | (go_at_call 64; (with_reducible refine (HT1.out _).mono ?_); rintro _ wn ⟨rfl, ho⟩) | (go_at_call 64; (with_reducible refine (HT2.out _).mono ?_); rintro _ wn ⟨rfl, ho⟩))
  have HFF : Hid (Only (fun _ => False) W4 wn) := Lib.hid (by go_split_ands; assumption)
  go_wp2_with fail
  go_ret
  exact ⟨rfl, HS4.out.trans HFF.out⟩
end Go.Proofs.Ytlldecklngcklaa.rhyw
