/- Plans: what so many units may cost at most: the program's Worst. -/
import Derived.Test.YtonacdjaimokeaaRatF
namespace Go.Proofs.Ytonacdjaimokeaa.tirw
open Go.RowKit mem tirm intm bigw
set_option linter.unusedVariables false

theorem bk_in {u c : Int} (hu : 0 ≤ u) (hc : 1 ≤ c) : 0 ≤ bk u c ∧ bk u c ≤ u := by
  unfold bk
  rw [if_pos ⟨hu, hc⟩]
  have h1 := Int.mul_ediv_add_emod u c
  have h2 := Int.ediv_nonneg hu (show 0 ≤ c by omega)
  have h3 := Int.emod_nonneg u (show c ≠ 0 by omega)
  have h4 : 1 * (u / c) ≤ c * (u / c) := Int.mul_le_mul_of_nonneg_right hc h2
  generalize u / c = q at *
  generalize c * q = z at *
  split <;> omega
theorem bok_yes {u c : Int} (hu : 0 ≤ u) (hc : 1 ≤ c) : bok u c = true := by unfold bok; rw [decide_eq_true_eq]; exact ⟨hu, hc⟩
theorem can_facts {D F T G1 M1 B1 G2 M2 B2 : Int} {t1 t2 : List Tr} {u : Int} (h : CanP D F T G1 M1 B1 G2 M2 B2 t1 t2 u) : (0 ≤ u ∧ u ≤ 1073741824) ∧ (1 ≤ B1 ∧ B1 ≤ 1073741824) ∧ (0 ≤ dearP t1 t2 ∧ dearP t1 t2 ≤ 1048576) := by
  obtain ⟨h1, h2, h3⟩ := h
  obtain ⟨k1, kk⟩ := pchk_ok h3
  obtain ⟨_, _, hb, _, hts⟩ := (tchk_ok G1 M1 B1 t1).1 k1
  have hd1 := dearF_ge t1 0
  have hd2 := dearF_in t1 1048576 0 (fun t ht => (Tiers_p t1 0 hts t ht).2) (by omega)
  have hd3 : 0 ≤ dearF 0 t2 ∧ dearF 0 t2 ≤ 1048576 := by
    rcases kk with ⟨_, _, _, _, _, _, e⟩ | ⟨_, _, k2, _, _⟩
    · rw [e]; exact ⟨Int.le_refl _, by show (0 : Int) ≤ _; omega⟩
    · obtain ⟨_, _, _, _, ht2⟩ := (tchk_ok G2 M2 B2 t2).1 k2
      exact ⟨(dearF_ge t2 0).1, dearF_in t2 1048576 0 (fun t ht => (Tiers_p t2 0 ht2 t ht).2) (by omega)⟩
  unfold dearP
  exact ⟨⟨h1, h2⟩, hb, by omega, by omega⟩

/-- at most -/
def worN (D F T G1 M1 B1 G2 M2 B2 : Int) (t1 t2 : List Tr) (u : Int) : Int := if CanP D F T G1 M1 B1 G2 M2 B2 t1 t2 u then bk u B1 * dearP t1 t2 else 0
def worE (D F T G1 M1 B1 G2 M2 B2 : Int) (t1 t2 : List Tr) (u : Int) : Int := if CanP D F T G1 M1 B1 G2 M2 B2 t1 t2 u then 0 else 1
set_option maxRecDepth 100000 in
set_option maxHeartbeats 1000000 in
theorem worst_any (D F T G1 M1 B1 G2 M2 B2 : Int) (a1 a2 : Option Addr) (n1 n2 c1 c2 : Nat) (t1 t2 : List Tr) (u : Int) (w : World) (h1 : ReadsT w a1 n1 t1) (h2 : ReadsT w a2 n2 t2) :
    Calls Try.prog 19 #[.agg #[.int .i64 D, .int .i64 F, .int .i64 T, .int .i64 G1, .int .i64 M1, .int .i64 B1, .slice a1 n1 c1, .int .i64 G2, .int .i64 M2, .int .i64 B2, .slice a2 n2 c2], .int .i64 u] w fun e w' => e = .returned (.tuple #[.int .i64 (worN D F T G1 M1 B1 G2 M2 B2 t1 t2 u), .int .i64 (worE D F T G1 M1 B1 G2 M2 B2 t1 t2 u)]) ∧ Only (fun _ => False) w w' := by
  have HCR := Lib.hid (fun w' (ho : Only (fun _ => False) w w') => canrate_any D F T G1 M1 B1 G2 M2 B2 a1 a2 n1 n2 c1 c2 t1 t2 u w' (h1.only ho (fun _ _ f => f)) (h2.only ho (fun _ _ f => f)))
  have HDP := Lib.hid (fun w' (ho : Only (fun _ => False) w w') => dearp_any D F T G1 M1 B1 G2 M2 B2 a1 a2 n1 n2 c1 c2 t1 t2 w' (h1.only ho (fun _ _ f => f)) (h2.only ho (fun _ _ f => f)))
  obtain ⟨W0, hW0⟩ : ∃ W0, W0 = w.alloc (.cells #[.int .i64 D, .int .i64 F, .int .i64 T, .int .i64 G1, .int .i64 M1, .int .i64 B1, .slice a1 n1 c1, .int .i64 G2, .int .i64 M2, .int .i64 B2, .slice a2 n2 c2] 30) := ⟨_, rfl⟩
  have HO0 : Hid (Only (fun _ => False) w W0) := Lib.hid (by rw [hW0]; exact (Only.refl _ w).alloc _)
  have HPA : Hid (PlanAt W0 w.heap.size D F T G1 M1 B1 G2 M2 B2 a1 a2 n1 n2 c1 c2) := Lib.hid (by rw [hW0]; exact PlanAt.new ..)
  clear h1 h2
  unfold worN worE
  by_cases hc : CanP D F T G1 M1 B1 G2 M2 B2 t1 t2 u
  · rw [if_pos hc, if_pos hc]
    rw [decide_eq_true hc] at HCR
    obtain ⟨⟨c1', c2'⟩, ⟨b1, b2⟩, d1, d2⟩ := can_facts hc
    obtain ⟨e1, e2⟩ := bk_in c1' b1
    have HAB := Lib.hid (fun w => ablocks_any u B1 (by omega) (by omega) w)
    rw [bok_yes c1' b1] at HAB
    have hP : bk u B1 * dearP t1 t2 ≤ 1073741824 * 1048576 := Int.mul_le_mul (by omega) d2 d1 (by omega)
    have hP0 : 0 ≤ bk u B1 * dearP t1 t2 := Int.mul_nonneg e1 d1
    generalize bk u B1 = k at *
    generalize dearP t1 t2 = d at *
    have v1 : wrap64 (k * d) = k * d := by rw [wrap64_eq]; omega
    have v2 : IntKind.i64.wrap (k * d) = k * d := by rw [wrap_i64]; omega
    clear hc
    go_enter Try.func19, Try.ntmps19
    obtain ⟨p0, p1, p2, p3, p4, p5, p6, p7, p8, p9, p10⟩ := HPA.out
    rw [hW0] at p0 p1 p2 p3 p4 p5 p6 p7 p8 p9 p10
    go_wp2_with fail
    rw [← hW0]
    clear hW0 p0 p1 p2 p3 p4 p5 p6 p7 p8 p9 p10
    refine (HCR.out _ HO0.out).mono ?_
    rintro _ w1 ⟨rfl, k1⟩
    have K1 := Lib.hid k1
    clear k1
    obtain ⟨p0, p1, p2, p3, p4, p5, p6, p7, p8, p9, p10⟩ := HPA.out.only K1.out (fun f => f)
    go_wp2_with fail
    refine (HAB.out _).mono ?_
    rintro _ _ ⟨rfl, rfl⟩
    go_wp2_with fail
    refine (HDP.out _ (HO0.out.trans K1.out)).mono ?_
    rintro _ w2 ⟨rfl, k2⟩
    have K2 := Lib.hid (HO0.out.trans (K1.out.trans k2))
    clear k2 p0 p1 p2 p3 p4 p5 p6 p7 p8 p9 p10
    go_wp2_with fail
    go_ret2
    exact ⟨rfl, K2.out⟩
  · rw [if_neg hc, if_neg hc]
    rw [decide_eq_false hc] at HCR
    clear hc
    go_enter Try.func19, Try.ntmps19
    obtain ⟨p0, p1, p2, p3, p4, p5, p6, p7, p8, p9, p10⟩ := HPA.out
    rw [hW0] at p0 p1 p2 p3 p4 p5 p6 p7 p8 p9 p10
    go_wp2_with fail
    rw [← hW0]
    clear hW0 p0 p1 p2 p3 p4 p5 p6 p7 p8 p9 p10
    refine (HCR.out _ HO0.out).mono ?_
    rintro _ w1 ⟨rfl, k1⟩
    have K1 := Lib.hid (HO0.out.trans k1)
    clear k1
    go_wp2_with fail
    go_ret2
    exact ⟨rfl, K1.out⟩
end Go.Proofs.Ytonacdjaimokeaa.tirw
