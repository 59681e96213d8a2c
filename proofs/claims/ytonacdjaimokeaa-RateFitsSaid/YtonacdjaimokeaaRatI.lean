/- Plans: how many units a credit does for: the program's Fit. -/
import Derived.Test.YtonacdjaimokeaaRatH
namespace Go.Proofs.Ytonacdjaimokeaa.tirw
open Go.RowKit mem tirm intm bigm bigw
set_option linter.unusedVariables false

/-- what fits -/
def FitNo (D F T G1 M1 B1 G2 M2 B2 : Int) (t1 t2 : List Tr) (cr u : Int) : Prop := ¬ CanP D F T G1 M1 B1 G2 M2 B2 t1 t2 u ∨ cr < 0
instance (D F T G1 M1 B1 G2 M2 B2 : Int) (t1 t2 : List Tr) (cr u : Int) : Decidable (FitNo D F T G1 M1 B1 G2 M2 B2 t1 t2 cr u) := inferInstanceAs (Decidable (_ ∨ _))
def fitU (D F T G1 M1 B1 G2 M2 B2 : Int) (t1 t2 : List Tr) (cr u : Int) : Int :=
  if FitNo D F T G1 M1 B1 G2 M2 B2 t1 t2 cr u then 0 else if bk u B1 * dearP t1 t2 ≤ cr then u else cr / dearP t1 t2 * B1
def fitC (D F T G1 M1 B1 G2 M2 B2 : Int) (t1 t2 : List Tr) (cr u : Int) : Int :=
  if FitNo D F T G1 M1 B1 G2 M2 B2 t1 t2 cr u then 0 else if bk u B1 * dearP t1 t2 ≤ cr then bk u B1 * dearP t1 t2 else cr / dearP t1 t2 * dearP t1 t2
def fitE (D F T G1 M1 B1 G2 M2 B2 : Int) (t1 t2 : List Tr) (cr u : Int) : Int := if FitNo D F T G1 M1 B1 G2 M2 B2 t1 t2 cr u then 1 else 0
/-- fewer blocks than those wanted -/
theorem fit_less {k d cr : Int} (h : cr < k * d) (h0 : 0 ≤ cr) (hd : 0 ≤ d) : 0 < d ∧ 0 ≤ cr / d ∧ cr / d < k ∧ cr / d * d ≤ cr ∧ cr < (cr / d + 1) * d := by
  have hd1 : 0 < d := by
    rcases Int.lt_or_le 0 d with e | e
    · exact e
    · have : d = 0 := by omega
      rw [this] at h; simp at h; omega
  have h1 := Int.mul_ediv_add_emod cr d
  have h2 := Int.ediv_nonneg h0 hd
  have h3 := Int.emod_nonneg cr (show d ≠ 0 by omega)
  have h4 := Int.emod_lt_of_pos cr hd1
  have h5 : d * (cr / d) = cr / d * d := Int.mul_comm _ _
  have h6 : cr / d < k := by
    rcases Int.lt_or_le (cr / d) k with e | e
    · exact e
    · have := Int.mul_le_mul_of_nonneg_right e hd
      omega
  have h7 : (cr / d + 1) * d = cr / d * d + d := by rw [Int.add_mul, Int.one_mul]
  exact ⟨hd1, h2, h6, by omega, by omega⟩

set_option maxRecDepth 100000 in
set_option maxHeartbeats 1000000 in
theorem fit_any (D F T G1 M1 B1 G2 M2 B2 : Int) (a1 a2 : Option Addr) (n1 n2 c1 c2 : Nat) (t1 t2 : List Tr) (cr u : Int) (w : World) (h1 : ReadsT w a1 n1 t1) (h2 : ReadsT w a2 n2 t2) (hcr : cr ≤ 9223372036854775807) :
    Calls Try.prog 21 #[.agg #[.int .i64 D, .int .i64 F, .int .i64 T, .int .i64 G1, .int .i64 M1, .int .i64 B1, .slice a1 n1 c1, .int .i64 G2, .int .i64 M2, .int .i64 B2, .slice a2 n2 c2], .int .i64 cr, .int .i64 u] w fun e w' => e = .returned (.tuple #[.int .i64 (fitU D F T G1 M1 B1 G2 M2 B2 t1 t2 cr u), .int .i64 (fitC D F T G1 M1 B1 G2 M2 B2 t1 t2 cr u), .int .i64 (fitE D F T G1 M1 B1 G2 M2 B2 t1 t2 cr u)]) ∧ Only (fun _ => False) w w' := by
  have HWO := Lib.hid (fun w' (ho : Only (fun _ => False) w w') => worst_any D F T G1 M1 B1 G2 M2 B2 a1 a2 n1 n2 c1 c2 t1 t2 u w' (h1.only ho (fun _ _ f => f)) (h2.only ho (fun _ _ f => f)))
  have HDP := Lib.hid (fun w' (ho : Only (fun _ => False) w w') => dearp_any D F T G1 M1 B1 G2 M2 B2 a1 a2 n1 n2 c1 c2 t1 t2 w' (h1.only ho (fun _ _ f => f)) (h2.only ho (fun _ _ f => f)))
  obtain ⟨W0, hW0⟩ : ∃ W0, W0 = w.alloc (.cells #[.int .i64 D, .int .i64 F, .int .i64 T, .int .i64 G1, .int .i64 M1, .int .i64 B1, .slice a1 n1 c1, .int .i64 G2, .int .i64 M2, .int .i64 B2, .slice a2 n2 c2] 30) := ⟨_, rfl⟩
  have HO0 : Hid (Only (fun _ => False) w W0) := Lib.hid (by rw [hW0]; exact (Only.refl _ w).alloc _)
  have HPA : Hid (PlanAt W0 w.heap.size D F T G1 M1 B1 G2 M2 B2 a1 a2 n1 n2 c1 c2) := Lib.hid (by rw [hW0]; exact PlanAt.new ..)
  clear h1 h2
  unfold fitU fitC fitE
  by_cases hc : CanP D F T G1 M1 B1 G2 M2 B2 t1 t2 u
  · have hw : worN D F T G1 M1 B1 G2 M2 B2 t1 t2 u = bk u B1 * dearP t1 t2 ∧ worE D F T G1 M1 B1 G2 M2 B2 t1 t2 u = 0 := by unfold worN worE; rw [if_pos hc, if_pos hc]; exact ⟨rfl, rfl⟩
    rw [hw.1, hw.2] at HWO
    by_cases h0 : cr < 0
    · have hf : FitNo D F T G1 M1 B1 G2 M2 B2 t1 t2 cr u := .inr h0
      rw [if_pos hf, if_pos hf, if_pos hf]
      generalize bk u B1 * dearP t1 t2 = P at *
      clear hc hw hf
      go_enter Try.func21, Try.ntmps21
      obtain ⟨p0, p1, p2, p3, p4, p5, p6, p7, p8, p9, p10⟩ := HPA.out
      rw [hW0] at p0 p1 p2 p3 p4 p5 p6 p7 p8 p9 p10
      go_wp2_with fail
      rw [← hW0]
      clear hW0 p0 p1 p2 p3 p4 p5 p6 p7 p8 p9 p10
      refine (HWO.out _ HO0.out).mono ?_
      rintro _ w1 ⟨rfl, k1⟩
      have K1 := Lib.hid (HO0.out.trans k1)
      clear k1
      go_wp2_with fail
      go_ret3
      exact ⟨rfl, K1.out⟩
    · have hf : ¬ FitNo D F T G1 M1 B1 G2 M2 B2 t1 t2 cr u := fun e => e.elim (fun e => e hc) h0
      rw [if_neg hf, if_neg hf, if_neg hf]
      obtain ⟨⟨c1', c2'⟩, ⟨b1, b2⟩, d1, d2⟩ := can_facts hc
      obtain ⟨e1, e2⟩ := bk_in c1' b1
      by_cases hle : bk u B1 * dearP t1 t2 ≤ cr
      · rw [if_pos hle, if_pos hle]
        generalize bk u B1 * dearP t1 t2 = P at *
        clear hc hw hf
        go_enter Try.func21, Try.ntmps21
        obtain ⟨p0, p1, p2, p3, p4, p5, p6, p7, p8, p9, p10⟩ := HPA.out
        rw [hW0] at p0 p1 p2 p3 p4 p5 p6 p7 p8 p9 p10
        go_wp2_with fail
        rw [← hW0]
        clear hW0 p0 p1 p2 p3 p4 p5 p6 p7 p8 p9 p10
        refine (HWO.out _ HO0.out).mono ?_
        rintro _ w1 ⟨rfl, k1⟩
        have K1 := Lib.hid (HO0.out.trans k1)
        clear k1
        go_wp2_with fail
        go_ret3
        exact ⟨rfl, K1.out⟩
      · rw [if_neg hle, if_neg hle]
        obtain ⟨f1, f2, f3, f4, f5⟩ := fit_less (k := bk u B1) (d := dearP t1 t2) (cr := cr) (by omega) (by omega) d1
        have hq1 : cr / dearP t1 t2 * B1 ≤ 1073741824 * 1073741824 := Int.mul_le_mul (by omega) b2 (by omega) (by omega)
        have hq0 : 0 ≤ cr / dearP t1 t2 * B1 := Int.mul_nonneg f2 (by omega)
        have hr0 : 0 ≤ cr / dearP t1 t2 * dearP t1 t2 := Int.mul_nonneg f2 d1
        have htd : cr.tdiv (dearP t1 t2) = cr / dearP t1 t2 := Int.tdiv_eq_ediv_of_nonneg (by omega)
        generalize bk u B1 * dearP t1 t2 = P at *
        have HDQ := HDP
        obtain ⟨d, hd⟩ : ∃ d, dearP t1 t2 = d := ⟨_, rfl⟩
        rw [hd] at HDP f1 f2 f3 f4 f5 hq1 hq0 hr0 htd ⊢
        obtain ⟨q, hq⟩ : ∃ q, cr / d = q := ⟨_, rfl⟩
        rw [hq] at f2 f3 f4 f5 hq1 hq0 hr0 htd ⊢
        have v1 : wrap64 (q * B1) = q * B1 := by rw [wrap64_eq]; omega
        have v2 : wrap64 (q * d) = q * d := by rw [wrap64_eq]; omega
        have v3 : IntKind.i64.wrap (q * B1) = q * B1 := by rw [wrap_i64]; omega
        have v4 : IntKind.i64.wrap (q * d) = q * d := by rw [wrap_i64]; omega
        have z0 : ¬ d = 0 := by omega
        obtain ⟨z1, z2⟩ := neI z0
        clear hc hw hf HDQ
        go_enter Try.func21, Try.ntmps21
        obtain ⟨p0, p1, p2, p3, p4, p5, p6, p7, p8, p9, p10⟩ := HPA.out
        rw [hW0] at p0 p1 p2 p3 p4 p5 p6 p7 p8 p9 p10
        go_wp2_with fail
        rw [← hW0]
        clear hW0 p0 p1 p2 p3 p4 p5 p6 p7 p8 p9 p10
        refine (HWO.out _ HO0.out).mono ?_
        rintro _ w1 ⟨rfl, k1⟩
        have K1 := Lib.hid k1
        clear k1
        obtain ⟨p0, p1, p2, p3, p4, p5, p6, p7, p8, p9, p10⟩ := HPA.out.only K1.out (fun f => f)
        go_wp2_with fail
        refine (HDP.out _ (HO0.out.trans K1.out)).mono ?_
        rintro _ w2 ⟨rfl, k2⟩
        have K2 := Lib.hid (K1.out.trans k2)
        clear k2 p0 p1 p2 p3 p4 p5 p6 p7 p8 p9 p10
        obtain ⟨p0, p1, p2, p3, p4, p5, p6, p7, p8, p9, p10⟩ := HPA.out.only K2.out (fun f => f)
        go_wp2_with fail
        go_ret3
        exact ⟨rfl, HO0.out.trans K2.out⟩
  · have hw : worN D F T G1 M1 B1 G2 M2 B2 t1 t2 u = 0 ∧ worE D F T G1 M1 B1 G2 M2 B2 t1 t2 u = 1 := by unfold worN worE; rw [if_neg hc, if_neg hc]; exact ⟨rfl, rfl⟩
    rw [hw.1, hw.2] at HWO
    have hf : FitNo D F T G1 M1 B1 G2 M2 B2 t1 t2 cr u := .inl hc
    rw [if_pos hf, if_pos hf, if_pos hf]
    clear hc hw hf
    go_enter Try.func21, Try.ntmps21
    obtain ⟨p0, p1, p2, p3, p4, p5, p6, p7, p8, p9, p10⟩ := HPA.out
    rw [hW0] at p0 p1 p2 p3 p4 p5 p6 p7 p8 p9 p10
    go_wp2_with fail
    rw [← hW0]
    clear hW0 p0 p1 p2 p3 p4 p5 p6 p7 p8 p9 p10
    refine (HWO.out _ HO0.out).mono ?_
    rintro _ w1 ⟨rfl, k1⟩
    have K1 := Lib.hid (HO0.out.trans k1)
    clear k1
    go_wp2_with fail
    go_ret3
    exact ⟨rfl, K1.out⟩
end Go.Proofs.Ytonacdjaimokeaa.tirw
