/- Plans: the document's Worst, Fit. -/
import Derived.Test.YtghajamcjcflaaaRatRf
namespace Go.Proofs.Ytghajamcjcflaaa.tirw
open Go.RowKit mem tirm intm bigm bigw
set_option linter.unusedVariables false

theorem wor_no {D F T G1 M1 B1 G2 M2 B2 : Int} {t1 t2 : List Tr} {u : Int} (h : ¬ CanP D F T G1 M1 B1 G2 M2 B2 t1 t2 u) : worN D F T G1 M1 B1 G2 M2 B2 t1 t2 u = 0 ∧ worE D F T G1 M1 B1 G2 M2 B2 t1 t2 u = 1 := by
  unfold worN worE
  rw [if_neg h, if_neg h]
  exact ⟨rfl, rfl⟩
theorem wor_yes {D F T G1 M1 B1 G2 M2 B2 : Int} {t1 t2 : List Tr} {u : Int} (h : CanP D F T G1 M1 B1 G2 M2 B2 t1 t2 u) : worN D F T G1 M1 B1 G2 M2 B2 t1 t2 u = bk u B1 * dearP t1 t2 ∧ worE D F T G1 M1 B1 G2 M2 B2 t1 t2 u = 0 := by
  unfold worN worE
  rw [if_pos h, if_pos h]
  exact ⟨rfl, rfl⟩
set_option maxRecDepth 100000 in
set_option maxHeartbeats 1000000 in
theorem rworst_any (D F T G1 M1 B1 G2 M2 B2 : Int) (a1 a2 : Option Addr) (n1 n2 c1 c2 : Nat) (t1 t2 : List Tr) (u : Int) (w : World) (h1 : ReadsT w a1 n1 t1) (h2 : ReadsT w a2 n2 t2) (hs : n1 ≤ 1000 ∧ n2 ≤ 1000) :
    Calls Try.prog 93 #[.agg #[.int .i64 D, .int .i64 F, .int .i64 T, .int .i64 G1, .int .i64 M1, .int .i64 B1, .slice a1 n1 c1, .int .i64 G2, .int .i64 M2, .int .i64 B2, .slice a2 n2 c2], .int .i64 u] w fun e w' => e = .returned (.tuple #[.int .i64 (worN D F T G1 M1 B1 G2 M2 B2 t1 t2 u), .int .i64 (worE D F T G1 M1 B1 G2 M2 B2 t1 t2 u)]) ∧ Only (fun _ => False) w w' := by
  have HCK := Lib.hid (fun w' (ho : Only (fun _ => False) w w') => rcplan_any D F T G1 M1 B1 G2 M2 B2 a1 a2 n1 n2 c1 c2 t1 t2 w' (h1.only ho (fun _ _ f => f)) (h2.only ho (fun _ _ f => f)))
  have HDR := Lib.hid (fun w' (ho : Only (fun _ => False) w w') => rdear_any D F T G1 M1 B1 G2 M2 B2 a1 a2 n1 n2 c1 c2 t1 t2 w' (h1.only ho (fun _ _ f => f)) (h2.only ho (fun _ _ f => f)) hs)
  obtain ⟨W0, hW0⟩ : ∃ W0, W0 = w.alloc (.cells #[.int .i64 D, .int .i64 F, .int .i64 T, .int .i64 G1, .int .i64 M1, .int .i64 B1, .slice a1 n1 c1, .int .i64 G2, .int .i64 M2, .int .i64 B2, .slice a2 n2 c2] 37) := ⟨_, rfl⟩
  have HO0 : Hid (Only (fun _ => False) w W0) := Lib.hid (by rw [hW0]; exact (Only.refl _ w).alloc _)
  have HPA : Hid (PlanAt W0 w.heap.size D F T G1 M1 B1 G2 M2 B2 a1 a2 n1 n2 c1 c2) := Lib.hid (by rw [hW0]; exact PlanAt.new ..)
  clear h1 h2 hs
  have HNO := Lib.hid (fun (h : ¬ CanP D F T G1 M1 B1 G2 M2 B2 t1 t2 u) => wor_no h)
  have HYES := Lib.hid (fun (h : CanP D F T G1 M1 B1 G2 M2 B2 t1 t2 u) => And.intro (wor_yes h) (can_facts h))
  obtain ⟨P, hP⟩ : ∃ P, worN D F T G1 M1 B1 G2 M2 B2 t1 t2 u = P := ⟨_, rfl⟩
  obtain ⟨E, hE⟩ : ∃ E, worE D F T G1 M1 B1 G2 M2 B2 t1 t2 u = E := ⟨_, rfl⟩
  rw [hP, hE]
  rw [hP, hE] at HNO HYES
  clear hP hE
  go_enter Try.func93, Try.ntmps93
  obtain ⟨p0, p1, p2, p3, p4, p5, p6, p7, p8, p9, p10⟩ := HPA.out
  rw [hW0] at p0 p1 p2 p3 p4 p5 p6 p7 p8 p9 p10
  go_wp2_with fail
  rw [← hW0]
  clear hW0 p0 p1 p2 p3 p4 p5 p6 p7 p8 p9 p10
  refine (HCK.out _ HO0.out).mono ?_
  rintro _ w1 ⟨rfl, k1⟩
  have K1 := Lib.hid (HO0.out.trans k1)
  obtain ⟨p0, p1, p2, p3, p4, p5, p6, p7, p8, p9, p10⟩ := HPA.out.only k1 (fun f => f)
  clear k1
  by_cases hc : pchk D F T G1 M1 B1 G2 M2 B2 t1 t2 = 0
  rotate_left
  · obtain ⟨e1, e2⟩ := HNO.out (fun e => hc e.2.2)
    subst e1 e2
    have hb : (pchk D F T G1 M1 B1 G2 M2 B2 t1 t2 != 0) = true := by simpa using hc
    generalize pchk D F T G1 M1 B1 G2 M2 B2 t1 t2 = c at *
    clear hc HNO HYES HDR
    go_wp2_with fail
    go_ret2
    exact ⟨rfl, K1.out⟩
  rw [hc]
  by_cases u0 : u < 0
  · obtain ⟨e1, e2⟩ := HNO.out (fun e => by have := e.1; omega)
    subst e1 e2
    clear hc HNO HYES HDR
    go_wp2_with fail
    go_ret2
    exact ⟨rfl, K1.out⟩
  by_cases u1 : 1073741824 < u
  · obtain ⟨e1, e2⟩ := HNO.out (fun e => by have := e.2.1; omega)
    subst e1 e2
    clear hc HNO HYES HDR
    go_wp2_with fail
    go_ret2
    exact ⟨rfl, K1.out⟩
  obtain ⟨⟨e1, e2⟩, ⟨g1, g2⟩, ⟨b1, b2⟩, d1, d2⟩ := HYES.out ⟨by omega, by omega, hc⟩
  have HPK := Lib.hid e1
  subst e2
  clear e1
  obtain ⟨x1, x2⟩ := bk_in g1 b1
  have HAB := Lib.hid (fun w => rblocks_any u B1 (by omega) (by omega) w)
  rw [bok_yes g1 b1] at HAB
  have hM : bk u B1 * dearP t1 t2 ≤ 1073741824 * 1048576 := Int.mul_le_mul (by omega) d2 d1 (by omega)
  have hM0 : 0 ≤ bk u B1 * dearP t1 t2 := Int.mul_nonneg x1 d1
  clear hc HNO HYES
  generalize bk u B1 = k at *
  generalize dearP t1 t2 = d at *
  have v1 : wrap64 (k * d) = k * d := by rw [wrap64_eq]; omega
  have v2 : IntKind.i64.wrap (k * d) = k * d := by rw [wrap_i64]; omega
  go_wp2_with fail
  refine (HAB.out _).mono ?_
  rintro _ _ ⟨rfl, rfl⟩
  go_wp2_with fail
  refine (HDR.out _ K1.out).mono ?_
  rintro _ w2 ⟨rfl, k2⟩
  have K2 := Lib.hid (K1.out.trans k2)
  clear k2 p0 p1 p2 p3 p4 p5 p6 p7 p8 p9 p10
  go_wp2_with fail
  go_ret2
  exact ⟨by rw [HPK.out]; rfl, K2.out⟩

theorem wor_mono {D F T G1 M1 B1 G2 M2 B2 : Int} {t1 t2 : List Tr} {m n : Int} (h : CanP D F T G1 M1 B1 G2 M2 B2 t1 t2 n) (h0 : 0 ≤ m) (hm : m ≤ n) : worN D F T G1 M1 B1 G2 M2 B2 t1 t2 m ≤ worN D F T G1 M1 B1 G2 M2 B2 t1 t2 n := by
  obtain ⟨_, ⟨b1, _⟩, d1, _⟩ := can_facts h
  rw [(wor_yes h).1, (wor_yes (can_less h h0 hm)).1]
  exact Int.mul_le_mul_of_nonneg_right (bk_mono h0 hm b1) d1
/-- whoever lies between is what fits -/
theorem fit_is {D F T G1 M1 B1 G2 M2 B2 : Int} {t1 t2 : List Tr} {cr u x : Int} (h : ¬ FitNo D F T G1 M1 B1 G2 M2 B2 t1 t2 cr u) (x0 : 0 ≤ x) (x1 : x ≤ u) (hx : worN D F T G1 M1 B1 G2 M2 B2 t1 t2 x ≤ cr) (hn : x = u ∨ cr < worN D F T G1 M1 B1 G2 M2 B2 t1 t2 (x + 1)) : fitU D F T G1 M1 B1 G2 M2 B2 t1 t2 cr u = x ∧ fitC D F T G1 M1 B1 G2 M2 B2 t1 t2 cr u = worN D F T G1 M1 B1 G2 M2 B2 t1 t2 x ∧ fitE D F T G1 M1 B1 G2 M2 B2 t1 t2 cr u = 0 ∧ worE D F T G1 M1 B1 G2 M2 B2 t1 t2 x = 0 := by
  obtain ⟨e, n, c, e1, e2, f1, f2, f3, f4, f5, hc, f6, f7, f8⟩ := fit_facts h
  have hu : CanP D F T G1 M1 B1 G2 M2 B2 t1 t2 u := Decidable.byContradiction fun e => h (.inl e)
  have hxn : x = n := by
    rcases Int.lt_trichotomy x n with g | g | g
    · rcases hn with a | a
      · omega
      · have := wor_mono (m := x + 1) hc (by omega) (by omega)
        omega
    · exact g
    · rcases f8 with a | ⟨_, _, a⟩
      · omega
      · have := wor_mono (m := n + 1) (can_less hu x0 x1) (by omega) (by omega)
        omega
  subst hxn
  exact ⟨e1, by rw [e2, f6], e, f7⟩
theorem fit_start {D F T G1 M1 B1 G2 M2 B2 : Int} {t1 t2 : List Tr} {cr u : Int} (h : ¬ FitNo D F T G1 M1 B1 G2 M2 B2 t1 t2 cr u) : worN D F T G1 M1 B1 G2 M2 B2 t1 t2 0 ≤ cr ∧ 0 ≤ u ∧ u ≤ 1073741824 := by
  have hu : CanP D F T G1 M1 B1 G2 M2 B2 t1 t2 u := Decidable.byContradiction fun e => h (.inl e)
  have h0 : 0 ≤ cr := Int.not_lt.1 fun e => h (.inr e)
  have hz : bk 0 B1 = 0 := by unfold bk; split <;> simp
  rw [(wor_yes (can_less hu (Int.le_refl _) hu.1)).1, hz]
  exact ⟨by omega, hu.1, hu.2.1⟩
set_option maxRecDepth 100000 in
set_option maxHeartbeats 1000000 in
theorem rfit_any (D F T G1 M1 B1 G2 M2 B2 : Int) (a1 a2 : Option Addr) (n1 n2 c1 c2 : Nat) (t1 t2 : List Tr) (cr u : Int) (w : World) (h1 : ReadsT w a1 n1 t1) (h2 : ReadsT w a2 n2 t2) (hs : n1 ≤ 1000 ∧ n2 ≤ 1000) :
    Calls Try.prog 66 #[.agg #[.int .i64 D, .int .i64 F, .int .i64 T, .int .i64 G1, .int .i64 M1, .int .i64 B1, .slice a1 n1 c1, .int .i64 G2, .int .i64 M2, .int .i64 B2, .slice a2 n2 c2], .int .i64 cr, .int .i64 u] w fun e w' => e = .returned (.tuple #[.int .i64 (fitU D F T G1 M1 B1 G2 M2 B2 t1 t2 cr u), .int .i64 (fitC D F T G1 M1 B1 G2 M2 B2 t1 t2 cr u), .int .i64 (fitE D F T G1 M1 B1 G2 M2 B2 t1 t2 cr u)]) ∧ Only (fun _ => False) w w' := by
  have HCK := Lib.hid (fun w' (ho : Only (fun _ => False) w w') => rcplan_any D F T G1 M1 B1 G2 M2 B2 a1 a2 n1 n2 c1 c2 t1 t2 w' (h1.only ho (fun _ _ f => f)) (h2.only ho (fun _ _ f => f)))
  have HWO := Lib.hid (fun n w' (ho : Only (fun _ => False) w w') => rworst_any D F T G1 M1 B1 G2 M2 B2 a1 a2 n1 n2 c1 c2 t1 t2 n w' (h1.only ho (fun _ _ f => f)) (h2.only ho (fun _ _ f => f)) hs)
  obtain ⟨W0, hW0⟩ : ∃ W0, W0 = w.alloc (.cells #[.int .i64 D, .int .i64 F, .int .i64 T, .int .i64 G1, .int .i64 M1, .int .i64 B1, .slice a1 n1 c1, .int .i64 G2, .int .i64 M2, .int .i64 B2, .slice a2 n2 c2] 37) := ⟨_, rfl⟩
  have HO0 : Hid (Only (fun _ => False) w W0) := Lib.hid (by rw [hW0]; exact (Only.refl _ w).alloc _)
  have HPA : Hid (PlanAt W0 w.heap.size D F T G1 M1 B1 G2 M2 B2 a1 a2 n1 n2 c1 c2) := Lib.hid (by rw [hW0]; exact PlanAt.new ..)
  clear h1 h2 hs
  have HNO := Lib.hid (fun (h : FitNo D F T G1 M1 B1 G2 M2 B2 t1 t2 cr u) => fit_none h)
  have HST := Lib.hid (fun (h : ¬ FitNo D F T G1 M1 B1 G2 M2 B2 t1 t2 cr u) => fit_start h)
  have HFI := Lib.hid (fun x (h : ¬ FitNo D F T G1 M1 B1 G2 M2 B2 t1 t2 cr u) x0 x1 hx hn => fit_is (x := x) h x0 x1 hx hn)
  obtain ⟨PU, hU⟩ : ∃ P, fitU D F T G1 M1 B1 G2 M2 B2 t1 t2 cr u = P := ⟨_, rfl⟩
  obtain ⟨PC, hC⟩ : ∃ P, fitC D F T G1 M1 B1 G2 M2 B2 t1 t2 cr u = P := ⟨_, rfl⟩
  obtain ⟨PE, hE⟩ : ∃ P, fitE D F T G1 M1 B1 G2 M2 B2 t1 t2 cr u = P := ⟨_, rfl⟩
  rw [hU, hC, hE]
  rw [hU, hC, hE] at HNO HFI
  clear hU hC hE
  go_enter Try.func66, Try.ntmps66
  obtain ⟨p0, p1, p2, p3, p4, p5, p6, p7, p8, p9, p10⟩ := HPA.out
  rw [hW0] at p0 p1 p2 p3 p4 p5 p6 p7 p8 p9 p10
  go_wp2_with fail
  rw [← hW0]
  clear hW0 p0 p1 p2 p3 p4 p5 p6 p7 p8 p9 p10
  refine (HCK.out _ HO0.out).mono ?_
  rintro _ w1 ⟨rfl, k1⟩
  have K1 := Lib.hid (HO0.out.trans k1)
  have HP1 := Lib.hid (HPA.out.only k1 (fun f => f))
  clear k1
  by_cases hc : pchk D F T G1 M1 B1 G2 M2 B2 t1 t2 = 0
  rotate_left
  · obtain ⟨e1, e2, e3⟩ := HNO.out (.inl (fun e => hc e.2.2))
    subst e1 e2 e3
    have hb : (pchk D F T G1 M1 B1 G2 M2 B2 t1 t2 != 0) = true := by simpa using hc
    generalize pchk D F T G1 M1 B1 G2 M2 B2 t1 t2 = c at *
    clear hc HNO HST HFI HWO
    go_wp2_with fail
    go_ret3
    exact ⟨rfl, K1.out⟩
  rw [hc]
  by_cases u0 : u < 0
  · obtain ⟨e1, e2, e3⟩ := HNO.out (.inl (fun e => by have := e.1; omega))
    subst e1 e2 e3
    clear hc HNO HST HFI HWO
    go_wp2_with fail
    go_ret3
    exact ⟨rfl, K1.out⟩
  by_cases u1 : 1073741824 < u
  · obtain ⟨e1, e2, e3⟩ := HNO.out (.inl (fun e => by have := e.2.1; omega))
    subst e1 e2 e3
    clear hc HNO HST HFI HWO
    go_wp2_with fail
    go_ret3
    exact ⟨rfl, K1.out⟩
  by_cases r0 : cr < 0
  · obtain ⟨e1, e2, e3⟩ := HNO.out (.inr r0)
    subst e1 e2 e3
    clear hc HNO HST HFI HWO
    go_wp2_with fail
    go_ret3
    exact ⟨rfl, K1.out⟩
  have hf : ¬ FitNo D F T G1 M1 B1 G2 M2 B2 t1 t2 cr u := fun e => e.elim (fun e => e ⟨by omega, by omega, hc⟩) r0
  have HF0 := Lib.hid ((HST.out hf).1)
  have HFX := Lib.hid (fun x x0 x1 hx hn => HFI.out x hf x0 x1 hx hn)
  clear HNO HST HFI hc hf
  have hu0 : 0 ≤ u := by omega
  have hu1 : u ≤ 1073741824 := by omega
  generalize hwf : worN D F T G1 M1 B1 G2 M2 B2 t1 t2 = wf at *
  generalize hwe : worE D F T G1 M1 B1 G2 M2 B2 t1 t2 = we at *
  clear hwf hwe u0 u1
  go_wp2_with fail
  go_loopw [9, 10] (fun lo hi wr => ∃ (x y : Int), lo = .int .i64 x ∧ hi = .int .i64 y ∧ (0 ≤ x ∧ x ≤ y ∧ y ≤ u) ∧ Hid (wf x ≤ cr) ∧ Hid (y = u ∨ cr < wf (y + 1)) ∧ Hid (Only (fun _ => False) w1 wr)) (fun lo hi _ => (intOf hi - intOf lo).toNat)
  case atStart => exact ⟨0, u, rfl, rfl, by omega, HF0, Lib.hid (.inl rfl), Lib.hid (Only.refl _ _)⟩
  case round =>
    obtain ⟨x, y, rfl, rfl, ⟨q1, q2, q3⟩, HX, HY, HW⟩ := hrel
    obtain ⟨p0, p1, p2, p3, p4, p5, p6, p7, p8, p9, p10⟩ := HP1.out.only HW.out (fun f => f)
    by_cases h8 : x < y
    · obtain ⟨m, hm⟩ : ∃ m, x + (y - x + 1) / 2 = m := ⟨_, rfl⟩
      have s1 : wrap64 (y - x) = y - x := by rw [wrap64_eq]; omega
      have s2 : IntKind.i64.wrap (y - x) = y - x := by rw [wrap_i64]; omega
      have s3 : wrap64 (y - x + 1) = y - x + 1 := by rw [wrap64_eq]; omega
      have s4 : IntKind.i64.wrap (y - x + 1) = y - x + 1 := by rw [wrap_i64]; omega
      have s5 : (y - x + 1).tdiv 2 = (y - x + 1) / 2 := Int.tdiv_eq_ediv_of_nonneg (by omega)
      have s6 : IntKind.i64.wrap ((y - x + 1) / 2) = (y - x + 1) / 2 := by rw [wrap_i64]; omega
      have s7 : wrap64 (x + (y - x + 1) / 2) = m := by rw [wrap64_eq]; omega
      have s8 : IntKind.i64.wrap (x + (y - x + 1) / 2) = m := by rw [wrap_i64]; omega
      have s9 : wrap64 (m - 1) = m - 1 := by rw [wrap64_eq]; omega
      have s10 : IntKind.i64.wrap (m - 1) = m - 1 := by rw [wrap_i64]; omega
      have m1 : x < m := by omega
      have m2 : m ≤ y := by omega
      have HM := Lib.hid hm
      clear hm
      go_wp2_with fail
      refine (HWO.out m _ (K1.out.trans HW.out)).mono ?_
      rintro _ w3 ⟨rfl, k3⟩
      have K3 := Lib.hid (HW.out.trans k3)
      clear k3 p0 p1 p2 p3 p4 p5 p6 p7 p8 p9 p10
      by_cases hle : wf m ≤ cr
      · have HXN := Lib.hid hle
        have HKM := Lib.hid (And.intro m1 m2)
        generalize we m = em at *
        generalize hfm : wf m = fm at hle ⊢
        clear hfm
        go_wp2_with fail
        go_roundw
        case rel => exact ⟨m, y, rfl, rfl, by have := HKM.out; omega, HXN, HY, K3⟩
        case measure => simp [intOf]; have := HKM.out; omega
      · have HYN : Hid (m - 1 = u ∨ cr < wf (m - 1 + 1)) := Lib.hid (.inr (by rw [show m - 1 + 1 = m by omega]; omega))
        have HKM := Lib.hid (And.intro m1 m2)
        generalize we m = em at *
        generalize hfm : wf m = fm at hle ⊢
        clear hfm
        go_wp2_with fail
        go_roundw
        case rel => exact ⟨x, m - 1, rfl, by first | rfl | (rw [s10]), by have := HKM.out; omega, HX, HYN, K3⟩
        case measure => simp [intOf]; have := HKM.out; omega
    · obtain rfl : y = x := by omega
      obtain ⟨e1, e2, e3, e4⟩ := HFX.out y q1 q3 HX.out HY.out
      have HW9 := HWO.out y
      rw [e4, ← e2] at HW9
      have HW9' := Lib.hid HW9
      subst e3
      have HE1 := Lib.hid e1
      clear e1 e2 e4 HW9 HWO HFX
      go_wp2_with fail
      refine (HW9'.out _ (K1.out.trans HW.out)).mono ?_
      rintro _ w3 ⟨rfl, k3⟩
      have K3 := Lib.hid (K1.out.trans (HW.out.trans k3))
      clear k3 p0 p1 p2 p3 p4 p5 p6 p7 p8 p9 p10
      go_wp2_with fail
      go_ret3
      exact ⟨by rw [HE1.out]; rfl, K3.out⟩
end Go.Proofs.Ytghajamcjcflaaa.tirw
