/- RateFits's walk. -/
import Derived.Test.YtonacdjaimokeaaRatS
namespace Go.Proofs.Ytonacdjaimokeaa.tirw
open Go.RowKit mem tirm intm bigm bigw
set_option linter.unusedVariables false

theorem TiersR.only {w w' : World} {a : Option Addr} {len cap : Nat} {ts : List Tr} (h : TiersR w a len cap ts) (ho : Only (fun _ => False) w w') : TiersR w' a len cap ts := ⟨h.1.only ho (fun _ _ f => f), h.2⟩
set_option maxRecDepth 100000 in
set_option maxHeartbeats 1000000 in
theorem rfits_any (D F T G1 M1 B1 G2 M2 B2 : Int) (a1 a2 : Option Addr) (n1 n2 c1 c2 : Nat) (t1 t2 : List Tr) (cr u : Int) (w : World) (h1 : TiersR w a1 n1 c1 t1) (h2 : TiersR w a2 n2 c2 t2) (hcr : cr ≤ 9223372036854775807) :
    Calls Try.prog 5 #[.agg #[.int .i64 D, .int .i64 F, .int .i64 T, .int .i64 G1, .int .i64 M1, .int .i64 B1, .slice a1 n1 c1, .int .i64 G2, .int .i64 M2, .int .i64 B2, .slice a2 n2 c2], .int .i64 cr, .int .i64 u] w fun e w' => e = .returned (.bool true) ∧ Only (fun _ => False) w w' := by
  obtain ⟨W0, hW0⟩ : ∃ W0, W0 = w.alloc (.cells #[.int .i64 D, .int .i64 F, .int .i64 T, .int .i64 G1, .int .i64 M1, .int .i64 B1, .slice a1 n1 c1, .int .i64 G2, .int .i64 M2, .int .i64 B2, .slice a2 n2 c2] 26) := ⟨_, rfl⟩
  have HO0 : Hid (Only (fun _ => False) w W0 ∧ W0.heap.size = w.heap.size + 1) := Lib.hid (by rw [hW0]; exact ⟨(Only.refl _ w).alloc _, by simp⟩)
  have HP : Hid (BoxV W0 w.heap.size (plV D F T G1 M1 B1 G2 M2 B2 a1 a2 n1 n2 c1 c2)) := Lib.hid (by rw [hW0]; exact BoxV.new w (plV D F T G1 M1 B1 G2 M2 B2 a1 a2 n1 n2 c1 c2) _ _ rfl)
  have HTM := Lib.hid (ptame_any D F T G1 M1 B1 G2 M2 B2 a1 a2 n1 n2 c1 c2 t1 t2 W0 (h1.only HO0.out.1) (h2.only HO0.out.1))
  clear h1 h2
  generalize t1.take (min n1 9) = s1 at *
  generalize t2.take (min n2 9) = s2 at *
  go_enter Try.func5, Try.ntmps5
  obtain ⟨⟨p0, p1, p2, p3, p4, p5, p6, p7, p8, p9, p10⟩, _⟩ := HP.out.all
  rw [hW0] at p0 p1 p2 p3 p4 p5 p6 p7 p8 p9 p10
  go_wp2_with fail
  rw [← hW0]
  clear hW0 p0 p1 p2 p3 p4 p5 p6 p7 p8 p9 p10
  refine HTM.out.mono ?_
  rintro _ w1 ⟨a3, a4, q3, q4, rfl, hr3, hr4, k1, hb3, hb4⟩
  have HB1 := HP.out.only k1 (fun f => f)
  obtain ⟨W2, HP2, HO2, hW2⟩ := plan_put HB1 rfl D F T G1 M1 B1 G2 M2 B2 a3 a4 s1.length s2.length q3 q4
  have HR3 : Hid (ReadsT W2 a3 s1.length s1) := Lib.hid (hr3.only HO2 (fun y hy e => by have := hb3 y hy; have := HO0.out.2; have e' : y.block = w.heap.size := e; omega))
  have HR4 : Hid (ReadsT W2 a4 s2.length s2) := Lib.hid (hr4.only HO2 (fun y hy e => by have := hb4 y hy; have := HO0.out.2; have e' : y.block = w.heap.size := e; omega))
  have HOW : Hid (Only (fun _ => False) w W2) := Lib.hid ((HO0.out.1.trans k1).then HO2 (fun q hq e => by have e' : q = w.heap.size := e; omega))
  have HPB := Lib.hid HP2
  have HTO := Lib.hid (fun w' => to_any D F T G1 M1 B1 G2 M2 B2 a3 a4 s1.length s2.length q3 q4 w')
  have HFT := Lib.hid (fun w' (ho : Only (fun _ => False) W2 w') => fit_any D F T G1 M1 B1 G2 M2 B2 a3 a4 s1.length s2.length q3 q4 s1 s2 cr u w' (HR3.out.only ho (fun _ _ f => f)) (HR4.out.only ho (fun _ _ f => f)) hcr)
  have HWO := Lib.hid (fun n w' (ho : Only (fun _ => False) W2 w') => worst_any D F T G1 M1 B1 G2 M2 B2 a3 a4 s1.length s2.length q3 q4 s1 s2 n w' (HR3.out.only ho (fun _ _ f => f)) (HR4.out.only ho (fun _ _ f => f)))
  obtain ⟨⟨z0, z1, z2, z3, z4, z5, z6, z7, z8, z9, z10⟩, y0, y1, y2, y3, y4, y5, y6, y7, y8, y9, y10⟩ := HB1.all
  obtain ⟨⟨p0, p1, p2, p3, p4, p5, p6, p7, p8, p9, p10⟩, _⟩ := HP2.all
  rw [hW2] at p0 p1 p2 p3 p4 p5 p6 p7 p8 p9 p10
  clear hr3 hr4 k1 hb3 hb4 HB1 HO2 HP2
  go_wp2_with fail
  rw [← hW2]
  clear hW2 p0 p1 p2 p3 p4 p5 p6 p7 p8 p9 p10 z0 z1 z2 z3 z4 z5 z6 z7 z8 z9 z10 y0 y1 y2 y3 y4 y5 y6 y7 y8 y9 y10
  refine (HTO.out _).mono ?_
  rintro _ w3 ⟨rfl, k3⟩
  have K3 := Lib.hid k3
  clear k3
  go_wp2_with fail
  refine (HFT.out _ K3.out).mono ?_
  rintro _ w4 ⟨rfl, k4⟩
  have K4 := Lib.hid (K3.out.trans k4)
  clear k4
  by_cases hf : FitNo D F T G1 M1 B1 G2 M2 B2 s1 s2 cr u
  · obtain ⟨e1, e2, e3⟩ := fit_none hf
    rw [e1, e2, e3]
    clear e1 e2 e3 hf
    go_wp2_with fail
    refine (rates_any _).mono ?_
    rintro _ w5 ⟨rfl, k5⟩
    have K5 := Lib.hid (K4.out.trans k5)
    clear k5
    go_wp2_with fail
    refine (rates_any _).mono ?_
    rintro _ w6 ⟨rfl, k6⟩
    have K6 := Lib.hid (K5.out.trans k6)
    clear k6
    go_wp2_with fail
    go_ret
    exact ⟨rfl, HOW.out.trans K6.out⟩
  · obtain ⟨e3, n, c, e1, e2, f1, f2, f3, f4, f5, hcn, f6, f7, f8⟩ := fit_facts hf
    rw [e1, e2, e3]
    have HW1 := HWO.out n
    rw [f6, f7] at HW1
    have HW1' := Lib.hid HW1
    clear e1 e2 e3 hf HW1 hcn f6 f7
    go_wp2_with fail
    refine (rates_any _).mono ?_
    rintro _ w5 ⟨rfl, k5⟩
    have K5 := Lib.hid (K4.out.trans k5)
    clear k5
    obtain ⟨⟨p0, p1, p2, p3, p4, p5, p6, p7, p8, p9, p10⟩, _⟩ := (HPB.out.only K5.out (fun f => f)).all
    go_wp2_with fail
    refine (HTO.out _).mono ?_
    rintro _ w6 ⟨rfl, k6⟩
    have K6 := Lib.hid (K5.out.trans k6)
    clear k6 p0 p1 p2 p3 p4 p5 p6 p7 p8 p9 p10
    go_wp2_with fail
    refine (HW1'.out _ K6.out).mono ?_
    rintro _ w7 ⟨rfl, k7⟩
    have K7 := Lib.hid (K6.out.trans k7)
    clear k7
    have b1 : (c != c) = false := by simp
    have b2 : ¬ cr < c := by omega
    have b3 : ¬ n < 0 := by omega
    have b4 : ¬ u < n := by omega
    obtain ⟨⟨p0, p1, p2, p3, p4, p5, p6, p7, p8, p9, p10⟩, _⟩ := (HPB.out.only K7.out (fun f => f)).all
    rcases f8 with e | ⟨g1, g2, g3⟩
    · subst e
      have b5 : (n == n) = true := by simp
      go_wp2_with fail
      go_ret
      exact ⟨rfl, HOW.out.trans K7.out⟩
    · have b5 : (n == u) = false := by simpa using (show ¬ n = u by omega)
      have v1 : wrap64 (n + 1) = n + 1 := by rw [wrap64_eq]; omega
      have v2 : IntKind.i64.wrap (n + 1) = n + 1 := by rw [wrap_i64]; omega
      have HW2 := HWO.out (n + 1)
      rw [g2] at HW2
      have HW2' := Lib.hid HW2
      have g3' : decide (cr < worN D F T G1 M1 B1 G2 M2 B2 s1 s2 (n + 1)) = true := decide_eq_true g3
      generalize worN D F T G1 M1 B1 G2 M2 B2 s1 s2 (n + 1) = m at *
      clear g2 HW2
      go_wp2_with fail
      refine (HTO.out _).mono ?_
      rintro _ w8 ⟨rfl, k8⟩
      have K8 := Lib.hid (K7.out.trans k8)
      clear k8 p0 p1 p2 p3 p4 p5 p6 p7 p8 p9 p10
      go_wp2_with fail
      refine (HW2'.out _ K8.out).mono ?_
      rintro _ w9 ⟨rfl, k9⟩
      have K9 := Lib.hid (K8.out.trans k9)
      clear k9
      go_wp2_with fail
      go_ret
      exact ⟨rfl, HOW.out.trans K9.out⟩
theorem rfits_walk (D F T G1 M1 B1 G2 M2 B2 : Int) (a1 a2 : Option Addr) (n1 n2 c1 c2 : Nat) (t1 t2 : List Tr) (cr u : Int) (w : World) (h1 : TiersR w a1 n1 c1 t1) (h2 : TiersR w a2 n2 c2 t2) (hcr : InI cr) :
    Calls Try.prog 5 #[.agg #[.int .i64 D, .int .i64 F, .int .i64 T, .int .i64 G1, .int .i64 M1, .int .i64 B1, .slice a1 n1 c1, .int .i64 G2, .int .i64 M2, .int .i64 B2, .slice a2 n2 c2], .int .i64 cr, .int .i64 u] w fun e w' => e = .returned (.bool true) ∧ Below w.heap.size w w' :=
  (rfits_any D F T G1 M1 B1 G2 M2 B2 a1 a2 n1 n2 c1 c2 t1 t2 cr u w h1 h2 (by unfold InI at hcr; omega)).mono fun _ _ ⟨h1, h2⟩ => ⟨h1, h2.none⟩
end Go.Proofs.Ytonacdjaimokeaa.tirw
