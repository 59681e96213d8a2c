/- RateTells's walk. -/
import Derived.Test.YtonacdjaimokeaaRatRr
namespace Go.Proofs.Ytonacdjaimokeaa.tirw
open Go.RowKit mem tirm intm bigm bigw
set_option linter.unusedVariables false

set_option maxRecDepth 100000 in
set_option maxHeartbeats 4000000 in
theorem rtells_any (D F T G1 M1 B1 G2 M2 B2 : Int) (a1 a2 : Option Addr) (n1 n2 c1 c2 : Nat) (t1 t2 : List Tr) (now pos u cr  : Int) (w : World) (h1 : TiersR w a1 n1 c1 t1) (h2 : TiersR w a2 n2 c2 t2) (hx : now ≤ 9223372036854775807) (hcr : cr ≤ 9223372036854775807) :
    Calls Try.prog 3 #[.agg #[.int .i64 D, .int .i64 F, .int .i64 T, .int .i64 G1, .int .i64 M1, .int .i64 B1, .slice a1 n1 c1, .int .i64 G2, .int .i64 M2, .int .i64 B2, .slice a2 n2 c2], .agg #[.int .i64 now, .int .i64 pos, .int .i64 u, .int .i64 cr]] w fun e w' => e = .returned (.bool true) ∧ Only (fun _ => False) w w' := by
  obtain ⟨W0, hW0⟩ : ∃ W0, W0 = (w.alloc (.cells #[.int .i64 D, .int .i64 F, .int .i64 T, .int .i64 G1, .int .i64 M1, .int .i64 B1, .slice a1 n1 c1, .int .i64 G2, .int .i64 M2, .int .i64 B2, .slice a2 n2 c2] 26)).alloc (.cells #[.int .i64 now, .int .i64 pos, .int .i64 u, .int .i64 cr] 28) := ⟨_, rfl⟩
  have HO0 : Hid (Only (fun _ => False) w W0 ∧ W0.heap.size = w.heap.size + 2) := Lib.hid (by rw [hW0]; exact ⟨((Only.refl _ w).alloc _).alloc _, by simp⟩)
  have HP : Hid (BoxV W0 w.heap.size (plV D F T G1 M1 B1 G2 M2 B2 a1 a2 n1 n2 c1 c2)) := Lib.hid (by rw [hW0]; exact (BoxV.new w (plV D F T G1 M1 B1 G2 M2 B2 a1 a2 n1 n2 c1 c2) _ _ rfl).only ((Only.refl (fun _ => False) _).alloc _) (fun f => f))
  have HA : Hid (BoxV W0 (w.heap.size + 1) [.int .i64 now, .int .i64 pos, .int .i64 u, .int .i64 cr]) := Lib.hid (by rw [hW0]; exact BoxV.new _ [.int .i64 now, .int .i64 pos, .int .i64 u, .int .i64 cr] _ _ (by simp))
  have HTM := Lib.hid (ptame_any D F T G1 M1 B1 G2 M2 B2 a1 a2 n1 n2 c1 c2 t1 t2 W0 (h1.only HO0.out.1) (h2.only HO0.out.1))
  have HL9 : Hid ((t1.take (min n1 9)).length ≤ 1000 ∧ (t2.take (min n2 9)).length ≤ 1000) := Lib.hid (by rw [List.length_take, List.length_take]; omega)
  clear h1 h2
  generalize t1.take (min n1 9) = s1 at *
  generalize t2.take (min n2 9) = s2 at *
  go_enter Try.func3, Try.ntmps3
  obtain ⟨⟨p0, p1, p2, p3, p4, p5, p6, p7, p8, p9, p10⟩, _⟩ := HP.out.all
  rw [hW0] at p0 p1 p2 p3 p4 p5 p6 p7 p8 p9 p10
  go_wp2_with fail
  rw [← hW0]
  clear hW0 p0 p1 p2 p3 p4 p5 p6 p7 p8 p9 p10
  refine HTM.out.mono ?_
  rintro _ w1 ⟨a3, a4, q3, q4, rfl, hr3, hr4, k1, hb3, hb4⟩
  have HB1 := HP.out.only k1 (fun f => f)
  obtain ⟨W2, HP2, HO2, hW2⟩ := plan_put HB1 rfl D F T G1 M1 B1 G2 M2 B2 a3 a4 s1.length s2.length q3 q4
  have HR3 : Hid (ReadsT W2 a3 s1.length s1) := Lib.hid (hr3.only HO2 (fun y hy e => by have := hb3 y hy; have := HO0.out.2; have e' : y.block = w.heap.size := e; omega))
  have HR4 : Hid (ReadsT W2 a4 s2.length s2) := Lib.hid (hr4.only HO2 (fun y hy e => by have := hb4 y hy; have := HO0.out.2; have e' : y.block = w.heap.size := e; omega))
  have HOW : Hid (Only (fun _ => False) w W2) := Lib.hid ((HO0.out.1.trans k1).then HO2 (fun q hq e => by have e' : q = w.heap.size := e; omega))
  have HA2 : Hid (BoxV W2 (w.heap.size + 1) [.int .i64 now, .int .i64 pos, .int .i64 u, .int .i64 cr]) := Lib.hid ((HA.out.only k1 (fun f => f)).only HO2 (fun e => by have e' : w.heap.size + 1 = w.heap.size := e; omega))
  have HPB := Lib.hid HP2
  have HTO := Lib.hid (fun w' => to_any D F T G1 M1 B1 G2 M2 B2 a3 a4 s1.length s2.length q3 q4 w')
  have HRT := Lib.hid (fun w' (ho : Only (fun _ => False) W2 w') => rate_any D F T G1 M1 B1 G2 M2 B2 a3 a4 s1.length s2.length q3 q4 s1 s2 now pos u w' (HR3.out.only ho (fun _ _ f => f)) (HR4.out.only ho (fun _ _ f => f)) hx)
  have HRR := Lib.hid (fun w' (ho : Only (fun _ => False) W2 w') => rrate_any D F T G1 M1 B1 G2 M2 B2 a3 a4 s1.length s2.length q3 q4 s1 s2 now pos u w' (HR3.out.only ho (fun _ _ f => f)) (HR4.out.only ho (fun _ _ f => f)) hx)
  have HWO := Lib.hid (fun w' (ho : Only (fun _ => False) W2 w') => worst_any D F T G1 M1 B1 G2 M2 B2 a3 a4 s1.length s2.length q3 q4 s1 s2 u w' (HR3.out.only ho (fun _ _ f => f)) (HR4.out.only ho (fun _ _ f => f)))
  have HRW := Lib.hid (fun w' (ho : Only (fun _ => False) W2 w') => rworst_any D F T G1 M1 B1 G2 M2 B2 a3 a4 s1.length s2.length q3 q4 s1 s2 u w' (HR3.out.only ho (fun _ _ f => f)) (HR4.out.only ho (fun _ _ f => f)) HL9.out)
  have HFT := Lib.hid (fun w' (ho : Only (fun _ => False) W2 w') => fit_any D F T G1 M1 B1 G2 M2 B2 a3 a4 s1.length s2.length q3 q4 s1 s2 cr u w' (HR3.out.only ho (fun _ _ f => f)) (HR4.out.only ho (fun _ _ f => f)) hcr)
  have HRF := Lib.hid (fun w' (ho : Only (fun _ => False) W2 w') => rfit_any D F T G1 M1 B1 G2 M2 B2 a3 a4 s1.length s2.length q3 q4 s1 s2 cr u w' (HR3.out.only ho (fun _ _ f => f)) (HR4.out.only ho (fun _ _ f => f)) HL9.out)
  have HLN := Lib.hid (ra_len D F T G1 M1 B1 G2 M2 B2 s1 s2 now pos u)
  generalize raL D F T G1 M1 B1 G2 M2 B2 s1 s2 now pos u = L at *
  generalize raK D F T G1 M1 B1 G2 M2 B2 s1 s2 now pos u = rk at *
  generalize raP D F T G1 M1 B1 G2 M2 B2 s1 s2 now pos u = rp at *
  generalize raE D F T G1 M1 B1 G2 M2 B2 s1 s2 now pos u = re at *
  generalize worN D F T G1 M1 B1 G2 M2 B2 s1 s2 u = wv at *
  generalize worE D F T G1 M1 B1 G2 M2 B2 s1 s2 u = we at *
  generalize fitU D F T G1 M1 B1 G2 M2 B2 s1 s2 cr u = fu at *
  generalize fitC D F T G1 M1 B1 G2 M2 B2 s1 s2 cr u = fc at *
  generalize fitE D F T G1 M1 B1 G2 M2 B2 s1 s2 cr u = fe at *
  generalize costB L = cb at *
  obtain ⟨⟨z0, z1, z2, z3, z4, z5, z6, z7, z8, z9, z10⟩, y0, y1, y2, y3, y4, y5, y6, y7, y8, y9, y10⟩ := HB1.all
  obtain ⟨⟨p0, p1, p2, p3, p4, p5, p6, p7, p8, p9, p10⟩, _⟩ := HP2.all
  rw [hW2] at p0 p1 p2 p3 p4 p5 p6 p7 p8 p9 p10
  clear hr3 hr4 k1 hb3 hb4 HB1 HO2 HP2
  go_wp2_with fail
  rw [← hW2]
  clear hW2 p0 p1 p2 p3 p4 p5 p6 p7 p8 p9 p10 z0 z1 z2 z3 z4 z5 z6 z7 z8 z9 z10 y0 y1 y2 y3 y4 y5 y6 y7 y8 y9 y10
  refine (HTO.out _).mono ?_
  rintro _ w3 ⟨rfl, k3⟩
  obtain ⟨W4, hW4⟩ : ∃ W, W = w3.alloc (.cells #[.int .i64 D, .int .i64 F, .int .i64 T, .int .i64 G1, .int .i64 M1, .int .i64 B1, .slice a3 s1.length q3, .int .i64 G2, .int .i64 M2, .int .i64 B2, .slice a4 s2.length q4] 30) := ⟨_, rfl⟩
  have K4 : Hid (Only (fun _ => False) W2 W4) := Lib.hid (by rw [hW4]; exact k3.alloc _)
  have HQB : Hid (PlanAt W4 w3.heap.size D F T G1 M1 B1 G2 M2 B2 a3 a4 s1.length s2.length q3 q4) := Lib.hid (by rw [hW4]; exact PlanAt.new ..)
  clear k3
  obtain ⟨p0, p1, p2, p3, p4, p5, p6, p7, p8, p9, p10⟩ := HQB.out.only (Only.refl (fun _ => False) _) (fun f => f)
  rw [hW4] at p0 p1 p2 p3 p4 p5 p6 p7 p8 p9 p10
  have ha := HA2.out.only K4.out (fun f => f)
  have x0 := (ha 0 _ rfl).1
  have x1 := (ha 1 _ rfl).1
  have x2 := (ha 2 _ rfl).1
  clear ha
  rw [hW4] at x0 x1 x2
  go_wp2_with fail
  rw [← hW4]
  clear p0 p1 p2 p3 p4 p5 p6 p7 p8 p9 p10 x0 x1 x2 hW4
  refine (HRT.out _ K4.out).mono ?_
  rintro _ w5 ⟨al, cl, rfl, hrd, k5⟩
  obtain ⟨W6, hb6, hW6⟩ := rbox_new k5 cl rk cb rp 34 hrd
  have KQ6 := Lib.hid hb6.2.2.2
  have K6 := Lib.hid (K4.out.trans hb6.2.2.2)
  have HX6 := Lib.hid hb6
  clear k5 hrd hb6
  obtain ⟨p0, p1, p2, p3, p4, p5, p6, p7, p8, p9, p10⟩ := (HPB.out.only K6.out (fun f => f)).all.1
  rw [hW6] at p0 p1 p2 p3 p4 p5 p6 p7 p8 p9 p10
  have ha := HA2.out.only K6.out (fun f => f)
  have x0 := (ha 0 _ rfl).1
  have x1 := (ha 1 _ rfl).1
  have x2 := (ha 2 _ rfl).1
  clear ha
  rw [hW6] at x0 x1 x2
  go_wp2_with fail
  rw [← hW6]
  clear p0 p1 p2 p3 p4 p5 p6 p7 p8 p9 p10 x0 x1 x2 hW6
  refine (HRR.out _ K6.out).mono ?_
  rintro _ w7 ⟨am, cm, rfl, hrd, k7⟩
  obtain ⟨W8, hb8, hW8⟩ := rbox_new k7 cm rk cb rp 38 hrd
  have K8 := Lib.hid (K6.out.trans hb8.2.2.2)
  have KQ8 := Lib.hid (KQ6.out.trans hb8.2.2.2)
  have HX8 := Lib.hid (HX6.out.only hb8.2.2.2)
  have HY8 := Lib.hid hb8
  clear k7 hrd hb8 HX6
  obtain ⟨p0, p1, p2, p3, p4, p5, p6, p7, p8, p9, p10⟩ := HQB.out.only KQ8.out (fun f => f)
  rw [hW8] at p0 p1 p2 p3 p4 p5 p6 p7 p8 p9 p10
  have ha := HA2.out.only K8.out (fun f => f)
  have x2 := (ha 2 _ rfl).1
  clear ha
  rw [hW8] at x2
  go_wp2_with fail
  rw [← hW8]
  clear p0 p1 p2 p3 p4 p5 p6 p7 p8 p9 p10 x2 hW8
  refine (HWO.out _ K8.out).mono ?_
  rintro _ w9 ⟨rfl, k9⟩
  have K9 := Lib.hid (K8.out.trans k9)
  have KQ9 := Lib.hid (KQ8.out.trans k9)
  have KX9 := Lib.hid k9
  clear k9
  obtain ⟨p0, p1, p2, p3, p4, p5, p6, p7, p8, p9, p10⟩ := (HPB.out.only K9.out (fun f => f)).all.1
  have ha := HA2.out.only K9.out (fun f => f)
  have x2 := (ha 2 _ rfl).1
  clear ha
  go_wp2_with fail
  clear p0 p1 p2 p3 p4 p5 p6 p7 p8 p9 p10 x2
  refine (HRW.out _ K9.out).mono ?_
  rintro _ w10 ⟨rfl, k10⟩
  have K10 := Lib.hid (K9.out.trans k10)
  have KQ10 := Lib.hid (KQ9.out.trans k10)
  have KX10 := Lib.hid (KX9.out.trans k10)
  clear k10
  obtain ⟨p0, p1, p2, p3, p4, p5, p6, p7, p8, p9, p10⟩ := HQB.out.only KQ10.out (fun f => f)
  have ha := HA2.out.only K10.out (fun f => f)
  have x2 := (ha 2 _ rfl).1
  have x3 := (ha 3 _ rfl).1
  clear ha
  go_wp2_with fail
  clear p0 p1 p2 p3 p4 p5 p6 p7 p8 p9 p10 x2 x3
  refine (HFT.out _ K10.out).mono ?_
  rintro _ w11 ⟨rfl, k11⟩
  have K11 := Lib.hid (K10.out.trans k11)
  have KX11 := Lib.hid (KX10.out.trans k11)
  clear k11
  obtain ⟨p0, p1, p2, p3, p4, p5, p6, p7, p8, p9, p10⟩ := (HPB.out.only K11.out (fun f => f)).all.1
  have ha := HA2.out.only K11.out (fun f => f)
  have x2 := (ha 2 _ rfl).1
  have x3 := (ha 3 _ rfl).1
  clear ha
  go_wp2_with fail
  clear p0 p1 p2 p3 p4 p5 p6 p7 p8 p9 p10 x2 x3
  refine (HRF.out _ K11.out).mono ?_
  rintro _ w12 ⟨rfl, k12⟩
  have K12 := Lib.hid (K11.out.trans k12)
  have KX12 := Lib.hid (KX11.out.trans k12)
  clear k12
  go_wp2_with fail
  refine (rates_any _).mono ?_
  rintro _ w13 ⟨rfl, k13⟩
  have K13 := Lib.hid (K12.out.trans k13)
  have hX := HX8.out.only (KX12.out.trans k13)
  have hY := HY8.out.only (KX12.out.trans k13)
  have hr1 := Lib.hid hX.2.1
  have hr2 := Lib.hid hY.2.1
  have HX := Lib.hid hX
  have HY := Lib.hid hY
  obtain ⟨r0, r1, r2, r3⟩ := hX.all
  obtain ⟨v0, v1, v2, v3⟩ := hY.all
  have e1 : (re == re) = true := by simp
  clear k13 hX hY
  go_wp2_with fail
  refine (lsame_yes _ _ _ _ _ L _ hr1.out hr2.out HLN.out.1).mono ?_
  rintro _ w14 ⟨rfl, k14⟩
  have K14 := Lib.hid (HOW.out.trans (K13.out.trans k14))
  clear r0 r1 r2 r3 v0 v1 v2 v3
  obtain ⟨r0, r1, r2, r3⟩ := (HX.out.only k14).all
  obtain ⟨v0, v1, v2, v3⟩ := (HY.out.only k14).all
  have e2 : (rk == rk) = true := by simp
  have e3 : (cb == cb) = true := by simp
  have e4 : (rp == rp) = true := by simp
  have e5 : (wv == wv) = true := by simp
  have e6 : (we == we) = true := by simp
  have e7 : (fu == fu) = true := by simp
  have e8 : (fc == fc) = true := by simp
  have e9 : (fe == fe) = true := by simp
  clear k14
  go_wp2_with fail
  go_ret
  exact ⟨rfl, K14.out⟩
theorem rtells_walk (D F T G1 M1 B1 G2 M2 B2 : Int) (a1 a2 : Option Addr) (n1 n2 c1 c2 : Nat) (t1 t2 : List Tr) (now pos u cr : Int) (w : World) (h1 : TiersR w a1 n1 c1 t1) (h2 : TiersR w a2 n2 c2 t2) (hx : InI now) (hcr : InI cr) :
    Calls Try.prog 3 #[.agg #[.int .i64 D, .int .i64 F, .int .i64 T, .int .i64 G1, .int .i64 M1, .int .i64 B1, .slice a1 n1 c1, .int .i64 G2, .int .i64 M2, .int .i64 B2, .slice a2 n2 c2], .agg #[.int .i64 now, .int .i64 pos, .int .i64 u, .int .i64 cr]] w fun e w' => e = .returned (.bool true) ∧ Below w.heap.size w w' :=
  (rtells_any D F T G1 M1 B1 G2 M2 B2 a1 a2 n1 n2 c1 c2 t1 t2 now pos u cr w h1 h2 (by unfold InI at hx; omega) (by unfold InI at hcr; omega)).mono fun _ _ ⟨h1, h2⟩ => ⟨h1, h2.none⟩
end Go.Proofs.Ytonacdjaimokeaa.tirw
