/- Grants: the document's Make; are two the same; GrantMakes's walk. -/
import Derived.Test.YtonacdjaimokeaaGrD
import Derived.Test.YtonacdjaimokeaaRatRw
namespace Go.Proofs.Ytonacdjaimokeaa.tirw
open Go.RowKit mem tirm intm bigm bigw
set_option linter.unusedVariables false

set_option maxRecDepth 100000 in
set_option maxHeartbeats 1000000 in
theorem rmake_any (D F T G1 M1 B1 G2 M2 B2 : Int) (a1 a2 : Option Addr) (n1 n2 c1 c2 : Nat) (t1 t2 : List Tr) (cr u : Int) (w : World) (h1 : ReadsT w a1 n1 t1) (h2 : ReadsT w a2 n2 t2) (hs : n1 ≤ 1000 ∧ n2 ≤ 1000) :
    Calls Try.prog 42 #[.agg #[.int .i64 D, .int .i64 F, .int .i64 T, .int .i64 G1, .int .i64 M1, .int .i64 B1, .slice a1 n1 c1, .int .i64 G2, .int .i64 M2, .int .i64 B2, .slice a2 n2 c2], .int .i64 cr, .int .i64 u] w fun e w' => e = .returned (.tuple #[(mkG D F T G1 M1 B1 G2 M2 B2 t1 t2 cr u).val, .int .i64 (mkE D F T G1 M1 B1 G2 M2 B2 t1 t2 cr u)]) ∧ Only (fun _ => False) w w' := by
  have HFT := Lib.hid (fun w' (ho : Only (fun _ => False) w w') => rfit_any D F T G1 M1 B1 G2 M2 B2 a1 a2 n1 n2 c1 c2 t1 t2 cr u w' (h1.only ho (fun _ _ f => f)) (h2.only ho (fun _ _ f => f)) hs)
  obtain ⟨W0, hW0⟩ : ∃ W0, W0 = (w.alloc (.cells #[.int .i64 D, .int .i64 F, .int .i64 T, .int .i64 G1, .int .i64 M1, .int .i64 B1, .slice a1 n1 c1, .int .i64 G2, .int .i64 M2, .int .i64 B2, .slice a2 n2 c2] 26)).alloc (.cells #[.int .i64 0, .int .i64 0, .int .i64 0, .bool false] 75) := ⟨_, rfl⟩
  have HO0 : Hid (Only (fun _ => False) w W0 ∧ W0.heap.size = w.heap.size + 2) := Lib.hid (by rw [hW0]; exact ⟨((Only.refl _ w).alloc _).alloc _, by simp⟩)
  have HPA : Hid (PlanAt W0 w.heap.size D F T G1 M1 B1 G2 M2 B2 a1 a2 n1 n2 c1 c2) := Lib.hid (by rw [hW0]; exact (PlanAt.new ..).only ((Only.refl (fun _ => False) _).alloc _) (fun f => f))
  have HFR : Hid (Four W0 (w.heap.size + 1)) := Lib.hid (by rw [hW0]; exact Four.new (by simp))
  clear h1 h2
  unfold mkG mkE
  by_cases hf : FitNo D F T G1 M1 B1 G2 M2 B2 t1 t2 cr u
  · have hm : MkNo D F T G1 M1 B1 G2 M2 B2 t1 t2 cr u := .inl hf
    rw [if_pos hm, if_pos hm]
    obtain ⟨e1, e2, e3⟩ := fit_none hf
    rw [e1, e2, e3] at HFT
    clear hf hm e1 e2 e3
    go_enter Try.func42, Try.ntmps42
    obtain ⟨p0, p1, p2, p3, p4, p5, p6, p7, p8, p9, p10⟩ := HPA.out
    rw [hW0] at p0 p1 p2 p3 p4 p5 p6 p7 p8 p9 p10
    go_wp2_with fail
    rw [← hW0]
    clear hW0 p0 p1 p2 p3 p4 p5 p6 p7 p8 p9 p10
    refine (HFT.out _ HO0.out.1).mono ?_
    rintro _ w1 ⟨rfl, k1⟩
    have K1 := Lib.hid (HO0.out.1.trans k1)
    obtain ⟨p0, p1, p2, p3, p4, p5, p6, p7, p8, p9, p10⟩ := HPA.out.only k1 (fun f => f)
    have HR4 := HFR.out.only k1 (fun f => f)
    have HE := Lib.hid (HR4.set (.int .i64 0) (.int .i64 0) (.int .i64 0) (.bool false))
    obtain ⟨⟨_, r0⟩, ⟨_, r1⟩, ⟨_, r2⟩, ⟨_, r3⟩, g0, g1, g2, g3⟩ := HR4
    clear k1
    go_wp2_with fail
    refine bodyPost_ret (v := .tuple #[.agg #[.int .i64 0, .int .i64 0, .int .i64 0, .bool false], .int .i64 1]) (by simp [results, Try.results42, go_sem, HE.out.1, HE.out.2.1, HE.out.2.2.1, HE.out.2.2.2.1]) rfl ⟨rfl, K1.out.then HE.out.2.2.2.2 (fun q hq e => by have e' : q = w.heap.size + 1 := e; omega)⟩
  · obtain ⟨e3, n, c, e1, e2, f1, f2, f3, _⟩ := fit_facts hf
    rw [e1, e2]
    rw [e1, e2, e3] at HFT
    by_cases hu : u < 1
    · have hm : MkNo D F T G1 M1 B1 G2 M2 B2 t1 t2 cr u := .inr hu
      rw [if_pos hm, if_pos hm]
      clear hf hm e1 e2 e3
      go_enter Try.func42, Try.ntmps42
      obtain ⟨p0, p1, p2, p3, p4, p5, p6, p7, p8, p9, p10⟩ := HPA.out
      rw [hW0] at p0 p1 p2 p3 p4 p5 p6 p7 p8 p9 p10
      go_wp2_with fail
      rw [← hW0]
      clear hW0 p0 p1 p2 p3 p4 p5 p6 p7 p8 p9 p10
      refine (HFT.out _ HO0.out.1).mono ?_
      rintro _ w1 ⟨rfl, k1⟩
      have K1 := Lib.hid (HO0.out.1.trans k1)
      obtain ⟨p0, p1, p2, p3, p4, p5, p6, p7, p8, p9, p10⟩ := HPA.out.only k1 (fun f => f)
      have HR4 := HFR.out.only k1 (fun f => f)
      have HE := Lib.hid (HR4.set (.int .i64 0) (.int .i64 0) (.int .i64 0) (.bool false))
      obtain ⟨⟨_, r0⟩, ⟨_, r1⟩, ⟨_, r2⟩, ⟨_, r3⟩, g0, g1, g2, g3⟩ := HR4
      clear k1
      go_wp2_with fail
      refine bodyPost_ret (v := .tuple #[.agg #[.int .i64 0, .int .i64 0, .int .i64 0, .bool false], .int .i64 1]) (by simp [results, Try.results42, go_sem, HE.out.1, HE.out.2.1, HE.out.2.2.1, HE.out.2.2.2.1]) rfl ⟨rfl, K1.out.then HE.out.2.2.2.2 (fun q hq e => by have e' : q = w.heap.size + 1 := e; omega)⟩
    · have hm : ¬ MkNo D F T G1 M1 B1 G2 M2 B2 t1 t2 cr u := fun e => e.elim hf hu
      rw [if_neg hm, if_neg hm]
      clear hf hm e1 e2 e3
      by_cases hn : n = 0
      · rw [if_pos hn, if_pos hn]
        subst hn
        go_enter Try.func42, Try.ntmps42
        obtain ⟨p0, p1, p2, p3, p4, p5, p6, p7, p8, p9, p10⟩ := HPA.out
        rw [hW0] at p0 p1 p2 p3 p4 p5 p6 p7 p8 p9 p10
        go_wp2_with fail
        rw [← hW0]
        clear hW0 p0 p1 p2 p3 p4 p5 p6 p7 p8 p9 p10
        refine (HFT.out _ HO0.out.1).mono ?_
        rintro _ w1 ⟨rfl, k1⟩
        have K1 := Lib.hid (HO0.out.1.trans k1)
        obtain ⟨p0, p1, p2, p3, p4, p5, p6, p7, p8, p9, p10⟩ := HPA.out.only k1 (fun f => f)
        have HR4 := HFR.out.only k1 (fun f => f)
        have HE := Lib.hid (HR4.set (.int .i64 0) (.int .i64 0) (.int .i64 0) (.bool false))
        obtain ⟨⟨_, r0⟩, ⟨_, r1⟩, ⟨_, r2⟩, ⟨_, r3⟩, g0, g1, g2, g3⟩ := HR4
        clear k1
        go_wp2_with fail
        refine bodyPost_ret (v := .tuple #[.agg #[.int .i64 0, .int .i64 0, .int .i64 0, .bool false], .int .i64 9]) (by simp [results, Try.results42, go_sem, HE.out.1, HE.out.2.1, HE.out.2.2.1, HE.out.2.2.2.1]) rfl ⟨rfl, K1.out.then HE.out.2.2.2.2 (fun q hq e => by have e' : q = w.heap.size + 1 := e; omega)⟩
      · rw [if_neg hn, if_neg hn]
        obtain ⟨z1, z2⟩ := neI hn
        obtain ⟨bb, hbb⟩ : ∃ b, decide (n < u) = b := ⟨_, rfl⟩
        rw [hbb]
        clear hn
        go_enter Try.func42, Try.ntmps42
        obtain ⟨p0, p1, p2, p3, p4, p5, p6, p7, p8, p9, p10⟩ := HPA.out
        rw [hW0] at p0 p1 p2 p3 p4 p5 p6 p7 p8 p9 p10
        go_wp2_with fail
        rw [← hW0]
        clear hW0 p0 p1 p2 p3 p4 p5 p6 p7 p8 p9 p10
        refine (HFT.out _ HO0.out.1).mono ?_
        rintro _ w1 ⟨rfl, k1⟩
        have K1 := Lib.hid (HO0.out.1.trans k1)
        obtain ⟨p0, p1, p2, p3, p4, p5, p6, p7, p8, p9, p10⟩ := HPA.out.only k1 (fun f => f)
        have HR4 := HFR.out.only k1 (fun f => f)
        have HE := Lib.hid (HR4.set (.int .i64 G1) (.int .i64 n) (.int .i64 c) (.bool bb))
        obtain ⟨⟨_, r0⟩, ⟨_, r1⟩, ⟨_, r2⟩, ⟨_, r3⟩, g0, g1, g2, g3⟩ := HR4
        clear k1
        go_wp2_with fail
        refine bodyPost_ret (v := .tuple #[.agg #[.int .i64 G1, .int .i64 n, .int .i64 c, .bool bb], .int .i64 0]) (by simp [results, Try.results42, go_sem, HE.out.1, HE.out.2.1, HE.out.2.2.1, HE.out.2.2.2.1]) rfl ⟨rfl, K1.out.then HE.out.2.2.2.2 (fun q hq e => by have e' : q = w.heap.size + 1 := e; omega)⟩
set_option maxRecDepth 100000 in
theorem like_yes (g u a : Int) (f : Bool) (w : World) : Calls Try.prog 44 #[.agg #[.int .i64 g, .int .i64 u, .int .i64 a, .bool f], .agg #[.int .i64 g, .int .i64 u, .int .i64 a, .bool f]] w fun e w' => e = .returned (.bool true) ∧ Only (fun _ => False) w w' := by
  have e1 : (g == g) = true := by simp
  have e2 : (u == u) = true := by simp
  have e3 : (a == a) = true := by simp
  have e4 : (f == f) = true := by simp
  have HO : Hid (∀ o p, Only (fun _ => False) w ((w.alloc o).alloc p)) := Lib.hid (fun o p => ((Only.refl _ w).alloc o).alloc p)
  go_enter Try.func44, Try.ntmps44
  go_wp2_with fail
  go_ret
  exact ⟨rfl, HO.out _ _⟩
set_option maxRecDepth 100000 in
set_option maxHeartbeats 4000000 in
theorem gmakes_any (D F T G1 M1 B1 G2 M2 B2 : Int) (a1 a2 : Option Addr) (n1 n2 c1 c2 : Nat) (t1 t2 : List Tr) (cr u : Int) (w : World) (h1 : TiersR w a1 n1 c1 t1) (h2 : TiersR w a2 n2 c2 t2) (hcr : cr ≤ 9223372036854775807)  :
    Calls Try.prog 10 #[.agg #[.int .i64 D, .int .i64 F, .int .i64 T, .int .i64 G1, .int .i64 M1, .int .i64 B1, .slice a1 n1 c1, .int .i64 G2, .int .i64 M2, .int .i64 B2, .slice a2 n2 c2], .int .i64 cr, .int .i64 u] w fun e w' => e = .returned (.bool true) ∧ Only (fun _ => False) w w' := by
  obtain ⟨W0, hW0⟩ : ∃ W0, W0 = w.alloc (.cells #[.int .i64 D, .int .i64 F, .int .i64 T, .int .i64 G1, .int .i64 M1, .int .i64 B1, .slice a1 n1 c1, .int .i64 G2, .int .i64 M2, .int .i64 B2, .slice a2 n2 c2] 26) := ⟨_, rfl⟩
  have HO0 : Hid (Only (fun _ => False) w W0 ∧ W0.heap.size = w.heap.size + 1) := Lib.hid (by rw [hW0]; exact ⟨(Only.refl _ w).alloc _, by simp⟩)
  have HP : Hid (BoxV W0 w.heap.size (plV D F T G1 M1 B1 G2 M2 B2 a1 a2 n1 n2 c1 c2)) := Lib.hid (by rw [hW0]; exact (BoxV.new w (plV D F T G1 M1 B1 G2 M2 B2 a1 a2 n1 n2 c1 c2) _ _ rfl))
  have HTM := Lib.hid (gtame_any D F T G1 M1 B1 G2 M2 B2 a1 a2 n1 n2 c1 c2 t1 t2 W0 (h1.only HO0.out.1) (h2.only HO0.out.1))
  have HL9 : Hid ((t1.take (min n1 9)).length ≤ 1000 ∧ (t2.take (min n2 9)).length ≤ 1000) := Lib.hid (by rw [List.length_take, List.length_take]; omega)
  clear h1 h2
  generalize t1.take (min n1 9) = s1 at *
  generalize t2.take (min n2 9) = s2 at *
  go_enter Try.func10, Try.ntmps10
  obtain ⟨⟨p0, p1, p2, p3, p4, p5, p6, p7, p8, p9, p10⟩, _⟩ := HP.out.all
  rw [hW0] at p0 p1 p2 p3 p4 p5 p6 p7 p8 p9 p10
  go_wp2_with fail
  rw [← hW0]
  clear hW0 p0 p1 p2 p3 p4 p5 p6 p7 p8 p9 p10
  refine HTM.out.mono ?_
  rintro _ w1 ⟨a3, a4, q3, q4, rfl, hr3, hr4, k1, hb3, hb4⟩
  have HB1 := HP.out.only k1 (fun f => f)
  obtain ⟨W2, HP2, HO2, hW2⟩ := plan_put HB1 rfl D F T G1 M1 B1 G2 M2 B2 a3 a4 s1.length s2.length q3 q4
  have HR3 : Hid (ReadsT W2 a3 s1.length s1) := Lib.hid (hr3.only HO2 (fun y hy e => by have := hb3 y hy; have := HO0.out.2; have e' : y.block = w.heap.size := e; omega))
  have HR4 : Hid (ReadsT W2 a4 s2.length s2) := Lib.hid (hr4.only HO2 (fun y hy e => by have := hb4 y hy; have := HO0.out.2; have e' : y.block = w.heap.size := e; omega))
  have HOW : Hid (Only (fun _ => False) w W2) := Lib.hid ((HO0.out.1.trans k1).then HO2 (fun q hq e => by have e' : q = w.heap.size := e; omega))
  have HPB := Lib.hid HP2
  have HTO := Lib.hid (fun w' => gto_any D F T G1 M1 B1 G2 M2 B2 a3 a4 s1.length s2.length q3 q4 w')
  have HMK := Lib.hid (fun w' (ho : Only (fun _ => False) W2 w') => make_any D F T G1 M1 B1 G2 M2 B2 a3 a4 s1.length s2.length q3 q4 s1 s2 cr u w' (HR3.out.only ho (fun _ _ f => f)) (HR4.out.only ho (fun _ _ f => f)) hcr)
  have HRM := Lib.hid (fun w' (ho : Only (fun _ => False) W2 w') => rmake_any D F T G1 M1 B1 G2 M2 B2 a3 a4 s1.length s2.length q3 q4 s1 s2 cr u w' (HR3.out.only ho (fun _ _ f => f)) (HR4.out.only ho (fun _ _ f => f)) HL9.out)
  unfold Gr.val at HMK HRM
  generalize mkG D F T G1 M1 B1 G2 M2 B2 s1 s2 cr u = mg at *
  generalize mkE D F T G1 M1 B1 G2 M2 B2 s1 s2 cr u = me at *
  obtain ⟨gg, gu, ga, gf⟩ := mg
  dsimp only at HMK HRM
  obtain ⟨⟨z0, z1, z2, z3, z4, z5, z6, z7, z8, z9, z10⟩, y0, y1, y2, y3, y4, y5, y6, y7, y8, y9, y10⟩ := HB1.all
  obtain ⟨⟨p0, p1, p2, p3, p4, p5, p6, p7, p8, p9, p10⟩, _⟩ := HP2.all
  rw [hW2] at p0 p1 p2 p3 p4 p5 p6 p7 p8 p9 p10
  clear hr3 hr4 k1 hb3 hb4 HB1 HO2 HP2
  go_wp2_with fail
  rw [← hW2]
  clear hW2 p0 p1 p2 p3 p4 p5 p6 p7 p8 p9 p10 z0 z1 z2 z3 z4 z5 z6 z7 z8 z9 z10 y0 y1 y2 y3 y4 y5 y6 y7 y8 y9 y10
  refine (HTO.out _).mono ?_
  rintro _ w3 ⟨rfl, k3⟩
  have K3 := Lib.hid k3
  clear k3
  go_wp2_with fail
  refine (HMK.out _ K3.out).mono ?_
  rintro _ w4 ⟨rfl, k4⟩
  obtain ⟨W5, hW5⟩ : ∃ W, W = w4.alloc (.cells #[.int .i64 gg, .int .i64 gu, .int .i64 ga, .bool gf] 72) := ⟨_, rfl⟩
  have K5 : Hid (Only (fun _ => False) W2 W5) := Lib.hid (by rw [hW5]; exact (K3.out.trans k4).alloc _)
  have HB5 : Hid (BoxV W5 w4.heap.size [.int .i64 gg, .int .i64 gu, .int .i64 ga, .bool gf]) := Lib.hid (by rw [hW5]; exact BoxV.new _ [.int .i64 gg, .int .i64 gu, .int .i64 ga, .bool gf] _ _ rfl)
  clear k4
  obtain ⟨⟨p0, p1, p2, p3, p4, p5, p6, p7, p8, p9, p10⟩, _⟩ := (HPB.out.only K5.out (fun f => f)).all
  rw [hW5] at p0 p1 p2 p3 p4 p5 p6 p7 p8 p9 p10
  go_wp2_with fail
  rw [← hW5]
  clear hW5 p0 p1 p2 p3 p4 p5 p6 p7 p8 p9 p10
  refine (HRM.out _ K5.out).mono ?_
  rintro _ w6 ⟨rfl, k6⟩
  obtain ⟨W7, hW7⟩ : ∃ W, W = w6.alloc (.cells #[.int .i64 gg, .int .i64 gu, .int .i64 ga, .bool gf] 75) := ⟨_, rfl⟩
  have K7 : Hid (Only (fun _ => False) W2 W7) := Lib.hid (by rw [hW7]; exact (K5.out.trans k6).alloc _)
  have HB7 : Hid (BoxV W7 w6.heap.size [.int .i64 gg, .int .i64 gu, .int .i64 ga, .bool gf]) := Lib.hid (by rw [hW7]; exact BoxV.new _ [.int .i64 gg, .int .i64 gu, .int .i64 ga, .bool gf] _ _ rfl)
  have HB57 : Hid (BoxV W7 w4.heap.size [.int .i64 gg, .int .i64 gu, .int .i64 ga, .bool gf]) := Lib.hid (by rw [hW7]; exact (HB5.out.only k6 (fun f => f)).only ((Only.refl (fun _ => False) _).alloc _) (fun f => f))
  clear k6
  go_wp2_with fail
  rw [← hW7]
  clear hW7
  refine (grants_any _).mono ?_
  rintro _ w8 ⟨rfl, k8⟩
  have K8 := Lib.hid (K7.out.trans k8)
  have hb1 := HB57.out.only k8 (fun f => f)
  have hb2 := HB7.out.only k8 (fun f => f)
  have b0 := (hb1 0 _ rfl).1; have b1 := (hb1 1 _ rfl).1; have b2 := (hb1 2 _ rfl).1; have b3 := (hb1 3 _ rfl).1
  have c0 := (hb2 0 _ rfl).1; have c1 := (hb2 1 _ rfl).1; have c2 := (hb2 2 _ rfl).1; have c3 := (hb2 3 _ rfl).1
  have e1 : (me == me) = true := by simp
  clear k8 hb1 hb2
  go_wp2_with fail
  refine (like_yes _ _ _ _ _).mono ?_
  rintro _ w9 ⟨rfl, k9⟩
  have K9 := Lib.hid (HOW.out.trans (K8.out.trans k9))
  clear k9
  go_wp2_with fail
  go_ret
  exact ⟨rfl, K9.out⟩
theorem gmakes_walk (D F T G1 M1 B1 G2 M2 B2 : Int) (a1 a2 : Option Addr) (n1 n2 c1 c2 : Nat) (t1 t2 : List Tr) (cr u : Int) (w : World) (h1 : TiersR w a1 n1 c1 t1) (h2 : TiersR w a2 n2 c2 t2) (hcr : InI cr) :
    Calls Try.prog 10 #[.agg #[.int .i64 D, .int .i64 F, .int .i64 T, .int .i64 G1, .int .i64 M1, .int .i64 B1, .slice a1 n1 c1, .int .i64 G2, .int .i64 M2, .int .i64 B2, .slice a2 n2 c2], .int .i64 cr, .int .i64 u] w fun e w' => e = .returned (.bool true) ∧ Below w.heap.size w w' :=
  (gmakes_any D F T G1 M1 B1 G2 M2 B2 a1 a2 n1 n2 c1 c2 t1 t2 cr u w h1 h2 (by unfold InI at hcr; omega)).mono fun _ _ ⟨h1, h2⟩ => ⟨h1, h2.none⟩
end Go.Proofs.Ytonacdjaimokeaa.tirw
