/- Plans: what is wrong with one: CheckPlan, the program's and the document's. -/
import Derived.Test.YtfdaokjigjpomaaRatA
namespace Go.Proofs.Ytfdaokjigjpomaa.tirw
open Go.RowKit mem tirm intm
set_option linter.unusedVariables false

/-- a plan's eleven cells -/
def PlanAt (w : World) (q : Nat) (D F T G1 M1 B1 G2 M2 B2 : Int) (a1 a2 : Option Addr) (n1 n2 c1 c2 : Nat) : Prop :=
  w.cell? ⟨q, 0, none⟩ = some (.int .i64 D) ∧ w.cell? ⟨q, 1, none⟩ = some (.int .i64 F) ∧ w.cell? ⟨q, 2, none⟩ = some (.int .i64 T) ∧ w.cell? ⟨q, 3, none⟩ = some (.int .i64 G1) ∧ w.cell? ⟨q, 4, none⟩ = some (.int .i64 M1) ∧ w.cell? ⟨q, 5, none⟩ = some (.int .i64 B1) ∧ w.cell? ⟨q, 6, none⟩ = some (.slice a1 n1 c1) ∧ w.cell? ⟨q, 7, none⟩ = some (.int .i64 G2) ∧ w.cell? ⟨q, 8, none⟩ = some (.int .i64 M2) ∧ w.cell? ⟨q, 9, none⟩ = some (.int .i64 B2) ∧ w.cell? ⟨q, 10, none⟩ = some (.slice a2 n2 c2)
theorem PlanAt.only {S : Nat → Prop} {w w' : World} {q : Nat} {D F T G1 M1 B1 G2 M2 B2 : Int} {a1 a2 : Option Addr} {n1 n2 c1 c2 : Nat} (h : PlanAt w q D F T G1 M1 B1 G2 M2 B2 a1 a2 n1 n2 c1 c2) (ho : Only S w w') (hs : ¬ S q) : PlanAt w' q D F T G1 M1 B1 G2 M2 B2 a1 a2 n1 n2 c1 c2 := by
  obtain ⟨h0, h1, h2, h3, h4, h5, h6, h7, h8, h9, h10⟩ := h
  exact ⟨ho.cell' h0 hs, ho.cell' h1 hs, ho.cell' h2 hs, ho.cell' h3 hs, ho.cell' h4 hs, ho.cell' h5 hs, ho.cell' h6 hs, ho.cell' h7 hs, ho.cell' h8 hs, ho.cell' h9 hs, ho.cell' h10 hs⟩
theorem PlanAt.new {w : World} (D F T G1 M1 B1 G2 M2 B2 : Int) (a1 a2 : Option Addr) (n1 n2 c1 c2 : Nat) (t : TypeId) : PlanAt (w.alloc (.cells #[.int .i64 D, .int .i64 F, .int .i64 T, .int .i64 G1, .int .i64 M1, .int .i64 B1, .slice a1 n1 c1, .int .i64 G2, .int .i64 M2, .int .i64 B2, .slice a2 n2 c2] t)) w.heap.size D F T G1 M1 B1 G2 M2 B2 a1 a2 n1 n2 c1 c2 :=
  ⟨alloc_new _ _ _ _ _ _ rfl rfl, alloc_new _ _ _ _ _ _ rfl rfl, alloc_new _ _ _ _ _ _ rfl rfl, alloc_new _ _ _ _ _ _ rfl rfl, alloc_new _ _ _ _ _ _ rfl rfl, alloc_new _ _ _ _ _ _ rfl rfl, alloc_new _ _ _ _ _ _ rfl rfl, alloc_new _ _ _ _ _ _ rfl rfl, alloc_new _ _ _ _ _ _ rfl rfl, alloc_new _ _ _ _ _ _ rfl rfl, alloc_new _ _ _ _ _ _ rfl rfl⟩

set_option maxRecDepth 100000 in
set_option maxHeartbeats 1000000 in
theorem cplan_any (D F T G1 M1 B1 G2 M2 B2 : Int) (a1 a2 : Option Addr) (n1 n2 c1 c2 : Nat) (t1 t2 : List Tr) (w : World) (h1 : ReadsT w a1 n1 t1) (h2 : ReadsT w a2 n2 t2) :
    Calls Try.prog 16 #[.agg #[.int .i64 D, .int .i64 F, .int .i64 T, .int .i64 G1, .int .i64 M1, .int .i64 B1, .slice a1 n1 c1, .int .i64 G2, .int .i64 M2, .int .i64 B2, .slice a2 n2 c2]] w fun e w' => e = .returned (.int .i64 (pchk D F T G1 M1 B1 G2 M2 B2 t1 t2)) ∧ Only (fun _ => False) w w' := by
  have HC1 := Lib.hid (fun w' (ho : Only (fun _ => False) w w') => tcheck_any G1 M1 B1 a1 n1 c1 t1 w' (h1.only ho (fun _ _ f => f)))
  have HC2 := Lib.hid (fun w' (ho : Only (fun _ => False) w w') => tcheck_any G2 M2 B2 a2 n2 c2 t2 w' (h2.only ho (fun _ _ f => f)))
  have HL2 : Hid (t2.length = n2 ∧ n2 ≤ 9223372036854775807) := Lib.hid ⟨h2.1, h2.2.1⟩
  obtain ⟨P, hP⟩ : ∃ P, pchk D F T G1 M1 B1 G2 M2 B2 t1 t2 = P := ⟨_, rfl⟩
  rw [hP]
  have HP := Lib.hid hP
  obtain ⟨W0, hW0⟩ : ∃ W0, W0 = w.alloc (.cells #[.int .i64 D, .int .i64 F, .int .i64 T, .int .i64 G1, .int .i64 M1, .int .i64 B1, .slice a1 n1 c1, .int .i64 G2, .int .i64 M2, .int .i64 B2, .slice a2 n2 c2] 32) := ⟨_, rfl⟩
  have HO0 : Hid (Only (fun _ => False) w W0) := Lib.hid (by rw [hW0]; exact (Only.refl _ w).alloc _)
  have HPA : Hid (PlanAt W0 w.heap.size D F T G1 M1 B1 G2 M2 B2 a1 a2 n1 n2 c1 c2) := Lib.hid (by rw [hW0]; exact PlanAt.new ..)
  clear h1 h2 hP
  go_enter Try.func16, Try.ntmps16
  obtain ⟨p0, p1, p2, p3, p4, p5, p6, p7, p8, p9, p10⟩ := HPA.out
  rw [hW0] at p0 p1 p2 p3 p4 p5 p6 p7 p8 p9 p10
  go_wp2_with fail
  rw [← hW0]
  clear hW0 p0 p1 p2 p3 p4 p5 p6 p7 p8 p9 p10
  refine (HC1.out _ HO0.out).mono ?_
  rintro _ w1 ⟨rfl, h1⟩
  have H1 := Lib.hid (HO0.out.trans h1)
  have HP1 := Lib.hid (HPA.out.only h1 (fun f => f))
  clear h1
  obtain ⟨p0, p1, p2, p3, p4, p5, p6, p7, p8, p9, p10⟩ := HP1.out
  by_cases k1 : tchk G1 M1 B1 t1 = 0
  rotate_left
  · have HR : Hid (P = tchk G1 M1 B1 t1) := Lib.hid (by rw [← HP.out]; unfold pchk; rw [if_pos k1])
    obtain ⟨_, z2⟩ := neI k1
    generalize tchk G1 M1 B1 t1 = c at *
    go_wp2_with fail
    go_ret
    exact ⟨by rw [HR.out]; rfl, H1.out⟩
  rw [k1]
  have HK1 := Lib.hid k1
  clear k1
  by_cases k0 : D = 0
  · subst k0
    have HR0 : Hid (P = if F ≠ 0 ∨ T ≠ 0 ∨ G2 ≠ 0 ∨ M2 ≠ 0 ∨ B2 ≠ 0 ∨ t2.length ≠ 0 then 2 else 0) := Lib.hid (by rw [← HP.out]; unfold pchk; rw [if_neg (fun e => e HK1.out), if_pos rfl])
    by_cases y0 : F = 0
    rotate_left
    · have HR : Hid (P = 2) := Lib.hid (by rw [HR0.out]; exact if_pos (.inl y0))
      obtain ⟨z1, z2⟩ := neI y0
      go_wp2_with fail
      go_ret
      exact ⟨by rw [HR.out]; rfl, H1.out⟩
    subst y0
    by_cases y1 : T = 0
    rotate_left
    · have HR : Hid (P = 2) := Lib.hid (by rw [HR0.out]; exact if_pos (.inr (.inl y1)))
      obtain ⟨z1, z2⟩ := neI y1
      go_wp2_with fail
      go_ret
      exact ⟨by rw [HR.out]; rfl, H1.out⟩
    subst y1
    have HSM := Lib.hid (same_zero G2 M2 B2 a2 n2 c2 HL2.out.2 w1)
    by_cases yz : ZeroT G2 M2 B2 n2
    · rw [decide_eq_true yz] at HSM
      have HR : Hid (P = 0) := Lib.hid (by
        rw [HR0.out]
        obtain ⟨e1, e2, e3, e4⟩ := yz
        exact if_neg (by rw [HL2.out.1, e1, e2, e3, e4]; simp))
      clear yz
      go_wp2_with fail
      refine HSM.out.mono ?_
      rintro _ w2 ⟨rfl, h2⟩
      have H2 := Lib.hid (H1.out.trans h2)
      clear h2
      go_wp2_with fail
      go_ret
      exact ⟨by rw [HR.out]; rfl, H2.out⟩
    · rw [decide_eq_false yz] at HSM
      have HR : Hid (P = 2) := Lib.hid (by
        rw [HR0.out]
        refine if_pos ?_
        rw [HL2.out.1]
        by_cases g1 : G2 = 0
        · by_cases g2 : M2 = 0
          · by_cases g3 : B2 = 0
            · exact .inr (.inr (.inr (.inr (.inr (fun e => yz ⟨g1, g2, g3, e⟩)))))
            · exact .inr (.inr (.inr (.inr (.inl g3))))
          · exact .inr (.inr (.inr (.inl g2)))
        · exact .inr (.inr (.inl g1)))
      clear yz
      go_wp2_with fail
      refine HSM.out.mono ?_
      rintro _ w2 ⟨rfl, h2⟩
      have H2 := Lib.hid (H1.out.trans h2)
      clear h2
      go_wp2_with fail
      go_ret
      exact ⟨by rw [HR.out]; rfl, H2.out⟩
  obtain ⟨x1, x2⟩ := neI k0
  have HK0 := Lib.hid k0
  clear k0
  by_cases kd : DayP D F T
  rotate_left
  · have HR : Hid (P = 1) := Lib.hid (by rw [← HP.out]; unfold pchk; rw [if_neg (fun e => e HK1.out), if_neg HK0.out, if_pos kd])
    have HD := Lib.hid (isday_any D F T w1)
    rw [decide_eq_false kd] at HD
    clear kd
    go_wp2_with fail
    refine HD.out.mono ?_
    rintro _ _ ⟨rfl, rfl⟩
    go_wp2_with fail
    go_ret
    exact ⟨by rw [HR.out]; rfl, H1.out⟩
  have HD := Lib.hid (isday_any D F T w1)
  rw [decide_eq_true kd] at HD
  have HKD := Lib.hid kd
  clear kd
  go_wp2_with fail
  refine HD.out.mono ?_
  rintro _ _ ⟨rfl, rfl⟩
  go_wp2_with fail
  refine (HC2.out _ H1.out).mono ?_
  rintro _ w2 ⟨rfl, h2⟩
  have H2 := Lib.hid (H1.out.trans h2)
  have HP2 := Lib.hid (HP1.out.only h2 (fun f => f))
  clear h2 p0 p1 p2 p3 p4 p5 p6 p7 p8 p9 p10
  obtain ⟨p0, p1, p2, p3, p4, p5, p6, p7, p8, p9, p10⟩ := HP2.out
  by_cases k2 : tchk G2 M2 B2 t2 = 0
  rotate_left
  · have HR : Hid (P = tchk G2 M2 B2 t2) := Lib.hid (by rw [← HP.out]; unfold pchk; rw [if_neg (fun e => e HK1.out), if_neg HK0.out, if_neg (fun e => e HKD.out), if_pos k2])
    obtain ⟨_, z2⟩ := neI k2
    generalize tchk G2 M2 B2 t2 = c at *
    go_wp2_with fail
    go_ret
    exact ⟨by rw [HR.out]; rfl, H2.out⟩
  rw [k2]
  have HR0 : Hid (P = if G1 ≠ G2 ∨ B1 ≠ B2 then 20 else 0) := Lib.hid (by rw [← HP.out]; unfold pchk; rw [if_neg (fun e => e HK1.out), if_neg HK0.out, if_neg (fun e => e HKD.out), if_neg (fun e => e k2)])
  clear k2
  by_cases g1 : G1 = G2
  · subst g1
    by_cases g2 : B1 = B2
    · subst g2
      have HR : Hid (P = 0) := Lib.hid (by rw [HR0.out]; simp)
      go_wp2_with fail
      go_ret
      exact ⟨by rw [HR.out]; rfl, H2.out⟩
    · have HR : Hid (P = 20) := Lib.hid (by rw [HR0.out]; exact if_pos (.inr g2))
      obtain ⟨z1, z2⟩ := neI g2
      go_wp2_with fail
      go_ret
      exact ⟨by rw [HR.out]; rfl, H2.out⟩
  · have HR : Hid (P = 20) := Lib.hid (by rw [HR0.out]; exact if_pos (.inl g1))
    obtain ⟨z1, z2⟩ := neI g1
    go_wp2_with fail
    go_ret
    exact ⟨by rw [HR.out]; rfl, H2.out⟩

set_option maxRecDepth 100000 in
set_option maxHeartbeats 1000000 in
theorem rcplan_any (D F T G1 M1 B1 G2 M2 B2 : Int) (a1 a2 : Option Addr) (n1 n2 c1 c2 : Nat) (t1 t2 : List Tr) (w : World) (h1 : ReadsT w a1 n1 t1) (h2 : ReadsT w a2 n2 t2) :
    Calls Try.prog 8 #[.agg #[.int .i64 D, .int .i64 F, .int .i64 T, .int .i64 G1, .int .i64 M1, .int .i64 B1, .slice a1 n1 c1, .int .i64 G2, .int .i64 M2, .int .i64 B2, .slice a2 n2 c2]] w fun e w' => e = .returned (.int .i64 (pchk D F T G1 M1 B1 G2 M2 B2 t1 t2)) ∧ Only (fun _ => False) w w' := by
  have HC1 := Lib.hid (fun w' (ho : Only (fun _ => False) w w') => rtcheck_any G1 M1 B1 a1 n1 c1 t1 w' (h1.only ho (fun _ _ f => f)))
  have HC2 := Lib.hid (fun w' (ho : Only (fun _ => False) w w') => rtcheck_any G2 M2 B2 a2 n2 c2 t2 w' (h2.only ho (fun _ _ f => f)))
  have HL2 : Hid (t2.length = n2 ∧ n2 ≤ 9223372036854775807) := Lib.hid ⟨h2.1, h2.2.1⟩
  obtain ⟨P, hP⟩ : ∃ P, pchk D F T G1 M1 B1 G2 M2 B2 t1 t2 = P := ⟨_, rfl⟩
  rw [hP]
  have HP := Lib.hid hP
  obtain ⟨W0, hW0⟩ : ∃ W0, W0 = w.alloc (.cells #[.int .i64 D, .int .i64 F, .int .i64 T, .int .i64 G1, .int .i64 M1, .int .i64 B1, .slice a1 n1 c1, .int .i64 G2, .int .i64 M2, .int .i64 B2, .slice a2 n2 c2] 26) := ⟨_, rfl⟩
  have HO0 : Hid (Only (fun _ => False) w W0) := Lib.hid (by rw [hW0]; exact (Only.refl _ w).alloc _)
  have HPA : Hid (PlanAt W0 w.heap.size D F T G1 M1 B1 G2 M2 B2 a1 a2 n1 n2 c1 c2) := Lib.hid (by rw [hW0]; exact PlanAt.new ..)
  clear h1 h2 hP
  go_enter Try.func8, Try.ntmps8
  obtain ⟨p0, p1, p2, p3, p4, p5, p6, p7, p8, p9, p10⟩ := HPA.out
  rw [hW0] at p0 p1 p2 p3 p4 p5 p6 p7 p8 p9 p10
  go_wp2_with fail
  rw [← hW0]
  clear hW0 p0 p1 p2 p3 p4 p5 p6 p7 p8 p9 p10
  refine (HC1.out _ HO0.out).mono ?_
  rintro _ w1 ⟨rfl, h1⟩
  have H1 := Lib.hid (HO0.out.trans h1)
  have HP1 := Lib.hid (HPA.out.only h1 (fun f => f))
  clear h1
  obtain ⟨p0, p1, p2, p3, p4, p5, p6, p7, p8, p9, p10⟩ := HP1.out
  by_cases k1 : tchk G1 M1 B1 t1 = 0
  rotate_left
  · have HR : Hid (P = tchk G1 M1 B1 t1) := Lib.hid (by rw [← HP.out]; unfold pchk; rw [if_pos k1])
    obtain ⟨_, z2⟩ := neI k1
    generalize tchk G1 M1 B1 t1 = c at *
    go_wp2_with fail
    go_ret
    exact ⟨by rw [HR.out]; rfl, H1.out⟩
  rw [k1]
  have HK1 := Lib.hid k1
  clear k1
  by_cases k0 : D = 0
  · subst k0
    have HR0 : Hid (P = if F ≠ 0 ∨ T ≠ 0 ∨ G2 ≠ 0 ∨ M2 ≠ 0 ∨ B2 ≠ 0 ∨ t2.length ≠ 0 then 2 else 0) := Lib.hid (by rw [← HP.out]; unfold pchk; rw [if_neg (fun e => e HK1.out), if_pos rfl])
    have HA : Hid (∀ o, Only (fun _ => False) w (w1.alloc o)) := Lib.hid (fun o => H1.out.alloc o)
    obtain ⟨q0, q1, q2, q3, q4, q5, q6, q7, q8, q9, q10⟩ := HP1.out.only ((Only.refl (fun _ => False) w1).alloc (.cells #[.int .i64 G2, .int .i64 M2, .int .i64 B2, .slice a2 n2 c2] 24)) (fun f => f)
    by_cases y0 : F = 0
    rotate_left
    · have HR : Hid (P = 2) := Lib.hid (by rw [HR0.out]; exact if_pos (.inl y0))
      obtain ⟨z1, z2⟩ := neI y0
      go_wp2_with fail
      go_ret
      exact ⟨by rw [HR.out]; rfl, HA.out _⟩
    subst y0
    by_cases y1 : T = 0
    rotate_left
    · have HR : Hid (P = 2) := Lib.hid (by rw [HR0.out]; exact if_pos (.inr (.inl y1)))
      obtain ⟨z1, z2⟩ := neI y1
      go_wp2_with fail
      go_ret
      exact ⟨by rw [HR.out]; rfl, HA.out _⟩
    subst y1
    by_cases y2 : G2 = 0
    rotate_left
    · have HR : Hid (P = 2) := Lib.hid (by rw [HR0.out]; exact if_pos (.inr (.inr (.inl y2))))
      obtain ⟨z1, z2⟩ := neI y2
      go_wp2_with fail
      go_ret
      exact ⟨by rw [HR.out]; rfl, HA.out _⟩
    subst y2
    by_cases y3 : M2 = 0
    rotate_left
    · have HR : Hid (P = 2) := Lib.hid (by rw [HR0.out]; exact if_pos (.inr (.inr (.inr (.inl y3)))))
      obtain ⟨z1, z2⟩ := neI y3
      go_wp2_with fail
      go_ret
      exact ⟨by rw [HR.out]; rfl, HA.out _⟩
    subst y3
    by_cases y4 : B2 = 0
    rotate_left
    · have HR : Hid (P = 2) := Lib.hid (by rw [HR0.out]; exact if_pos (.inr (.inr (.inr (.inr (.inl y4))))))
      obtain ⟨z1, z2⟩ := neI y4
      go_wp2_with fail
      go_ret
      exact ⟨by rw [HR.out]; rfl, HA.out _⟩
    subst y4
    by_cases y5 : n2 = 0
    · have HR : Hid (P = 0) := Lib.hid (by rw [HR0.out]; exact if_neg (by rw [HL2.out.1, y5]; simp))
      subst y5
      go_wp2_with fail
      go_ret
      exact ⟨by rw [HR.out]; rfl, HA.out _⟩
    · have HR : Hid (P = 2) := Lib.hid (by rw [HR0.out]; exact if_pos (.inr (.inr (.inr (.inr (.inr (by rw [HL2.out.1]; exact y5)))))))
      have z3 : ((n2 : Int) == 0) = false := by simpa using y5
      have z4 : ((n2 : Int) != 0) = true := by simpa using y5
      go_wp2_with fail
      go_ret
      exact ⟨by rw [HR.out]; rfl, HA.out _⟩
  obtain ⟨x1, x2⟩ := neI k0
  have HK0 := Lib.hid k0
  clear k0
  by_cases kd : DayP D F T
  rotate_left
  · have HR : Hid (P = 1) := Lib.hid (by rw [← HP.out]; unfold pchk; rw [if_neg (fun e => e HK1.out), if_neg HK0.out, if_pos kd])
    have hall : D < 2 ∨ (2 ≤ D ∧ 1073741824 < D) ∨ (2 ≤ D ∧ D ≤ 1073741824 ∧ F < 0) ∨ (2 ≤ D ∧ D ≤ 1073741824 ∧ 0 ≤ F ∧ D ≤ F) ∨ (2 ≤ D ∧ D ≤ 1073741824 ∧ 0 ≤ F ∧ F < D ∧ T < 0) ∨ (2 ≤ D ∧ D ≤ 1073741824 ∧ 0 ≤ F ∧ F < D ∧ 0 ≤ T ∧ D ≤ T) ∨ (2 ≤ D ∧ D ≤ 1073741824 ∧ 0 ≤ F ∧ F < D ∧ 0 ≤ T ∧ T < D ∧ F = T) := by
      unfold DayP at kd
      omega
    clear kd
    rcases hall with e1 | ⟨e1, e2⟩ | ⟨e1, e2, e3⟩ | ⟨e1, e2, e3, e4⟩ | ⟨e1, e2, e3, e4, e5⟩ | ⟨e1, e2, e3, e4, e5, e6⟩ | ⟨e1, e2, e3, e4, e5, e6, rfl⟩
    all_goals
      go_wp2_with fail
      go_ret
      exact ⟨by rw [HR.out]; rfl, H1.out⟩
  have HKD := Lib.hid kd
  obtain ⟨d1, d2, d3, d4, d5, d6, d7⟩ := kd
  obtain ⟨d8, d9⟩ := neI d7
  clear d7
  go_wp2_with fail
  refine (HC2.out _ H1.out).mono ?_
  rintro _ w2 ⟨rfl, h2⟩
  have H2 := Lib.hid (H1.out.trans h2)
  have HP2 := Lib.hid (HP1.out.only h2 (fun f => f))
  clear h2 p0 p1 p2 p3 p4 p5 p6 p7 p8 p9 p10
  obtain ⟨p0, p1, p2, p3, p4, p5, p6, p7, p8, p9, p10⟩ := HP2.out
  by_cases k2 : tchk G2 M2 B2 t2 = 0
  rotate_left
  · have HR : Hid (P = tchk G2 M2 B2 t2) := Lib.hid (by rw [← HP.out]; unfold pchk; rw [if_neg (fun e => e HK1.out), if_neg HK0.out, if_neg (fun e => e HKD.out), if_pos k2])
    obtain ⟨_, z2⟩ := neI k2
    generalize tchk G2 M2 B2 t2 = c at *
    go_wp2_with fail
    go_ret
    exact ⟨by rw [HR.out]; rfl, H2.out⟩
  rw [k2]
  have HR0 : Hid (P = if G1 ≠ G2 ∨ B1 ≠ B2 then 20 else 0) := Lib.hid (by rw [← HP.out]; unfold pchk; rw [if_neg (fun e => e HK1.out), if_neg HK0.out, if_neg (fun e => e HKD.out), if_neg (fun e => e k2)])
  clear k2
  by_cases g1 : G1 = G2
  · subst g1
    by_cases g2 : B1 = B2
    · subst g2
      have HR : Hid (P = 0) := Lib.hid (by rw [HR0.out]; simp)
      go_wp2_with fail
      go_ret
      exact ⟨by rw [HR.out]; rfl, H2.out⟩
    · have HR : Hid (P = 20) := Lib.hid (by rw [HR0.out]; exact if_pos (.inr g2))
      obtain ⟨z1, z2⟩ := neI g2
      go_wp2_with fail
      go_ret
      exact ⟨by rw [HR.out]; rfl, H2.out⟩
  · have HR : Hid (P = 20) := Lib.hid (by rw [HR0.out]; exact if_pos (.inl g1))
    obtain ⟨z1, z2⟩ := neI g1
    go_wp2_with fail
    go_ret
    exact ⟨by rw [HR.out]; rfl, H2.out⟩
end Go.Proofs.Ytfdaokjigjpomaa.tirw
