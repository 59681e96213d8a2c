/- RateApart's walk. -/
import Derived.Test.YtonacdjaimokeaaRatAm
import Derived.Deep.RegionHeld3
import Derived.BigQuiet
import Derived.Deep.QuietTactic
namespace Go.Proofs.Ytonacdjaimokeaa.tirw
open Go.RowKit mem tirm intm bigm bigw
set_option linter.unusedVariables false

set_option maxRecDepth 100000 in
set_option maxHeartbeats 4000000 in
theorem rapart_any (D F T G1 M1 B1 G2 M2 B2 : Int) (a1 a2 : Option Addr) (n1 n2 c1 c2 : Nat) (t1 t2 : List Tr) (now pos u cr more Q1 Q2 N P : Int) (w : World) (h1 : TiersR w a1 n1 c1 t1) (h2 : TiersR w a2 n2 c2 t2) (hN : IntKind.u64.wrap now / 2 = N) (hP : IntKind.u64.wrap pos % 274877906944 = P) (hQ1 : IntKind.u64.wrap u % (536870912 / B1 + 1) = Q1) (hQ2 : IntKind.u64.wrap more % (536870912 / B1 + 1) = Q2) :
    Calls Try.prog 6 #[.agg #[.int .i64 D, .int .i64 F, .int .i64 T, .int .i64 G1, .int .i64 M1, .int .i64 B1, .slice a1 n1 c1, .int .i64 G2, .int .i64 M2, .int .i64 B2, .slice a2 n2 c2], .agg #[.int .i64 now, .int .i64 pos, .int .i64 u, .int .i64 cr], .int .i64 more] w fun e w' => e = .returned (.bool true) ∧ Only (fun _ => False) w w' := by
  obtain ⟨W0, hW0⟩ : ∃ W0, W0 = (w.alloc (.cells #[.int .i64 D, .int .i64 F, .int .i64 T, .int .i64 G1, .int .i64 M1, .int .i64 B1, .slice a1 n1 c1, .int .i64 G2, .int .i64 M2, .int .i64 B2, .slice a2 n2 c2] 26)).alloc (.cells #[.int .i64 now, .int .i64 pos, .int .i64 u, .int .i64 cr] 28) := ⟨_, rfl⟩
  have HO0 : Hid (Only (fun _ => False) w W0 ∧ W0.heap.size = w.heap.size + 2) := Lib.hid (by rw [hW0]; exact ⟨((Only.refl _ w).alloc _).alloc _, by simp⟩)
  have HP : Hid (BoxV W0 w.heap.size (plV D F T G1 M1 B1 G2 M2 B2 a1 a2 n1 n2 c1 c2)) := Lib.hid (by rw [hW0]; exact (BoxV.new w (plV D F T G1 M1 B1 G2 M2 B2 a1 a2 n1 n2 c1 c2) _ _ rfl).only ((Only.refl (fun _ => False) _).alloc _) (fun f => f))
  have HA : Hid (BoxV W0 (w.heap.size + 1) [.int .i64 now, .int .i64 pos, .int .i64 u, .int .i64 cr]) := Lib.hid (by rw [hW0]; exact BoxV.new _ [.int .i64 now, .int .i64 pos, .int .i64 u, .int .i64 cr] _ _ (by simp))
  have HTM := Lib.hid (ptame_any D F T G1 M1 B1 G2 M2 B2 a1 a2 n1 n2 c1 c2 t1 t2 W0 (h1.only HO0.out.1) (h2.only HO0.out.1))
  clear h1 h2
  generalize t1.take (min n1 9) = s1 at *
  generalize t2.take (min n2 9) = s2 at *
  go_enter Try.func6, Try.ntmps6
  obtain ⟨⟨p0, p1, p2, p3, p4, p5, p6, p7, p8, p9, p10⟩, _⟩ := HP.out.all
  rw [hW0] at p0 p1 p2 p3 p4 p5 p6 p7 p8 p9 p10
  go_wp2_with fail
  rw [← hW0]
  clear hW0 p0 p1 p2 p3 p4 p5 p6 p7 p8 p9 p10
  refine HTM.out.mono ?_
  rintro _ w1 ⟨a3, a4, q3, q4, rfl, hr3, hr4, k1, hb3, hb4⟩
  have HB1 := HP.out.only k1 (fun f => f)
  obtain ⟨W2, HP2, HO2, hW2⟩ := plan_put HB1 rfl D F T G1 M1 B1 G2 M2 B2 a3 a4 s1.length s2.length q3 q4
  have HR3 : Hid (ReadsT W2 a3 s1.length s1) := Lib.hid (hr3.only HO2 (fun y hy e => by have := hb3 y hy; have := HO0.out.2; have e' : y.block = w.heap.size := e; omega))
  have HR4 : Hid (ReadsT W2 a4 s2.length s2) := Lib.hid (hr4.only HO2 (fun y hy e => by have := hb4 y hy; have := HO0.out.2; have e' : y.block = w.heap.size := e; omega))
  have HOW : Hid (Only (fun _ => False) w W2) := Lib.hid ((HO0.out.1.trans k1).then HO2 (fun q hq e => by have e' : q = w.heap.size := e; omega))
  have HA2 : Hid (BoxV W2 (w.heap.size + 1) [.int .i64 now, .int .i64 pos, .int .i64 u, .int .i64 cr]) := Lib.hid ((HA.out.only k1 (fun f => f)).only HO2 (fun e => by have e' : w.heap.size + 1 = w.heap.size := e; omega))
  have HPB := Lib.hid HP2
  have HTO := Lib.hid (fun w' => to_any D F T G1 M1 B1 G2 M2 B2 a3 a4 s1.length s2.length q3 q4 w')
  have HCK := Lib.hid (fun w' (ho : Only (fun _ => False) W2 w') => rcplan_any D F T G1 M1 B1 G2 M2 B2 a3 a4 s1.length s2.length q3 q4 s1 s2 w' (HR3.out.only ho (fun _ _ f => f)) (HR4.out.only ho (fun _ _ f => f)))
  have HRT := Lib.hid (fun n hn p u w' (ho : Only (fun _ => False) W2 w') => rate_any D F T G1 M1 B1 G2 M2 B2 a3 a4 s1.length s2.length q3 q4 s1 s2 n p u w' (HR3.out.only ho (fun _ _ f => f)) (HR4.out.only ho (fun _ _ f => f)) hn)
  obtain ⟨⟨z0, z1, z2, z3, z4, z5, z6, z7, z8, z9, z10⟩, y0, y1, y2, y3, y4, y5, y6, y7, y8, y9, y10⟩ := HB1.all
  obtain ⟨⟨p0, p1, p2, p3, p4, p5, p6, p7, p8, p9, p10⟩, _⟩ := HP2.all
  rw [hW2] at p0 p1 p2 p3 p4 p5 p6 p7 p8 p9 p10
  clear hr3 hr4 k1 hb3 hb4 HB1 HO2 HP2
  have HHN := Lib.hid hN; have HHP := Lib.hid hP; have HHQ := Lib.hid hQ1; have HHR := Lib.hid hQ2
  clear hN hP hQ1 hQ2
  go_wp2_with fail
  rw [← hW2]
  clear hW2 p0 p1 p2 p3 p4 p5 p6 p7 p8 p9 p10 z0 z1 z2 z3 z4 z5 z6 z7 z8 z9 z10 y0 y1 y2 y3 y4 y5 y6 y7 y8 y9 y10
  refine (rates_any _).mono ?_
  rintro _ w3 ⟨rfl, k3⟩
  have K3 := Lib.hid k3
  clear k3
  obtain ⟨⟨p0, p1, p2, p3, p4, p5, p6, p7, p8, p9, p10⟩, _⟩ := (HPB.out.only K3.out (fun f => f)).all
  go_wp2_with fail
  refine (HCK.out _ K3.out).mono ?_
  rintro _ w4 ⟨rfl, k4⟩
  have K4 := Lib.hid (K3.out.trans k4)
  clear k4 p0 p1 p2 p3 p4 p5 p6 p7 p8 p9 p10
  obtain ⟨⟨p0, p1, p2, p3, p4, p5, p6, p7, p8, p9, p10⟩, _⟩ := (HPB.out.only K4.out (fun f => f)).all
  by_cases hc : pchk D F T G1 M1 B1 G2 M2 B2 s1 s2 = 0
  rotate_left
  · have hb : (pchk D F T G1 M1 B1 G2 M2 B2 s1 s2 != 0) = true := by simpa using hc
    generalize pchk D F T G1 M1 B1 G2 M2 B2 s1 s2 = c at *
    clear hc HRT
    go_wp2_with fail
    refine (rates_any _).mono ?_
    rintro _ w6 ⟨rfl, k6⟩
    have K6 := Lib.hid (HOW.out.trans (K4.out.trans k6))
    clear k6
    go_wp2_with fail
    go_ret
    exact ⟨rfl, K6.out⟩
  rw [hc]
  by_cases hm1 : M1 = 1
  rotate_left
  · obtain ⟨z1, z2⟩ := neI hm1
    clear HRT hc
    go_wp2_with fail
    refine (rates_any _).mono ?_
    rintro _ w6 ⟨rfl, k6⟩
    have K6 := Lib.hid (HOW.out.trans (K4.out.trans k6))
    clear k6
    go_wp2_with fail
    go_ret
    exact ⟨rfl, K6.out⟩
  by_cases hm2 : D = 0 ∨ M2 = 1
  rotate_left
  · obtain ⟨y1, y2⟩ := neI (fun e => hm2 (.inl e))
    obtain ⟨z1, z2⟩ := neI (fun e => hm2 (.inr e))
    clear HRT hc hm2
    subst hm1
    go_wp2_with fail
    refine (rates_any _).mono ?_
    rintro _ w6 ⟨rfl, k6⟩
    have K6 := Lib.hid (HOW.out.trans (K4.out.trans k6))
    clear k6
    go_wp2_with fail
    go_ret
    exact ⟨rfl, K6.out⟩
  obtain ⟨⟨b1, b2⟩⟩ : (1 ≤ B1 ∧ B1 ≤ 1073741824) ∧ True := ⟨((tchk_ok G1 M1 B1 s1).1 (pchk_ok hc).1).2.2.1, trivial⟩
  have hB0 : ¬ B1 = 0 := by omega
  obtain ⟨d1, d2⟩ := neI hB0
  have hdv : (536870912 : Int).tdiv B1 = 536870912 / B1 := Int.tdiv_eq_ediv_of_nonneg (by omega)
  have hd0 : 0 ≤ 536870912 / B1 := Int.ediv_nonneg (by omega) (by omega)
  have hdm : 536870912 / B1 * B1 ≤ 536870912 := Int.ediv_mul_le _ (by omega)
  have hd9 : 536870912 / B1 ≤ 536870912 := Int.ediv_le_self _ (by omega)
  have hQ1 := HHQ.out
  have hQ2 := HHR.out
  have hN := HHN.out
  have hP := HHP.out
  generalize hdd : 536870912 / B1 = dd at *
  have hq1 : 0 ≤ Q1 ∧ Q1 ≤ dd := by
    have := Int.emod_nonneg (IntKind.u64.wrap u) (show dd + 1 ≠ 0 by omega)
    have := Int.emod_lt_of_pos (IntKind.u64.wrap u) (show 0 < dd + 1 by omega)
    omega
  have hq2 : 0 ≤ Q2 ∧ Q2 ≤ dd := by
    have := Int.emod_nonneg (IntKind.u64.wrap more) (show dd + 1 ≠ 0 by omega)
    have := Int.emod_lt_of_pos (IntKind.u64.wrap more) (show 0 < dd + 1 by omega)
    omega
  have hl1 : Q1 * B1 ≤ 536870912 := Int.le_trans (Int.mul_le_mul_of_nonneg_right hq1.2 (by omega)) hdm
  have hl2 : Q2 * B1 ≤ 536870912 := Int.le_trans (Int.mul_le_mul_of_nonneg_right hq2.2 (by omega)) hdm
  have hl3 : 0 ≤ Q1 * B1 := Int.mul_nonneg hq1.1 (by omega)
  have hl4 : 0 ≤ Q2 * B1 := Int.mul_nonneg hq2.1 (by omega)
  have hNN : 0 ≤ N ∧ N ≤ 9223372036854775807 := by rw [u64_wrapT] at hN; omega
  have hPP : 0 ≤ P ∧ P < 274877906944 := by omega
  have HFA := Lib.hid (ra_apart (now := N) (pos := P) hc hm1 hm2 hNN.1 hPP.1 (by omega) hq1.1 hl1 hq2.1 hl2)
  have e1 : wrap64 (dd + 1) = dd + 1 := by rw [wrap64_eq]; omega
  have e2 : IntKind.i64.wrap (dd + 1) = dd + 1 := by rw [wrap_i64]; omega
  have e3 : IntKind.u64.wrap (dd + 1) = dd + 1 := by rw [u64_wrapT]; omega
  have ea : IntKind.i64.wrap dd = dd := by rw [wrap_i64]; omega
  have eb : IntKind.i64.wrap (Q1 * B1 + Q2 * B1) = Q1 * B1 + Q2 * B1 := by rw [wrap_i64]; omega
  have e4 : (IntKind.u64.wrap u).tmod (dd + 1) = Q1 := by rw [Int.tmod_eq_emod_of_nonneg (by rw [u64_wrapT]; omega)]; exact hQ1
  have e5 : (IntKind.u64.wrap more).tmod (dd + 1) = Q2 := by rw [Int.tmod_eq_emod_of_nonneg (by rw [u64_wrapT]; omega)]; exact hQ2
  have e6 : (IntKind.u64.wrap pos).tmod 274877906944 = P := by rw [Int.tmod_eq_emod_of_nonneg (by rw [u64_wrapT]; omega)]; exact hP
  have e7 : IntKind.i64.wrap Q1 = Q1 := by rw [wrap_i64]; omega
  have e8 : IntKind.i64.wrap Q2 = Q2 := by rw [wrap_i64]; omega
  have e9 : IntKind.i64.wrap N = N := by rw [wrap_i64]; omega
  have e10 : IntKind.i64.wrap P = P := by rw [wrap_i64]; omega
  have e11 : wrap64 Q1 = Q1 := by rw [wrap64_eq]; omega
  have e12 : wrap64 Q2 = Q2 := by rw [wrap64_eq]; omega
  have e13 : wrap64 N = N := by rw [wrap64_eq]; omega
  have e14 : wrap64 P = P := by rw [wrap64_eq]; omega
  have e15 : wrap64 (Q1 * B1) = Q1 * B1 := by rw [wrap64_eq]; omega
  have e16 : wrap64 (Q2 * B1) = Q2 * B1 := by rw [wrap64_eq]; omega
  have e17 : wrap64 (Q1 * B1 + Q2 * B1) = Q1 * B1 + Q2 * B1 := by rw [wrap64_eq]; omega
  have e18 : IntKind.i64.wrap (Q1 * B1) = Q1 * B1 := by rw [wrap_i64]; omega
  have e19 : IntKind.i64.wrap (Q2 * B1) = Q2 * B1 := by rw [wrap_i64]; omega
  have hdz : ¬ dd + 1 = 0 := by omega
  obtain ⟨d3, d4⟩ := neI hdz
  have HNN := Lib.hid hNN
  obtain ⟨x0, x1, x2⟩ : w4.cell? ⟨w.heap.size + 1, 0, none⟩ = some (.int .i64 now) ∧ w4.cell? ⟨w.heap.size + 1, 1, none⟩ = some (.int .i64 pos) ∧ w4.cell? ⟨w.heap.size + 1, 2, none⟩ = some (.int .i64 u) := by
    have hA := HA2.out.only K4.out (fun f => f)
    exact ⟨(hA 0 _ rfl).1, (hA 1 _ rfl).1, (hA 2 _ rfl).1⟩
  have nf : (M1 != 1) = false := by simpa using hm1
  have HN9 := Lib.hid hNN.2
  have HQ0 := Lib.hid (And.intro hq1.1 hq2.1)
  clear hc hdd hd0 hdm hd9 hQ1 hQ2 hP hq1 hq2 hl1 hl2 hl3 hl4 hNN hPP hm1
  have HSA : Hid (∀ w', Only (fun _ => False) w4 w' → Only (fun _ => False) w4 w' ∧ w'.cell? ⟨w.heap.size + 1, 0, none⟩ = some (.int .i64 now) ∧ w'.cell? ⟨w.heap.size + 1, 1, none⟩ = some (.int .i64 pos) ∧ w'.cell? ⟨w.heap.size + 1, 2, none⟩ = some (.int .i64 u)) := Lib.hid (fun w' ho => ⟨ho, ho.cell' x0 (fun f => f), ho.cell' x1 (fun f => f), ho.cell' x2 (fun f => f)⟩)
  have HBR : Hid (D ≠ 0 → M2 = 1) := Lib.hid (fun e => hm2.resolve_left e)
  clear hm2
  by_cases hD : D = 0
  · obtain ⟨y1, y2⟩ : (D == 0) = true ∧ (D != 0) = false := by constructor <;> simpa using hD
    clear hD
    go_wp2_with fail
    refine wp_region_noPanic ?_
    refine wp_region_held_drew (S := (fun w' => Only (fun _ => False) w4 w' ∧ w'.cell? ⟨w.heap.size + 1, 0, none⟩ = some (.int .i64 now) ∧ w'.cell? ⟨w.heap.size + 1, 1, none⟩ = some (.int .i64 pos) ∧ w'.cell? ⟨w.heap.size + 1, 2, none⟩ = some (.int .i64 u))) (by kernel_rfl) (HSA.out _ (Only.refl _ _).drew) (fun hHeld => ?_)
    refine wpAnyH_take (i := 0) (v := ?_) rfl (by kernel_rfl) (by kernel_rfl) (by kernel_rfl) (fun _ _ _ h => h) (Or.inl ⟨by rfl, ?_⟩) (by assumption) ?_
    rotate_left 1
    · intro w' hSw
      try dsimp only at hSw
      go_simp
      try with_reducible rfl
    try simp only [List.getElem_toArray, List.getElem_cons_zero, Act.put, List.setIfInBounds_toArray, List.set_cons_zero, List.set_cons_succ]
    refine wpAnyH_take (i := 1) (v := ?_) rfl (by kernel_rfl) (by kernel_rfl) (by kernel_rfl) (fun _ _ _ h => h) (Or.inl ⟨by rfl, ?_⟩) (by assumption) ?_
    rotate_left 1
    · intro w' hSw
      try dsimp only at hSw
      go_simp
      try with_reducible rfl
    try simp only [List.getElem_toArray, List.getElem_cons_zero, List.getElem_cons_succ, Act.put, List.setIfInBounds_toArray, List.set_cons_zero, List.set_cons_succ]
    refine wpAnyH_take (i := 2) (v := ?_) rfl (by kernel_rfl) (by kernel_rfl) (by kernel_rfl) (fun _ _ _ h => h) (Or.inl ⟨by rfl, ?_⟩) (by assumption) ?_
    rotate_left 1
    · intro w' hSw
      try dsimp only at hSw
      go_simp
      try with_reducible rfl
    try simp only [List.getElem_toArray, List.getElem_cons_zero, List.getElem_cons_succ, Act.put, List.setIfInBounds_toArray, List.set_cons_zero, List.set_cons_succ]
    refine wpAnyH_take (i := 3) (v := ?_) rfl (by kernel_rfl) (by kernel_rfl) (by kernel_rfl) (fun _ _ _ h => h) (Or.inl ⟨by rfl, ?_⟩) (by assumption) ?_
    rotate_left 1
    · intro w' hSw
      try dsimp only at hSw
      go_simp
      try with_reducible rfl
    try simp only [List.getElem_toArray, List.getElem_cons_zero, List.getElem_cons_succ, Act.put, List.setIfInBounds_toArray, List.set_cons_zero, List.set_cons_succ]
    refine wpAnyH_take (i := 4) (v := ?_) rfl (by kernel_rfl) (by kernel_rfl) (by kernel_rfl) (fun _ _ _ h => h) (Or.inl ⟨by rfl, ?_⟩) (by assumption) ?_
    rotate_left 1
    · intro w' hSw
      try dsimp only at hSw
      go_simp
      try with_reducible rfl
    try simp only [List.getElem_toArray, List.getElem_cons_zero, List.getElem_cons_succ, Act.put, List.setIfInBounds_toArray, List.set_cons_zero, List.set_cons_succ]
    refine wpAnyH_take (i := 5) (v := ?_) rfl (by kernel_rfl) (by kernel_rfl) (by kernel_rfl) (fun _ _ _ h => h) (Or.inl ⟨by rfl, ?_⟩) (by assumption) ?_
    rotate_left 1
    · intro w' hSw
      try dsimp only at hSw
      go_simp
      try with_reducible rfl
    try simp only [List.getElem_toArray, List.getElem_cons_zero, List.getElem_cons_succ, Act.put, List.setIfInBounds_toArray, List.set_cons_zero, List.set_cons_succ]
    refine wpAnyH_take (i := 6) (v := ?_) rfl (by kernel_rfl) (by kernel_rfl) (by kernel_rfl) (fun _ _ _ h => h) (Or.inl ⟨by rfl, ?_⟩) (by assumption) ?_
    rotate_left 1
    · intro w' hSw
      try dsimp only at hSw
      go_simp
      try with_reducible rfl
    try simp only [List.getElem_toArray, List.getElem_cons_zero, List.getElem_cons_succ, Act.put, List.setIfInBounds_toArray, List.set_cons_zero, List.set_cons_succ]
    refine wpAnyH_take (i := 7) (v := ?_) rfl (by kernel_rfl) (by kernel_rfl) (by kernel_rfl) (fun _ _ _ h => h) (Or.inl ⟨by rfl, ?_⟩) (by assumption) ?_
    rotate_left 1
    · intro w' hSw
      try dsimp only at hSw
      go_simp
      try with_reducible rfl
    try simp only [List.getElem_toArray, List.getElem_cons_zero, List.getElem_cons_succ, Act.put, List.setIfInBounds_toArray, List.set_cons_zero, List.set_cons_succ]
    refine wpAnyH_take (i := 8) (v := ?_) rfl (by kernel_rfl) (by kernel_rfl) (by kernel_rfl) (fun _ _ _ h => h) (Or.inl ⟨by rfl, ?_⟩) (by assumption) ?_
    rotate_left 1
    · intro w' hSw
      try dsimp only at hSw
      go_simp
      try with_reducible rfl
    try simp only [List.getElem_toArray, List.getElem_cons_zero, List.getElem_cons_succ, Act.put, List.setIfInBounds_toArray, List.set_cons_zero, List.set_cons_succ]
    refine wpAnyH_take (i := 9) (v := ?_) rfl (by kernel_rfl) (by kernel_rfl) (by kernel_rfl) (fun _ _ _ h => h) (Or.inl ⟨by rfl, ?_⟩) (by assumption) ?_
    rotate_left 1
    · intro w' hSw
      try dsimp only at hSw
      go_simp
      try with_reducible rfl
    try simp only [List.getElem_toArray, List.getElem_cons_zero, List.getElem_cons_succ, Act.put, List.setIfInBounds_toArray, List.set_cons_zero, List.set_cons_succ]
    refine wpAnyH_take (i := 10) (v := ?_) rfl (by kernel_rfl) (by kernel_rfl) (by kernel_rfl) (fun _ _ _ h => h) (Or.inl ⟨by rfl, ?_⟩) (by assumption) ?_
    rotate_left 1
    · intro w' hSw
      try dsimp only at hSw
      go_simp
      try with_reducible rfl
    try simp only [List.getElem_toArray, List.getElem_cons_zero, List.getElem_cons_succ, Act.put, List.setIfInBounds_toArray, List.set_cons_zero, List.set_cons_succ]
    refine wpAnyH_take (i := 11) (v := ?_) rfl (by kernel_rfl) (by kernel_rfl) (by kernel_rfl) (fun _ _ _ h => h) (Or.inl ⟨by rfl, ?_⟩) (by assumption) ?_
    rotate_left 1
    · intro w' hSw
      try dsimp only at hSw
      go_simp
      try with_reducible rfl
    try simp only [List.getElem_toArray, List.getElem_cons_zero, List.getElem_cons_succ, Act.put, List.setIfInBounds_toArray, List.set_cons_zero, List.set_cons_succ]
    refine wpAnyH_take (i := 12) (v := ?_) rfl (by kernel_rfl) (by kernel_rfl) (by kernel_rfl) (fun _ _ _ h => h) (Or.inl ⟨by rfl, ?_⟩) (by assumption) ?_
    rotate_left 1
    · intro w' hSw
      try dsimp only at hSw
      go_simp
      try with_reducible rfl
    try simp only [List.getElem_toArray, List.getElem_cons_zero, List.getElem_cons_succ, Act.put, List.setIfInBounds_toArray, List.set_cons_zero, List.set_cons_succ]
    refine wpAnyH_take (i := 13) (v := ?_) rfl (by kernel_rfl) (by kernel_rfl) (by kernel_rfl) (fun _ _ _ h => h) (Or.inl ⟨by rfl, ?_⟩) (by assumption) ?_
    rotate_left 1
    · intro w' hSw
      try dsimp only at hSw
      go_simp
      try with_reducible rfl
    try simp only [List.getElem_toArray, List.getElem_cons_zero, List.getElem_cons_succ, Act.put, List.setIfInBounds_toArray, List.set_cons_zero, List.set_cons_succ]
    refine wpAnyH_take (i := 14) (v := ?_) rfl (by kernel_rfl) (by kernel_rfl) (by kernel_rfl) (fun _ _ _ h => h) (Or.inl ⟨by rfl, ?_⟩) (by assumption) ?_
    rotate_left 1
    · intro w' hSw
      try dsimp only at hSw
      go_simp
      try with_reducible rfl
    try simp only [List.getElem_toArray, List.getElem_cons_zero, List.getElem_cons_succ, Act.put, List.setIfInBounds_toArray, List.set_cons_zero, List.set_cons_succ]
    refine wpAnyH_take (i := 15) (v := ?_) rfl (by kernel_rfl) (by kernel_rfl) (by kernel_rfl) (fun _ _ _ h => h) (Or.inl ⟨by rfl, ?_⟩) (by assumption) ?_
    rotate_left 1
    · intro w' hSw
      try dsimp only at hSw
      go_simp
      try with_reducible rfl
    try simp only [List.getElem_toArray, List.getElem_cons_zero, List.getElem_cons_succ, Act.put, List.setIfInBounds_toArray, List.set_cons_zero, List.set_cons_succ]
    refine wpAnyH_take (i := 16) (v := ?_) rfl (by kernel_rfl) (by kernel_rfl) (by kernel_rfl) (fun _ _ _ h => h) (Or.inl ⟨by rfl, ?_⟩) (by assumption) ?_
    rotate_left 1
    · intro w' hSw
      try dsimp only at hSw
      go_simp
      try with_reducible rfl
    try simp only [List.getElem_toArray, List.getElem_cons_zero, List.getElem_cons_succ, Act.put, List.setIfInBounds_toArray, List.set_cons_zero, List.set_cons_succ]
    refine wpAnyH_take (i := 17) (v := ?_) rfl (by kernel_rfl) (by kernel_rfl) (by kernel_rfl) (fun _ _ _ h => h) (Or.inl ⟨by rfl, ?_⟩) (by assumption) ?_
    rotate_left 1
    · intro w' hSw
      try dsimp only at hSw
      go_simp
      try with_reducible rfl
    try simp only [List.getElem_toArray, List.getElem_cons_zero, List.getElem_cons_succ, Act.put, List.setIfInBounds_toArray, List.set_cons_zero, List.set_cons_succ]
    refine wpAnyH_take (i := 18) (v := ?_) rfl (by kernel_rfl) (by kernel_rfl) (by kernel_rfl) (fun _ _ _ h => h) (Or.inl ⟨by rfl, ?_⟩) (by assumption) ?_
    rotate_left 1
    · intro w' hSw
      try dsimp only at hSw
      go_simp
      try with_reducible rfl
    try simp only [List.getElem_toArray, List.getElem_cons_zero, List.getElem_cons_succ, Act.put, List.setIfInBounds_toArray, List.set_cons_zero, List.set_cons_succ]
    refine wpAnyH_take (i := 19) (v := ?_) rfl (by kernel_rfl) (by kernel_rfl) (by kernel_rfl) (fun _ _ _ h => h) (Or.inl ⟨by rfl, ?_⟩) (by assumption) ?_
    rotate_left 1
    · intro w' hSw
      try dsimp only at hSw
      go_simp
      try with_reducible rfl
    try simp only [List.getElem_toArray, List.getElem_cons_zero, List.getElem_cons_succ, Act.put, List.setIfInBounds_toArray, List.set_cons_zero, List.set_cons_succ]
    refine wpAnyH_take (i := 20) (v := ?_) rfl (by kernel_rfl) (by kernel_rfl) (by kernel_rfl) (fun _ _ _ h => h) (Or.inl ⟨by rfl, ?_⟩) (by assumption) ?_
    rotate_left 1
    · intro w' hSw
      try dsimp only at hSw
      go_simp
      try with_reducible rfl
    try simp only [List.getElem_toArray, List.getElem_cons_zero, List.getElem_cons_succ, Act.put, List.setIfInBounds_toArray, List.set_cons_zero, List.set_cons_succ]
    refine wpAnyH_take (i := 21) (v := ?_) rfl (by kernel_rfl) (by kernel_rfl) (by kernel_rfl) (fun _ _ _ h => h) (Or.inl ⟨by rfl, ?_⟩) (by assumption) ?_
    rotate_left 1
    · intro w' hSw
      try dsimp only at hSw
      go_simp
      try with_reducible rfl
    try simp only [List.getElem_toArray, List.getElem_cons_zero, List.getElem_cons_succ, Act.put, List.setIfInBounds_toArray, List.set_cons_zero, List.set_cons_succ]
    refine wpAnyH_take (i := 22) (v := ?_) rfl (by kernel_rfl) (by kernel_rfl) (by kernel_rfl) (fun _ _ _ h => h) (Or.inl ⟨by rfl, ?_⟩) (by assumption) ?_
    rotate_left 1
    · intro w' hSw
      try dsimp only at hSw
      go_simp
      try with_reducible rfl
    try simp only [List.getElem_toArray, List.getElem_cons_zero, List.getElem_cons_succ, Act.put, List.setIfInBounds_toArray, List.set_cons_zero, List.set_cons_succ]
    refine wpAnyH_done (by kernel_rfl) ?_ _
    refine NoPanic.normal ?_
    go_wp2_with fail
    refine wp_region_noPanic ?_
    refine wp_region_held_drew (S := (fun w' => Only (fun _ => False) w4 w' ∧ w'.cell? ⟨w.heap.size + 1, 0, none⟩ = some (.int .i64 now) ∧ w'.cell? ⟨w.heap.size + 1, 1, none⟩ = some (.int .i64 pos) ∧ w'.cell? ⟨w.heap.size + 1, 2, none⟩ = some (.int .i64 u))) (by kernel_rfl) (HSA.out _ (Only.refl _ _).drew.drew) (fun hHeld => ?_)
    refine wpAnyH_take (i := 0) (v := ?_) rfl (by kernel_rfl) (by kernel_rfl) (by kernel_rfl) (fun _ _ _ h => h) (Or.inl ⟨by rfl, ?_⟩) (by assumption) ?_
    rotate_left 1
    · intro w' hSw
      try dsimp only at hSw
      go_simp
      try with_reducible rfl
    try simp only [List.getElem_toArray, List.getElem_cons_zero, Act.put, List.setIfInBounds_toArray, List.set_cons_zero, List.set_cons_succ]
    refine wpAnyH_take (i := 1) (v := ?_) rfl (by kernel_rfl) (by kernel_rfl) (by kernel_rfl) (fun _ _ _ h => h) (Or.inl ⟨by rfl, ?_⟩) (by assumption) ?_
    rotate_left 1
    · intro w' hSw
      try dsimp only at hSw
      go_simp
      try with_reducible rfl
    try simp only [List.getElem_toArray, List.getElem_cons_zero, List.getElem_cons_succ, Act.put, List.setIfInBounds_toArray, List.set_cons_zero, List.set_cons_succ]
    refine wpAnyH_take (i := 2) (v := ?_) rfl (by kernel_rfl) (by kernel_rfl) (by kernel_rfl) (fun _ _ _ h => h) (Or.inl ⟨by rfl, ?_⟩) (by assumption) ?_
    rotate_left 1
    · intro w' hSw
      try dsimp only at hSw
      go_simp
      try with_reducible rfl
    try simp only [List.getElem_toArray, List.getElem_cons_zero, List.getElem_cons_succ, Act.put, List.setIfInBounds_toArray, List.set_cons_zero, List.set_cons_succ]
    refine wpAnyH_take (i := 3) (v := ?_) rfl (by kernel_rfl) (by kernel_rfl) (by kernel_rfl) (fun _ _ _ h => h) (Or.inl ⟨by rfl, ?_⟩) (by assumption) ?_
    rotate_left 1
    · intro w' hSw
      try dsimp only at hSw
      go_simp
      try with_reducible rfl
    try simp only [List.getElem_toArray, List.getElem_cons_zero, List.getElem_cons_succ, Act.put, List.setIfInBounds_toArray, List.set_cons_zero, List.set_cons_succ]
    refine wpAnyH_take (i := 4) (v := ?_) rfl (by kernel_rfl) (by kernel_rfl) (by kernel_rfl) (fun _ _ _ h => h) (Or.inl ⟨by rfl, ?_⟩) (by assumption) ?_
    rotate_left 1
    · intro w' hSw
      try dsimp only at hSw
      go_simp
      try with_reducible rfl
    try simp only [List.getElem_toArray, List.getElem_cons_zero, List.getElem_cons_succ, Act.put, List.setIfInBounds_toArray, List.set_cons_zero, List.set_cons_succ]
    refine wpAnyH_take (i := 5) (v := ?_) rfl (by kernel_rfl) (by kernel_rfl) (by kernel_rfl) (fun _ _ _ h => h) (Or.inl ⟨by rfl, ?_⟩) (by assumption) ?_
    rotate_left 1
    · intro w' hSw
      try dsimp only at hSw
      go_simp
      try with_reducible rfl
    try simp only [List.getElem_toArray, List.getElem_cons_zero, List.getElem_cons_succ, Act.put, List.setIfInBounds_toArray, List.set_cons_zero, List.set_cons_succ]
    refine wpAnyH_take (i := 6) (v := ?_) rfl (by kernel_rfl) (by kernel_rfl) (by kernel_rfl) (fun _ _ _ h => h) (Or.inl ⟨by rfl, ?_⟩) (by assumption) ?_
    rotate_left 1
    · intro w' hSw
      try dsimp only at hSw
      go_simp
      try with_reducible rfl
    try simp only [List.getElem_toArray, List.getElem_cons_zero, List.getElem_cons_succ, Act.put, List.setIfInBounds_toArray, List.set_cons_zero, List.set_cons_succ]
    refine wpAnyH_take (i := 7) (v := ?_) rfl (by kernel_rfl) (by kernel_rfl) (by kernel_rfl) (fun _ _ _ h => h) (Or.inl ⟨by rfl, ?_⟩) (by assumption) ?_
    rotate_left 1
    · intro w' hSw
      try dsimp only at hSw
      go_simp
      try with_reducible rfl
    try simp only [List.getElem_toArray, List.getElem_cons_zero, List.getElem_cons_succ, Act.put, List.setIfInBounds_toArray, List.set_cons_zero, List.set_cons_succ]
    refine wpAnyH_take (i := 8) (v := ?_) rfl (by kernel_rfl) (by kernel_rfl) (by kernel_rfl) (fun _ _ _ h => h) (Or.inl ⟨by rfl, ?_⟩) (by assumption) ?_
    rotate_left 1
    · intro w' hSw
      try dsimp only at hSw
      go_simp
      try with_reducible rfl
    try simp only [List.getElem_toArray, List.getElem_cons_zero, List.getElem_cons_succ, Act.put, List.setIfInBounds_toArray, List.set_cons_zero, List.set_cons_succ]
    refine wpAnyH_take (i := 9) (v := ?_) rfl (by kernel_rfl) (by kernel_rfl) (by kernel_rfl) (fun _ _ _ h => h) (Or.inl ⟨by rfl, ?_⟩) (by assumption) ?_
    rotate_left 1
    · intro w' hSw
      try dsimp only at hSw
      go_simp
      try with_reducible rfl
    try simp only [List.getElem_toArray, List.getElem_cons_zero, List.getElem_cons_succ, Act.put, List.setIfInBounds_toArray, List.set_cons_zero, List.set_cons_succ]
    refine wpAnyH_take (i := 10) (v := ?_) rfl (by kernel_rfl) (by kernel_rfl) (by kernel_rfl) (fun _ _ _ h => h) (Or.inl ⟨by rfl, ?_⟩) (by assumption) ?_
    rotate_left 1
    · intro w' hSw
      try dsimp only at hSw
      go_simp
      try with_reducible rfl
    try simp only [List.getElem_toArray, List.getElem_cons_zero, List.getElem_cons_succ, Act.put, List.setIfInBounds_toArray, List.set_cons_zero, List.set_cons_succ]
    refine wpAnyH_take (i := 11) (v := ?_) rfl (by kernel_rfl) (by kernel_rfl) (by kernel_rfl) (fun _ _ _ h => h) (Or.inl ⟨by rfl, ?_⟩) (by assumption) ?_
    rotate_left 1
    · intro w' hSw
      try dsimp only at hSw
      go_simp
      try with_reducible rfl
    try simp only [List.getElem_toArray, List.getElem_cons_zero, List.getElem_cons_succ, Act.put, List.setIfInBounds_toArray, List.set_cons_zero, List.set_cons_succ]
    refine wpAnyH_done (by kernel_rfl) ?_ _
    refine NoPanic.normal ?_
    clear HSA
    obtain ⟨p0, p1, p2, p3, p4, p5, p6, p7, p8, p9, p10⟩ : PlanAt w4.drew.drew w.heap.size D F T G1 M1 B1 G2 M2 B2 a3 a4 s1.length s2.length q3 q4 := (HPB.out.only (K4.out.drew.drew) (fun f => f)).all.1
    go_wp2_with fail
    try rw [e18]
    try rw [e19]
    clear hN e1 e2 e3 e4 e5 e6 e7 e8 e9 e10 e11 e12 e13 e14 ea d1 d2 d3 d4 hdv hdz p0 p1 p2 p3 p4 p5 p6 p7 p8 p9 p10
    obtain ⟨⟨fx1, fx2, fx3⟩, ⟨fy1, fy2, fy3⟩, ⟨fz1, fz2, fz3⟩, fc, ⟨fd1, fd2⟩, fq1, fq2⟩ := HFA.out
    have HRX := HRT.out N HN9.out P (Q1 * B1)
    have HRY := HRT.out N HN9.out (P + Q1) (Q2 * B1)
    have HRZ := HRT.out N HN9.out P (Q1 * B1 + Q2 * B1)
    rw [fx1, fx2, fx3] at HRX
    rw [fy1, fy2, fy3] at HRY
    rw [fz1, fz2, fz3] at HRZ
    have HPX := Lib.hid (ra_pos D F T G1 M1 B1 G2 M2 B2 s1 s2 N P (Q1 * B1))
    have HPY := Lib.hid (ra_pos D F T G1 M1 B1 G2 M2 B2 s1 s2 N (P + Q1) (Q2 * B1))
    have HPZ := Lib.hid (ra_pos D F T G1 M1 B1 G2 M2 B2 s1 s2 N P (Q1 * B1 + Q2 * B1))
    clear HRT HFA fx1 fx2 fx3 fy1 fy2 fy3 fz1 fz2 fz3
    generalize Q1 * B1 = T1 at *
    generalize Q2 * B1 = T2 at *
    generalize raL D F T G1 M1 B1 G2 M2 B2 s1 s2 N P T1 = LX at *
    generalize raL D F T G1 M1 B1 G2 M2 B2 s1 s2 N (P + Q1) T2 = LY at *
    generalize raL D F T G1 M1 B1 G2 M2 B2 s1 s2 N P (T1 + T2) = LZ at *
    rw [← fc] at HRZ fd1 fd2
    clear fc
    generalize costB LX = cx at *
    generalize costB LY = cy at *
    have g1 : IntKind.i64.wrap (cx + cy) = cx + cy := by rw [wrap_i64]; omega
    have g2 : wrap64 (cx + cy) = cx + cy := by rw [wrap64_eq]; omega
    have g3 : IntKind.i64.wrap (Q1 + Q2) = Q1 + Q2 := by rw [wrap_i64]; have := HQ0.out; omega
    have g4 : wrap64 (Q1 + Q2) = Q1 + Q2 := by rw [wrap64_eq]; have := HQ0.out; omega
    have HRX := Lib.hid HRX
    have HRY := Lib.hid HRY
    have HRZ := Lib.hid HRZ
    refine (HTO.out _).mono ?_
    rintro _ w5 ⟨rfl, k5⟩
    have K5 := Lib.hid ((K4.out.drew.drew).trans k5)
    clear k5
    go_wp2_with fail
    with_reducible refine (HRX.out _ K5.out).mono ?_
    rintro _ w6 ⟨al0, cl0, rfl, hrd0, k6⟩
    obtain ⟨W7, hb7, hW7⟩ := rbox_new (K5.out.trans k6) cl0 Q1 cx (P + Q1) 34 hrd0
    have K7 := Lib.hid hb7.2.2.2
    have HB7 := Lib.hid hb7
    clear k6 hrd0 hb7
    go_wp2_with fail
    rw [← hW7]
    clear hW7
    have HS7 : Hid (∀ w', Only (fun _ => False) W7 w' → Only (fun _ => False) W7 w' ∧ w'.cell? ⟨w.heap.size, 0, none⟩ = some (.int .i64 D) ∧ w'.cell? ⟨w.heap.size, 1, none⟩ = some (.int .i64 F) ∧ w'.cell? ⟨w.heap.size, 2, none⟩ = some (.int .i64 T) ∧ w'.cell? ⟨w.heap.size, 3, none⟩ = some (.int .i64 G1) ∧ w'.cell? ⟨w.heap.size, 4, none⟩ = some (.int .i64 M1) ∧ w'.cell? ⟨w.heap.size, 5, none⟩ = some (.int .i64 B1) ∧ w'.cell? ⟨w.heap.size, 6, none⟩ = some (.slice a3 s1.length q3) ∧ w'.cell? ⟨w.heap.size, 7, none⟩ = some (.int .i64 G2) ∧ w'.cell? ⟨w.heap.size, 8, none⟩ = some (.int .i64 M2) ∧ w'.cell? ⟨w.heap.size, 9, none⟩ = some (.int .i64 B2) ∧ w'.cell? ⟨w.heap.size, 10, none⟩ = some (.slice a4 s2.length q4) ∧ w'.cell? ⟨w6.heap.size, 3, none⟩ = some (.int .i64 (P + Q1))) := Lib.hid (fun w' ho => by
      obtain ⟨p0, p1, p2, p3, p4, p5, p6, p7, p8, p9, p10⟩ := (HPB.out.only (K7.out.trans ho) (fun f => f)).all.1
      exact ⟨ho, p0, p1, p2, p3, p4, p5, p6, p7, p8, p9, p10, ((HB7.out.only ho).all).2.2.2⟩)
    have HNEW : Hid (∀ (W W' : World), Only (fun _ => False) ((W.alloc (.cells #[.slice none 0 0, .int .i64 0, .int .i64 0, .int .i64 0] 34)).drew) W' → Zr4 W' W.heap.size) := Lib.hid (fun W W' ho => (Zr4.new W _).only ((Only.refl (fun _ => False) _).drew.trans ho) (fun f => f))
    have HNEW2 : Hid (∀ (W W' : World), Only (fun _ => False) (W.alloc (.cells #[.slice none 0 0, .int .i64 0, .int .i64 0, .int .i64 0] 34)) W' → Zr4 W' W.heap.size) := Lib.hid (fun W W' ho => (Zr4.new W _).only ho (fun f => f))
    have HRY7 := Lib.hid (fun w' (ho : Only (fun _ => False) W7 w') => HRY.out w' (K7.out.trans ho))
    have K77 : Hid (Only (fun _ => False) W7 W7) := Lib.hid (Only.refl _ _)
    go_region_held3 (fun w' => Only (fun _ => False) W7 w' ∧ w'.cell? ⟨w.heap.size, 0, none⟩ = some (.int .i64 D) ∧ w'.cell? ⟨w.heap.size, 1, none⟩ = some (.int .i64 F) ∧ w'.cell? ⟨w.heap.size, 2, none⟩ = some (.int .i64 T) ∧ w'.cell? ⟨w.heap.size, 3, none⟩ = some (.int .i64 G1) ∧ w'.cell? ⟨w.heap.size, 4, none⟩ = some (.int .i64 M1) ∧ w'.cell? ⟨w.heap.size, 5, none⟩ = some (.int .i64 B1) ∧ w'.cell? ⟨w.heap.size, 6, none⟩ = some (.slice a3 s1.length q3) ∧ w'.cell? ⟨w.heap.size, 7, none⟩ = some (.int .i64 G2) ∧ w'.cell? ⟨w.heap.size, 8, none⟩ = some (.int .i64 M2) ∧ w'.cell? ⟨w.heap.size, 9, none⟩ = some (.int .i64 B2) ∧ w'.cell? ⟨w.heap.size, 10, none⟩ = some (.slice a4 s2.length q4) ∧ w'.cell? ⟨w6.heap.size, 3, none⟩ = some (.int .i64 (P + Q1)))
      ((refine HS7.out _ ?_; first | with_reducible exact K77.out | with_reducible exact K77.out.drew | with_reducible exact K77.out.alloc _ | with_reducible exact (K77.out.alloc _).drew | with_reducible exact (K77.out.drew).alloc _ | with_reducible exact (K77.out.drew).trans ho | with_reducible exact hot.out.alloc _ | with_reducible exact hot.out | exact puts_only _ [.slice al LY.length cl, .int .i64 Q2, .int .i64 cy, .int .i64 (P + Q1 + Q2)] 0 W7 _ hot.out (.inr (Nat.le_trans K77.out.size (by first | exact Nat.le_refl _ | assumption)))))
      (first | (go_at_call 16; (with_reducible refine (HTO.out _).mono ?_); rintro _ wn ⟨rfl, ho⟩; have hot := Lib.hid (show Only (fun _ => False) W7 wn from by go_split_ands; exact Only.trans (by assumption) ho); (first | (with_reducible have hw3 := Lib.hid ((Only.refl (fun _ => False) W7).drew.trans ho)) | (with_reducible have hw3 := Lib.hid (((Only.refl (fun _ => False) W7).alloc _).drew.trans ho)) | (with_reducible have hw3 := Lib.hid (((Only.refl (fun _ => False) W7).drew.alloc _).trans ho)) | (with_reducible have hw3 := Lib.hid ((Only.refl (fun _ => False) W7).trans ho)) | (with_reducible have hw3 := Lib.hid (((Only.refl (fun _ => False) W7).alloc _).trans ho))); have hsz := hw3.out.size; (try (with_reducible have hbx := HNEW.out _ _ ho)); (try (with_reducible have hbx := HNEW2.out _ _ ho))) | (go_at_call 17; (with_reducible refine (HRY7.out _ (by go_split_ands; assumption)).mono ?_); rintro _ wn ⟨al, cl, rfl, hrd, ho⟩; have hot := Lib.hid (show Only (fun _ => False) W7 wn from by go_split_ands; exact Only.trans (by assumption) ho); (try (with_reducible have hbx := HNEW.out _ _ ho)); (try (with_reducible have hbx := HNEW2.out _ _ ho)); (try (with_reducible have hbx := hbx.only ho (fun f => f))); (first | (with_reducible have hw3 := Lib.hid (hw3.out.trans ho)) | (with_reducible have hw3 := Lib.hid ((hw3.out.alloc _).trans ho))); (try (obtain ⟨⟨z0, z1, z2, z3⟩, y0, y1, y2, y3⟩ := hbx.all))))
    all_goals
      first
      | (obtain ⟨W8, hb, hW⟩ := rbox_put hbx hw3.out (by first | exact Nat.le_refl _ | assumption) cl Q2 cy (P + Q1 + Q2) hrd HPY.out
         rw [← hW])
      | (obtain ⟨W8, hb, hW⟩ := rbox_new hw3.out cl Q2 cy (P + Q1 + Q2) 34 hrd
         rw [← hW])
      clear hW
      have HB8 := Lib.hid hb
      have K8 := Lib.hid (K7.out.trans hb.2.2.2)
      have HB78 := Lib.hid (HB7.out.only hb.2.2.2)
      try clear hbx z0 z1 z2 z3 y0 y1 y2 y3
      clear ho hot hw3 hsz hrd hb
      obtain ⟨p0, p1, p2, p3, p4, p5, p6, p7, p8, p9, p10⟩ := (HPB.out.only K8.out (fun f => f)).all.1
      go_wp2_with fail
      refine (HTO.out _).mono ?_
      rintro _ w9 ⟨rfl, k9⟩
      have K9 := Lib.hid (K8.out.trans k9)
      have HB89 := Lib.hid (HB8.out.only k9)
      have HB79 := Lib.hid (HB78.out.only k9)
      clear k9 p0 p1 p2 p3 p4 p5 p6 p7 p8 p9 p10
      go_wp2_with fail
      try rw [eb]
      with_reducible refine (HRZ.out _ K9.out).mono ?_
      rintro _ w10 ⟨al1, cl1, rfl, hrd1, k10⟩
      obtain ⟨W11, hb11, hW11⟩ := rbox_new k10 cl1 (Q1 + Q2) (cx + cy) (P + Q1 + Q2) 34 hrd1
      have K11 := Lib.hid (K9.out.trans hb11.2.2.2)
      have HX := Lib.hid (HB79.out.only hb11.2.2.2)
      have HY := Lib.hid (HB89.out.only hb11.2.2.2)
      obtain ⟨u0, u1, u2, u3⟩ := HX.out.all
      obtain ⟨v0, v1, v2, v3⟩ := HY.out.all
      obtain ⟨t0, t1', t2', t3⟩ := hb11.all
      have HKK := Lib.hid (HOW.out.trans K11.out)
      clear k10 hrd1 hb11
      rw [hW11] at u0 u1 u2 u3 v0 v1 v2 v3 t0 t1' t2' t3
      have bb1 : (cx + cy == cx + cy) = true := by simp
      have bb2 : (P + Q1 + Q2 == P + Q1 + Q2) = true := by simp
      have bb3 : (Q1 + Q2 == Q1 + Q2) = true := by simp
      go_wp2_with fail
      rw [← hW11]
      go_ret
      exact ⟨rfl, HKK.out⟩
  · obtain ⟨y1, y2⟩ := neI hD
    have nm : (M2 != 1) = false := by simpa using HBR.out hD
    clear hD
    go_wp2_with fail
    refine wp_region_noPanic ?_
    refine wp_region_held_drew (S := (fun w' => Only (fun _ => False) w4 w' ∧ w'.cell? ⟨w.heap.size + 1, 0, none⟩ = some (.int .i64 now) ∧ w'.cell? ⟨w.heap.size + 1, 1, none⟩ = some (.int .i64 pos) ∧ w'.cell? ⟨w.heap.size + 1, 2, none⟩ = some (.int .i64 u))) (by kernel_rfl) (HSA.out _ (Only.refl _ _).drew) (fun hHeld => ?_)
    refine wpAnyH_take (i := 0) (v := ?_) rfl (by kernel_rfl) (by kernel_rfl) (by kernel_rfl) (fun _ _ _ h => h) (Or.inl ⟨by rfl, ?_⟩) (by assumption) ?_
    rotate_left 1
    · intro w' hSw
      try dsimp only at hSw
      go_simp
      try with_reducible rfl
    try simp only [List.getElem_toArray, List.getElem_cons_zero, Act.put, List.setIfInBounds_toArray, List.set_cons_zero, List.set_cons_succ]
    refine wpAnyH_take (i := 1) (v := ?_) rfl (by kernel_rfl) (by kernel_rfl) (by kernel_rfl) (fun _ _ _ h => h) (Or.inl ⟨by rfl, ?_⟩) (by assumption) ?_
    rotate_left 1
    · intro w' hSw
      try dsimp only at hSw
      go_simp
      try with_reducible rfl
    try simp only [List.getElem_toArray, List.getElem_cons_zero, List.getElem_cons_succ, Act.put, List.setIfInBounds_toArray, List.set_cons_zero, List.set_cons_succ]
    refine wpAnyH_take (i := 2) (v := ?_) rfl (by kernel_rfl) (by kernel_rfl) (by kernel_rfl) (fun _ _ _ h => h) (Or.inl ⟨by rfl, ?_⟩) (by assumption) ?_
    rotate_left 1
    · intro w' hSw
      try dsimp only at hSw
      go_simp
      try with_reducible rfl
    try simp only [List.getElem_toArray, List.getElem_cons_zero, List.getElem_cons_succ, Act.put, List.setIfInBounds_toArray, List.set_cons_zero, List.set_cons_succ]
    refine wpAnyH_take (i := 3) (v := ?_) rfl (by kernel_rfl) (by kernel_rfl) (by kernel_rfl) (fun _ _ _ h => h) (Or.inl ⟨by rfl, ?_⟩) (by assumption) ?_
    rotate_left 1
    · intro w' hSw
      try dsimp only at hSw
      go_simp
      try with_reducible rfl
    try simp only [List.getElem_toArray, List.getElem_cons_zero, List.getElem_cons_succ, Act.put, List.setIfInBounds_toArray, List.set_cons_zero, List.set_cons_succ]
    refine wpAnyH_take (i := 4) (v := ?_) rfl (by kernel_rfl) (by kernel_rfl) (by kernel_rfl) (fun _ _ _ h => h) (Or.inl ⟨by rfl, ?_⟩) (by assumption) ?_
    rotate_left 1
    · intro w' hSw
      try dsimp only at hSw
      go_simp
      try with_reducible rfl
    try simp only [List.getElem_toArray, List.getElem_cons_zero, List.getElem_cons_succ, Act.put, List.setIfInBounds_toArray, List.set_cons_zero, List.set_cons_succ]
    refine wpAnyH_take (i := 5) (v := ?_) rfl (by kernel_rfl) (by kernel_rfl) (by kernel_rfl) (fun _ _ _ h => h) (Or.inl ⟨by rfl, ?_⟩) (by assumption) ?_
    rotate_left 1
    · intro w' hSw
      try dsimp only at hSw
      go_simp
      try with_reducible rfl
    try simp only [List.getElem_toArray, List.getElem_cons_zero, List.getElem_cons_succ, Act.put, List.setIfInBounds_toArray, List.set_cons_zero, List.set_cons_succ]
    refine wpAnyH_take (i := 6) (v := ?_) rfl (by kernel_rfl) (by kernel_rfl) (by kernel_rfl) (fun _ _ _ h => h) (Or.inl ⟨by rfl, ?_⟩) (by assumption) ?_
    rotate_left 1
    · intro w' hSw
      try dsimp only at hSw
      go_simp
      try with_reducible rfl
    try simp only [List.getElem_toArray, List.getElem_cons_zero, List.getElem_cons_succ, Act.put, List.setIfInBounds_toArray, List.set_cons_zero, List.set_cons_succ]
    refine wpAnyH_take (i := 7) (v := ?_) rfl (by kernel_rfl) (by kernel_rfl) (by kernel_rfl) (fun _ _ _ h => h) (Or.inl ⟨by rfl, ?_⟩) (by assumption) ?_
    rotate_left 1
    · intro w' hSw
      try dsimp only at hSw
      go_simp
      try with_reducible rfl
    try simp only [List.getElem_toArray, List.getElem_cons_zero, List.getElem_cons_succ, Act.put, List.setIfInBounds_toArray, List.set_cons_zero, List.set_cons_succ]
    refine wpAnyH_take (i := 8) (v := ?_) rfl (by kernel_rfl) (by kernel_rfl) (by kernel_rfl) (fun _ _ _ h => h) (Or.inl ⟨by rfl, ?_⟩) (by assumption) ?_
    rotate_left 1
    · intro w' hSw
      try dsimp only at hSw
      go_simp
      try with_reducible rfl
    try simp only [List.getElem_toArray, List.getElem_cons_zero, List.getElem_cons_succ, Act.put, List.setIfInBounds_toArray, List.set_cons_zero, List.set_cons_succ]
    refine wpAnyH_take (i := 9) (v := ?_) rfl (by kernel_rfl) (by kernel_rfl) (by kernel_rfl) (fun _ _ _ h => h) (Or.inl ⟨by rfl, ?_⟩) (by assumption) ?_
    rotate_left 1
    · intro w' hSw
      try dsimp only at hSw
      go_simp
      try with_reducible rfl
    try simp only [List.getElem_toArray, List.getElem_cons_zero, List.getElem_cons_succ, Act.put, List.setIfInBounds_toArray, List.set_cons_zero, List.set_cons_succ]
    refine wpAnyH_take (i := 10) (v := ?_) rfl (by kernel_rfl) (by kernel_rfl) (by kernel_rfl) (fun _ _ _ h => h) (Or.inl ⟨by rfl, ?_⟩) (by assumption) ?_
    rotate_left 1
    · intro w' hSw
      try dsimp only at hSw
      go_simp
      try with_reducible rfl
    try simp only [List.getElem_toArray, List.getElem_cons_zero, List.getElem_cons_succ, Act.put, List.setIfInBounds_toArray, List.set_cons_zero, List.set_cons_succ]
    refine wpAnyH_take (i := 11) (v := ?_) rfl (by kernel_rfl) (by kernel_rfl) (by kernel_rfl) (fun _ _ _ h => h) (Or.inl ⟨by rfl, ?_⟩) (by assumption) ?_
    rotate_left 1
    · intro w' hSw
      try dsimp only at hSw
      go_simp
      try with_reducible rfl
    try simp only [List.getElem_toArray, List.getElem_cons_zero, List.getElem_cons_succ, Act.put, List.setIfInBounds_toArray, List.set_cons_zero, List.set_cons_succ]
    refine wpAnyH_take (i := 12) (v := ?_) rfl (by kernel_rfl) (by kernel_rfl) (by kernel_rfl) (fun _ _ _ h => h) (Or.inl ⟨by rfl, ?_⟩) (by assumption) ?_
    rotate_left 1
    · intro w' hSw
      try dsimp only at hSw
      go_simp
      try with_reducible rfl
    try simp only [List.getElem_toArray, List.getElem_cons_zero, List.getElem_cons_succ, Act.put, List.setIfInBounds_toArray, List.set_cons_zero, List.set_cons_succ]
    refine wpAnyH_take (i := 13) (v := ?_) rfl (by kernel_rfl) (by kernel_rfl) (by kernel_rfl) (fun _ _ _ h => h) (Or.inl ⟨by rfl, ?_⟩) (by assumption) ?_
    rotate_left 1
    · intro w' hSw
      try dsimp only at hSw
      go_simp
      try with_reducible rfl
    try simp only [List.getElem_toArray, List.getElem_cons_zero, List.getElem_cons_succ, Act.put, List.setIfInBounds_toArray, List.set_cons_zero, List.set_cons_succ]
    refine wpAnyH_take (i := 14) (v := ?_) rfl (by kernel_rfl) (by kernel_rfl) (by kernel_rfl) (fun _ _ _ h => h) (Or.inl ⟨by rfl, ?_⟩) (by assumption) ?_
    rotate_left 1
    · intro w' hSw
      try dsimp only at hSw
      go_simp
      try with_reducible rfl
    try simp only [List.getElem_toArray, List.getElem_cons_zero, List.getElem_cons_succ, Act.put, List.setIfInBounds_toArray, List.set_cons_zero, List.set_cons_succ]
    refine wpAnyH_take (i := 15) (v := ?_) rfl (by kernel_rfl) (by kernel_rfl) (by kernel_rfl) (fun _ _ _ h => h) (Or.inl ⟨by rfl, ?_⟩) (by assumption) ?_
    rotate_left 1
    · intro w' hSw
      try dsimp only at hSw
      go_simp
      try with_reducible rfl
    try simp only [List.getElem_toArray, List.getElem_cons_zero, List.getElem_cons_succ, Act.put, List.setIfInBounds_toArray, List.set_cons_zero, List.set_cons_succ]
    refine wpAnyH_take (i := 16) (v := ?_) rfl (by kernel_rfl) (by kernel_rfl) (by kernel_rfl) (fun _ _ _ h => h) (Or.inl ⟨by rfl, ?_⟩) (by assumption) ?_
    rotate_left 1
    · intro w' hSw
      try dsimp only at hSw
      go_simp
      try with_reducible rfl
    try simp only [List.getElem_toArray, List.getElem_cons_zero, List.getElem_cons_succ, Act.put, List.setIfInBounds_toArray, List.set_cons_zero, List.set_cons_succ]
    refine wpAnyH_take (i := 17) (v := ?_) rfl (by kernel_rfl) (by kernel_rfl) (by kernel_rfl) (fun _ _ _ h => h) (Or.inl ⟨by rfl, ?_⟩) (by assumption) ?_
    rotate_left 1
    · intro w' hSw
      try dsimp only at hSw
      go_simp
      try with_reducible rfl
    try simp only [List.getElem_toArray, List.getElem_cons_zero, List.getElem_cons_succ, Act.put, List.setIfInBounds_toArray, List.set_cons_zero, List.set_cons_succ]
    refine wpAnyH_take (i := 18) (v := ?_) rfl (by kernel_rfl) (by kernel_rfl) (by kernel_rfl) (fun _ _ _ h => h) (Or.inl ⟨by rfl, ?_⟩) (by assumption) ?_
    rotate_left 1
    · intro w' hSw
      try dsimp only at hSw
      go_simp
      try with_reducible rfl
    try simp only [List.getElem_toArray, List.getElem_cons_zero, List.getElem_cons_succ, Act.put, List.setIfInBounds_toArray, List.set_cons_zero, List.set_cons_succ]
    refine wpAnyH_take (i := 19) (v := ?_) rfl (by kernel_rfl) (by kernel_rfl) (by kernel_rfl) (fun _ _ _ h => h) (Or.inl ⟨by rfl, ?_⟩) (by assumption) ?_
    rotate_left 1
    · intro w' hSw
      try dsimp only at hSw
      go_simp
      try with_reducible rfl
    try simp only [List.getElem_toArray, List.getElem_cons_zero, List.getElem_cons_succ, Act.put, List.setIfInBounds_toArray, List.set_cons_zero, List.set_cons_succ]
    refine wpAnyH_take (i := 20) (v := ?_) rfl (by kernel_rfl) (by kernel_rfl) (by kernel_rfl) (fun _ _ _ h => h) (Or.inl ⟨by rfl, ?_⟩) (by assumption) ?_
    rotate_left 1
    · intro w' hSw
      try dsimp only at hSw
      go_simp
      try with_reducible rfl
    try simp only [List.getElem_toArray, List.getElem_cons_zero, List.getElem_cons_succ, Act.put, List.setIfInBounds_toArray, List.set_cons_zero, List.set_cons_succ]
    refine wpAnyH_take (i := 21) (v := ?_) rfl (by kernel_rfl) (by kernel_rfl) (by kernel_rfl) (fun _ _ _ h => h) (Or.inl ⟨by rfl, ?_⟩) (by assumption) ?_
    rotate_left 1
    · intro w' hSw
      try dsimp only at hSw
      go_simp
      try with_reducible rfl
    try simp only [List.getElem_toArray, List.getElem_cons_zero, List.getElem_cons_succ, Act.put, List.setIfInBounds_toArray, List.set_cons_zero, List.set_cons_succ]
    refine wpAnyH_take (i := 22) (v := ?_) rfl (by kernel_rfl) (by kernel_rfl) (by kernel_rfl) (fun _ _ _ h => h) (Or.inl ⟨by rfl, ?_⟩) (by assumption) ?_
    rotate_left 1
    · intro w' hSw
      try dsimp only at hSw
      go_simp
      try with_reducible rfl
    try simp only [List.getElem_toArray, List.getElem_cons_zero, List.getElem_cons_succ, Act.put, List.setIfInBounds_toArray, List.set_cons_zero, List.set_cons_succ]
    refine wpAnyH_done (by kernel_rfl) ?_ _
    refine NoPanic.normal ?_
    go_wp2_with fail
    refine wp_region_noPanic ?_
    refine wp_region_held_drew (S := (fun w' => Only (fun _ => False) w4 w' ∧ w'.cell? ⟨w.heap.size + 1, 0, none⟩ = some (.int .i64 now) ∧ w'.cell? ⟨w.heap.size + 1, 1, none⟩ = some (.int .i64 pos) ∧ w'.cell? ⟨w.heap.size + 1, 2, none⟩ = some (.int .i64 u))) (by kernel_rfl) (HSA.out _ (Only.refl _ _).drew.drew) (fun hHeld => ?_)
    refine wpAnyH_take (i := 0) (v := ?_) rfl (by kernel_rfl) (by kernel_rfl) (by kernel_rfl) (fun _ _ _ h => h) (Or.inl ⟨by rfl, ?_⟩) (by assumption) ?_
    rotate_left 1
    · intro w' hSw
      try dsimp only at hSw
      go_simp
      try with_reducible rfl
    try simp only [List.getElem_toArray, List.getElem_cons_zero, Act.put, List.setIfInBounds_toArray, List.set_cons_zero, List.set_cons_succ]
    refine wpAnyH_take (i := 1) (v := ?_) rfl (by kernel_rfl) (by kernel_rfl) (by kernel_rfl) (fun _ _ _ h => h) (Or.inl ⟨by rfl, ?_⟩) (by assumption) ?_
    rotate_left 1
    · intro w' hSw
      try dsimp only at hSw
      go_simp
      try with_reducible rfl
    try simp only [List.getElem_toArray, List.getElem_cons_zero, List.getElem_cons_succ, Act.put, List.setIfInBounds_toArray, List.set_cons_zero, List.set_cons_succ]
    refine wpAnyH_take (i := 2) (v := ?_) rfl (by kernel_rfl) (by kernel_rfl) (by kernel_rfl) (fun _ _ _ h => h) (Or.inl ⟨by rfl, ?_⟩) (by assumption) ?_
    rotate_left 1
    · intro w' hSw
      try dsimp only at hSw
      go_simp
      try with_reducible rfl
    try simp only [List.getElem_toArray, List.getElem_cons_zero, List.getElem_cons_succ, Act.put, List.setIfInBounds_toArray, List.set_cons_zero, List.set_cons_succ]
    refine wpAnyH_take (i := 3) (v := ?_) rfl (by kernel_rfl) (by kernel_rfl) (by kernel_rfl) (fun _ _ _ h => h) (Or.inl ⟨by rfl, ?_⟩) (by assumption) ?_
    rotate_left 1
    · intro w' hSw
      try dsimp only at hSw
      go_simp
      try with_reducible rfl
    try simp only [List.getElem_toArray, List.getElem_cons_zero, List.getElem_cons_succ, Act.put, List.setIfInBounds_toArray, List.set_cons_zero, List.set_cons_succ]
    refine wpAnyH_take (i := 4) (v := ?_) rfl (by kernel_rfl) (by kernel_rfl) (by kernel_rfl) (fun _ _ _ h => h) (Or.inl ⟨by rfl, ?_⟩) (by assumption) ?_
    rotate_left 1
    · intro w' hSw
      try dsimp only at hSw
      go_simp
      try with_reducible rfl
    try simp only [List.getElem_toArray, List.getElem_cons_zero, List.getElem_cons_succ, Act.put, List.setIfInBounds_toArray, List.set_cons_zero, List.set_cons_succ]
    refine wpAnyH_take (i := 5) (v := ?_) rfl (by kernel_rfl) (by kernel_rfl) (by kernel_rfl) (fun _ _ _ h => h) (Or.inl ⟨by rfl, ?_⟩) (by assumption) ?_
    rotate_left 1
    · intro w' hSw
      try dsimp only at hSw
      go_simp
      try with_reducible rfl
    try simp only [List.getElem_toArray, List.getElem_cons_zero, List.getElem_cons_succ, Act.put, List.setIfInBounds_toArray, List.set_cons_zero, List.set_cons_succ]
    refine wpAnyH_take (i := 6) (v := ?_) rfl (by kernel_rfl) (by kernel_rfl) (by kernel_rfl) (fun _ _ _ h => h) (Or.inl ⟨by rfl, ?_⟩) (by assumption) ?_
    rotate_left 1
    · intro w' hSw
      try dsimp only at hSw
      go_simp
      try with_reducible rfl
    try simp only [List.getElem_toArray, List.getElem_cons_zero, List.getElem_cons_succ, Act.put, List.setIfInBounds_toArray, List.set_cons_zero, List.set_cons_succ]
    refine wpAnyH_take (i := 7) (v := ?_) rfl (by kernel_rfl) (by kernel_rfl) (by kernel_rfl) (fun _ _ _ h => h) (Or.inl ⟨by rfl, ?_⟩) (by assumption) ?_
    rotate_left 1
    · intro w' hSw
      try dsimp only at hSw
      go_simp
      try with_reducible rfl
    try simp only [List.getElem_toArray, List.getElem_cons_zero, List.getElem_cons_succ, Act.put, List.setIfInBounds_toArray, List.set_cons_zero, List.set_cons_succ]
    refine wpAnyH_take (i := 8) (v := ?_) rfl (by kernel_rfl) (by kernel_rfl) (by kernel_rfl) (fun _ _ _ h => h) (Or.inl ⟨by rfl, ?_⟩) (by assumption) ?_
    rotate_left 1
    · intro w' hSw
      try dsimp only at hSw
      go_simp
      try with_reducible rfl
    try simp only [List.getElem_toArray, List.getElem_cons_zero, List.getElem_cons_succ, Act.put, List.setIfInBounds_toArray, List.set_cons_zero, List.set_cons_succ]
    refine wpAnyH_take (i := 9) (v := ?_) rfl (by kernel_rfl) (by kernel_rfl) (by kernel_rfl) (fun _ _ _ h => h) (Or.inl ⟨by rfl, ?_⟩) (by assumption) ?_
    rotate_left 1
    · intro w' hSw
      try dsimp only at hSw
      go_simp
      try with_reducible rfl
    try simp only [List.getElem_toArray, List.getElem_cons_zero, List.getElem_cons_succ, Act.put, List.setIfInBounds_toArray, List.set_cons_zero, List.set_cons_succ]
    refine wpAnyH_take (i := 10) (v := ?_) rfl (by kernel_rfl) (by kernel_rfl) (by kernel_rfl) (fun _ _ _ h => h) (Or.inl ⟨by rfl, ?_⟩) (by assumption) ?_
    rotate_left 1
    · intro w' hSw
      try dsimp only at hSw
      go_simp
      try with_reducible rfl
    try simp only [List.getElem_toArray, List.getElem_cons_zero, List.getElem_cons_succ, Act.put, List.setIfInBounds_toArray, List.set_cons_zero, List.set_cons_succ]
    refine wpAnyH_take (i := 11) (v := ?_) rfl (by kernel_rfl) (by kernel_rfl) (by kernel_rfl) (fun _ _ _ h => h) (Or.inl ⟨by rfl, ?_⟩) (by assumption) ?_
    rotate_left 1
    · intro w' hSw
      try dsimp only at hSw
      go_simp
      try with_reducible rfl
    try simp only [List.getElem_toArray, List.getElem_cons_zero, List.getElem_cons_succ, Act.put, List.setIfInBounds_toArray, List.set_cons_zero, List.set_cons_succ]
    refine wpAnyH_done (by kernel_rfl) ?_ _
    refine NoPanic.normal ?_
    clear HSA
    obtain ⟨p0, p1, p2, p3, p4, p5, p6, p7, p8, p9, p10⟩ : PlanAt w4.drew.drew w.heap.size D F T G1 M1 B1 G2 M2 B2 a3 a4 s1.length s2.length q3 q4 := (HPB.out.only (K4.out.drew.drew) (fun f => f)).all.1
    go_wp2_with fail
    try rw [e18]
    try rw [e19]
    clear hN e1 e2 e3 e4 e5 e6 e7 e8 e9 e10 e11 e12 e13 e14 ea d1 d2 d3 d4 hdv hdz p0 p1 p2 p3 p4 p5 p6 p7 p8 p9 p10
    obtain ⟨⟨fx1, fx2, fx3⟩, ⟨fy1, fy2, fy3⟩, ⟨fz1, fz2, fz3⟩, fc, ⟨fd1, fd2⟩, fq1, fq2⟩ := HFA.out
    have HRX := HRT.out N HN9.out P (Q1 * B1)
    have HRY := HRT.out N HN9.out (P + Q1) (Q2 * B1)
    have HRZ := HRT.out N HN9.out P (Q1 * B1 + Q2 * B1)
    rw [fx1, fx2, fx3] at HRX
    rw [fy1, fy2, fy3] at HRY
    rw [fz1, fz2, fz3] at HRZ
    have HPX := Lib.hid (ra_pos D F T G1 M1 B1 G2 M2 B2 s1 s2 N P (Q1 * B1))
    have HPY := Lib.hid (ra_pos D F T G1 M1 B1 G2 M2 B2 s1 s2 N (P + Q1) (Q2 * B1))
    have HPZ := Lib.hid (ra_pos D F T G1 M1 B1 G2 M2 B2 s1 s2 N P (Q1 * B1 + Q2 * B1))
    clear HRT HFA fx1 fx2 fx3 fy1 fy2 fy3 fz1 fz2 fz3
    generalize Q1 * B1 = T1 at *
    generalize Q2 * B1 = T2 at *
    generalize raL D F T G1 M1 B1 G2 M2 B2 s1 s2 N P T1 = LX at *
    generalize raL D F T G1 M1 B1 G2 M2 B2 s1 s2 N (P + Q1) T2 = LY at *
    generalize raL D F T G1 M1 B1 G2 M2 B2 s1 s2 N P (T1 + T2) = LZ at *
    rw [← fc] at HRZ fd1 fd2
    clear fc
    generalize costB LX = cx at *
    generalize costB LY = cy at *
    have g1 : IntKind.i64.wrap (cx + cy) = cx + cy := by rw [wrap_i64]; omega
    have g2 : wrap64 (cx + cy) = cx + cy := by rw [wrap64_eq]; omega
    have g3 : IntKind.i64.wrap (Q1 + Q2) = Q1 + Q2 := by rw [wrap_i64]; have := HQ0.out; omega
    have g4 : wrap64 (Q1 + Q2) = Q1 + Q2 := by rw [wrap64_eq]; have := HQ0.out; omega
    have HRX := Lib.hid HRX
    have HRY := Lib.hid HRY
    have HRZ := Lib.hid HRZ
    refine (HTO.out _).mono ?_
    rintro _ w5 ⟨rfl, k5⟩
    have K5 := Lib.hid ((K4.out.drew.drew).trans k5)
    clear k5
    go_wp2_with fail
    with_reducible refine (HRX.out _ K5.out).mono ?_
    rintro _ w6 ⟨al0, cl0, rfl, hrd0, k6⟩
    obtain ⟨W7, hb7, hW7⟩ := rbox_new (K5.out.trans k6) cl0 Q1 cx (P + Q1) 34 hrd0
    have K7 := Lib.hid hb7.2.2.2
    have HB7 := Lib.hid hb7
    clear k6 hrd0 hb7
    go_wp2_with fail
    rw [← hW7]
    clear hW7
    have HS7 : Hid (∀ w', Only (fun _ => False) W7 w' → Only (fun _ => False) W7 w' ∧ w'.cell? ⟨w.heap.size, 0, none⟩ = some (.int .i64 D) ∧ w'.cell? ⟨w.heap.size, 1, none⟩ = some (.int .i64 F) ∧ w'.cell? ⟨w.heap.size, 2, none⟩ = some (.int .i64 T) ∧ w'.cell? ⟨w.heap.size, 3, none⟩ = some (.int .i64 G1) ∧ w'.cell? ⟨w.heap.size, 4, none⟩ = some (.int .i64 M1) ∧ w'.cell? ⟨w.heap.size, 5, none⟩ = some (.int .i64 B1) ∧ w'.cell? ⟨w.heap.size, 6, none⟩ = some (.slice a3 s1.length q3) ∧ w'.cell? ⟨w.heap.size, 7, none⟩ = some (.int .i64 G2) ∧ w'.cell? ⟨w.heap.size, 8, none⟩ = some (.int .i64 M2) ∧ w'.cell? ⟨w.heap.size, 9, none⟩ = some (.int .i64 B2) ∧ w'.cell? ⟨w.heap.size, 10, none⟩ = some (.slice a4 s2.length q4) ∧ w'.cell? ⟨w6.heap.size, 3, none⟩ = some (.int .i64 (P + Q1))) := Lib.hid (fun w' ho => by
      obtain ⟨p0, p1, p2, p3, p4, p5, p6, p7, p8, p9, p10⟩ := (HPB.out.only (K7.out.trans ho) (fun f => f)).all.1
      exact ⟨ho, p0, p1, p2, p3, p4, p5, p6, p7, p8, p9, p10, ((HB7.out.only ho).all).2.2.2⟩)
    have HNEW : Hid (∀ (W W' : World), Only (fun _ => False) ((W.alloc (.cells #[.slice none 0 0, .int .i64 0, .int .i64 0, .int .i64 0] 34)).drew) W' → Zr4 W' W.heap.size) := Lib.hid (fun W W' ho => (Zr4.new W _).only ((Only.refl (fun _ => False) _).drew.trans ho) (fun f => f))
    have HNEW2 : Hid (∀ (W W' : World), Only (fun _ => False) (W.alloc (.cells #[.slice none 0 0, .int .i64 0, .int .i64 0, .int .i64 0] 34)) W' → Zr4 W' W.heap.size) := Lib.hid (fun W W' ho => (Zr4.new W _).only ho (fun f => f))
    have HRY7 := Lib.hid (fun w' (ho : Only (fun _ => False) W7 w') => HRY.out w' (K7.out.trans ho))
    have K77 : Hid (Only (fun _ => False) W7 W7) := Lib.hid (Only.refl _ _)
    go_region_held3 (fun w' => Only (fun _ => False) W7 w' ∧ w'.cell? ⟨w.heap.size, 0, none⟩ = some (.int .i64 D) ∧ w'.cell? ⟨w.heap.size, 1, none⟩ = some (.int .i64 F) ∧ w'.cell? ⟨w.heap.size, 2, none⟩ = some (.int .i64 T) ∧ w'.cell? ⟨w.heap.size, 3, none⟩ = some (.int .i64 G1) ∧ w'.cell? ⟨w.heap.size, 4, none⟩ = some (.int .i64 M1) ∧ w'.cell? ⟨w.heap.size, 5, none⟩ = some (.int .i64 B1) ∧ w'.cell? ⟨w.heap.size, 6, none⟩ = some (.slice a3 s1.length q3) ∧ w'.cell? ⟨w.heap.size, 7, none⟩ = some (.int .i64 G2) ∧ w'.cell? ⟨w.heap.size, 8, none⟩ = some (.int .i64 M2) ∧ w'.cell? ⟨w.heap.size, 9, none⟩ = some (.int .i64 B2) ∧ w'.cell? ⟨w.heap.size, 10, none⟩ = some (.slice a4 s2.length q4) ∧ w'.cell? ⟨w6.heap.size, 3, none⟩ = some (.int .i64 (P + Q1)))
      ((refine HS7.out _ ?_; first | with_reducible exact K77.out | with_reducible exact K77.out.drew | with_reducible exact K77.out.alloc _ | with_reducible exact (K77.out.alloc _).drew | with_reducible exact (K77.out.drew).alloc _ | with_reducible exact (K77.out.drew).trans ho | with_reducible exact hot.out.alloc _ | with_reducible exact hot.out | exact puts_only _ [.slice al LY.length cl, .int .i64 Q2, .int .i64 cy, .int .i64 (P + Q1 + Q2)] 0 W7 _ hot.out (.inr (Nat.le_trans K77.out.size (by first | exact Nat.le_refl _ | assumption)))))
      (first | (go_at_call 16; (with_reducible refine (HTO.out _).mono ?_); rintro _ wn ⟨rfl, ho⟩; have hot := Lib.hid (show Only (fun _ => False) W7 wn from by go_split_ands; exact Only.trans (by assumption) ho); (first | (with_reducible have hw3 := Lib.hid ((Only.refl (fun _ => False) W7).drew.trans ho)) | (with_reducible have hw3 := Lib.hid (((Only.refl (fun _ => False) W7).alloc _).drew.trans ho)) | (with_reducible have hw3 := Lib.hid (((Only.refl (fun _ => False) W7).drew.alloc _).trans ho)) | (with_reducible have hw3 := Lib.hid ((Only.refl (fun _ => False) W7).trans ho)) | (with_reducible have hw3 := Lib.hid (((Only.refl (fun _ => False) W7).alloc _).trans ho))); have hsz := hw3.out.size; (try (with_reducible have hbx := HNEW.out _ _ ho)); (try (with_reducible have hbx := HNEW2.out _ _ ho))) | (go_at_call 17; (with_reducible refine (HRY7.out _ (by go_split_ands; assumption)).mono ?_); rintro _ wn ⟨al, cl, rfl, hrd, ho⟩; have hot := Lib.hid (show Only (fun _ => False) W7 wn from by go_split_ands; exact Only.trans (by assumption) ho); (try (with_reducible have hbx := HNEW.out _ _ ho)); (try (with_reducible have hbx := HNEW2.out _ _ ho)); (try (with_reducible have hbx := hbx.only ho (fun f => f))); (first | (with_reducible have hw3 := Lib.hid (hw3.out.trans ho)) | (with_reducible have hw3 := Lib.hid ((hw3.out.alloc _).trans ho))); (try (obtain ⟨⟨z0, z1, z2, z3⟩, y0, y1, y2, y3⟩ := hbx.all))))
    all_goals
      first
      | (obtain ⟨W8, hb, hW⟩ := rbox_put hbx hw3.out (by first | exact Nat.le_refl _ | assumption) cl Q2 cy (P + Q1 + Q2) hrd HPY.out
         rw [← hW])
      | (obtain ⟨W8, hb, hW⟩ := rbox_new hw3.out cl Q2 cy (P + Q1 + Q2) 34 hrd
         rw [← hW])
      clear hW
      have HB8 := Lib.hid hb
      have K8 := Lib.hid (K7.out.trans hb.2.2.2)
      have HB78 := Lib.hid (HB7.out.only hb.2.2.2)
      try clear hbx z0 z1 z2 z3 y0 y1 y2 y3
      clear ho hot hw3 hsz hrd hb
      obtain ⟨p0, p1, p2, p3, p4, p5, p6, p7, p8, p9, p10⟩ := (HPB.out.only K8.out (fun f => f)).all.1
      go_wp2_with fail
      refine (HTO.out _).mono ?_
      rintro _ w9 ⟨rfl, k9⟩
      have K9 := Lib.hid (K8.out.trans k9)
      have HB89 := Lib.hid (HB8.out.only k9)
      have HB79 := Lib.hid (HB78.out.only k9)
      clear k9 p0 p1 p2 p3 p4 p5 p6 p7 p8 p9 p10
      go_wp2_with fail
      try rw [eb]
      with_reducible refine (HRZ.out _ K9.out).mono ?_
      rintro _ w10 ⟨al1, cl1, rfl, hrd1, k10⟩
      obtain ⟨W11, hb11, hW11⟩ := rbox_new k10 cl1 (Q1 + Q2) (cx + cy) (P + Q1 + Q2) 34 hrd1
      have K11 := Lib.hid (K9.out.trans hb11.2.2.2)
      have HX := Lib.hid (HB79.out.only hb11.2.2.2)
      have HY := Lib.hid (HB89.out.only hb11.2.2.2)
      obtain ⟨u0, u1, u2, u3⟩ := HX.out.all
      obtain ⟨v0, v1, v2, v3⟩ := HY.out.all
      obtain ⟨t0, t1', t2', t3⟩ := hb11.all
      have HKK := Lib.hid (HOW.out.trans K11.out)
      clear k10 hrd1 hb11
      rw [hW11] at u0 u1 u2 u3 v0 v1 v2 v3 t0 t1' t2' t3
      have bb1 : (cx + cy == cx + cy) = true := by simp
      have bb2 : (P + Q1 + Q2 == P + Q1 + Q2) = true := by simp
      have bb3 : (Q1 + Q2 == Q1 + Q2) = true := by simp
      go_wp2_with fail
      rw [← hW11]
      go_ret
      exact ⟨rfl, HKK.out⟩
theorem rapart_walk (D F T G1 M1 B1 G2 M2 B2 : Int) (a1 a2 : Option Addr) (n1 n2 c1 c2 : Nat) (t1 t2 : List Tr) (now pos u cr more : Int) (w : World) (h1 : TiersR w a1 n1 c1 t1) (h2 : TiersR w a2 n2 c2 t2) :
    Calls Try.prog 6 #[.agg #[.int .i64 D, .int .i64 F, .int .i64 T, .int .i64 G1, .int .i64 M1, .int .i64 B1, .slice a1 n1 c1, .int .i64 G2, .int .i64 M2, .int .i64 B2, .slice a2 n2 c2], .agg #[.int .i64 now, .int .i64 pos, .int .i64 u, .int .i64 cr], .int .i64 more] w fun e w' => e = .returned (.bool true) ∧ Below w.heap.size w w' :=
  (rapart_any D F T G1 M1 B1 G2 M2 B2 a1 a2 n1 n2 c1 c2 t1 t2 now pos u cr more _ _ _ _ w h1 h2 rfl rfl rfl rfl).mono fun _ _ ⟨h1, h2⟩ => ⟨h1, h2.none⟩
end Go.Proofs.Ytonacdjaimokeaa.tirw
