/- GrantBounds's walk. -/
import Derived.Test.YtonacdjaimokeaaGrD
import Derived.Deep.RegionHeld3
namespace Go.Proofs.Ytonacdjaimokeaa.tirw
open Go.RowKit mem tirm intm bigm bigw
set_option linter.unusedVariables false

def zerosG : List Value := [.int .i64 0, .int .i64 0, .int .i64 0, .bool false]
theorem gbox_put {wr wn : World} {q : Nat} (hz : BoxV wn q zerosG) (ho : Only (fun _ => False) wr wn) (hq : wr.heap.size ≤ q) (v0 v1 v2 v3 : Value) : ∃ q' W, q = q' ∧ BoxV W q' [v0, v1, v2, v3] ∧ Only (fun _ => False) wr W ∧ wr.heap.size ≤ q' ∧ W = (((wn.setCell ⟨q', 0, none⟩ v0).setCell ⟨q', 1, none⟩ v1).setCell ⟨q', 2, none⟩ v2).setCell ⟨q', 3, none⟩ v3 :=
  ⟨q, _, rfl, hz.put [v0, v1, v2, v3] rfl, puts_only q [v0, v1, v2, v3] 0 wr wn ho (.inr hq), hq, rfl⟩
theorem gbox_new {wr wn : World} (ho : Only (fun _ => False) wr wn) (v0 v1 v2 v3 : Value) (t : TypeId) : ∃ q' W, wn.heap.size = q' ∧ BoxV W q' [v0, v1, v2, v3] ∧ Only (fun _ => False) wr W ∧ wr.heap.size ≤ q' ∧ W = wn.alloc (.cells #[v0, v1, v2, v3] t) :=
  ⟨_, _, rfl, BoxV.new wn [v0, v1, v2, v3] t _ rfl, ho.alloc _, ho.size, rfl⟩
theorem BoxV.gz {w : World} {q : Nat} (h : BoxV w q zerosG) : (w.cell? ⟨q, 0, none⟩ = some (.int .i64 0) ∧ w.cell? ⟨q, 1, none⟩ = some (.int .i64 0) ∧ w.cell? ⟨q, 2, none⟩ = some (.int .i64 0) ∧ w.cell? ⟨q, 3, none⟩ = some (.bool false)) ∧ w.frozen? ⟨q, 0, none⟩ = false ∧ w.frozen? ⟨q, 1, none⟩ = false ∧ w.frozen? ⟨q, 2, none⟩ = false ∧ w.frozen? ⟨q, 3, none⟩ = false :=
  ⟨⟨(h 0 _ rfl).1, (h 1 _ rfl).1, (h 2 _ rfl).1, (h 3 _ rfl).1⟩, (h 0 _ rfl).2, (h 1 _ rfl).2, (h 2 _ rfl).2, (h 3 _ rfl).2⟩
/-- what Make answers -/
theorem mk_cases (D F T G1 M1 B1 G2 M2 B2 : Int) (t1 t2 : List Tr) (cr u : Int) : (mkE D F T G1 M1 B1 G2 M2 B2 t1 t2 cr u ≠ 0 ∧ mkG D F T G1 M1 B1 G2 M2 B2 t1 t2 cr u = Gr0) ∨ (mkE D F T G1 M1 B1 G2 M2 B2 t1 t2 cr u = 0 ∧ ∃ n c, mkG D F T G1 M1 B1 G2 M2 B2 t1 t2 cr u = ⟨G1, n, c, decide (n < u)⟩ ∧ 1 ≤ n ∧ n ≤ u ∧ u ≤ 1073741824 ∧ 0 ≤ c ∧ c ≤ cr ∧ CanP D F T G1 M1 B1 G2 M2 B2 t1 t2 n ∧ bk n B1 * dearP t1 t2 = c) := by
  unfold mkE mkG
  by_cases h : MkNo D F T G1 M1 B1 G2 M2 B2 t1 t2 cr u
  · rw [if_pos h, if_pos h]; exact .inl ⟨by decide, rfl⟩
  · rw [if_neg h, if_neg h]
    have hf : ¬ FitNo D F T G1 M1 B1 G2 M2 B2 t1 t2 cr u := fun e => h (.inl e)
    obtain ⟨_, n, c, e1, e2, f1, f2, f3, f4, f5, hc, f6, _, _⟩ := fit_facts hf
    rw [e1, e2]
    by_cases hn : n = 0
    · rw [if_pos hn, if_pos hn]; exact .inl ⟨by decide, rfl⟩
    · rw [if_neg hn, if_neg hn]
      refine .inr ⟨rfl, n, c, rfl, by omega, f2, f3, f4, f5, hc, ?_⟩
      unfold worN at f6
      rw [if_pos hc] at f6
      exact f6
/-- what is granted does for what is used -/
theorem st_ok {D F T G1 M1 B1 G2 M2 B2 : Int} {t1 t2 : List Tr} {n c now pos us : Int} (hc : CanP D F T G1 M1 B1 G2 M2 B2 t1 t2 n) (hw : bk n B1 * dearP t1 t2 = c) (h0 : 0 ≤ now) (p0 : 0 ≤ pos) (p1 : pos < 1099511627776) (u0 : 0 ≤ us) (u1 : us ≤ n) (c0 : 0 ≤ c) (n0 : 0 ≤ n) :
    stE D F T G1 M1 B1 G2 M2 B2 t1 t2 G1 n c now pos us = 0 ∧ 0 ≤ costB (raL D F T G1 M1 B1 G2 M2 B2 t1 t2 now pos us) ∧ costB (raL D F T G1 M1 B1 G2 M2 B2 t1 t2 now pos us) ≤ c := by
  have hcu := can_less hc u0 u1
  obtain ⟨_, ⟨b1, _⟩, d1, _⟩ := can_facts hc
  obtain ⟨e1, e2⟩ := bk_in u0 b1
  have hm := bk_mono u0 u1 b1
  have hn := hc.2.1
  have hr : ¬ RatNo D F T G1 M1 B1 G2 M2 B2 t1 t2 now pos us := fun e => e.elim (fun e => by omega) (fun e => e.elim (fun e => e hcu) (fun e => by unfold outB at e; omega))
  obtain ⟨_, _, f3, f4, _⟩ := ra_facts hr
  have hle := Int.mul_le_mul_of_nonneg_right hm d1
  refine ⟨?_, f3, by omega⟩
  unfold stE
  rw [if_neg (fun e => e.elim hr (fun e => e.elim (fun e => e rfl) (fun e => by omega))), if_neg (by omega), if_neg (by omega)]

set_option maxRecDepth 100000 in
set_option maxHeartbeats 4000000 in
theorem gbounds_any (D F T G1 M1 B1 G2 M2 B2 : Int) (a1 a2 : Option Addr) (n1 n2 c1 c2 : Nat) (t1 t2 : List Tr) (cr j0 j1 j2 j3 N P : Int) (w : World) (h1 : TiersR w a1 n1 c1 t1) (h2 : TiersR w a2 n2 c2 t2) (hcr : cr ≤ 9223372036854775807) (hN : IntKind.u64.wrap j2 / 2 = N) (hP : IntKind.u64.wrap j3 % 1099511627776 = P) :
    Calls Try.prog 13 #[.agg #[.int .i64 D, .int .i64 F, .int .i64 T, .int .i64 G1, .int .i64 M1, .int .i64 B1, .slice a1 n1 c1, .int .i64 G2, .int .i64 M2, .int .i64 B2, .slice a2 n2 c2], .int .i64 cr, .agg #[.int .i64 j0, .int .i64 j1, .int .i64 j2, .int .i64 j3]] w fun e w' => e = .returned (.bool true) ∧ Only (fun _ => False) w w' := by
  obtain ⟨W0, hW0⟩ : ∃ W0, W0 = (w.alloc (.cells #[.int .i64 D, .int .i64 F, .int .i64 T, .int .i64 G1, .int .i64 M1, .int .i64 B1, .slice a1 n1 c1, .int .i64 G2, .int .i64 M2, .int .i64 B2, .slice a2 n2 c2] 26)).alloc (.cells #[.int .i64 j0, .int .i64 j1, .int .i64 j2, .int .i64 j3] 60) := ⟨_, rfl⟩
  have HO0 : Hid (Only (fun _ => False) w W0 ∧ W0.heap.size = w.heap.size + 2) := Lib.hid (by rw [hW0]; exact ⟨((Only.refl _ w).alloc _).alloc _, by simp⟩)
  have HP : Hid (BoxV W0 w.heap.size (plV D F T G1 M1 B1 G2 M2 B2 a1 a2 n1 n2 c1 c2)) := Lib.hid (by rw [hW0]; exact (BoxV.new w (plV D F T G1 M1 B1 G2 M2 B2 a1 a2 n1 n2 c1 c2) _ _ rfl).only ((Only.refl (fun _ => False) _).alloc _) (fun f => f))
  have HA : Hid (BoxV W0 (w.heap.size + 1) [.int .i64 j0, .int .i64 j1, .int .i64 j2, .int .i64 j3]) := Lib.hid (by rw [hW0]; exact BoxV.new _ [.int .i64 j0, .int .i64 j1, .int .i64 j2, .int .i64 j3] _ _ (by simp))
  have HTM := Lib.hid (gtame_any D F T G1 M1 B1 G2 M2 B2 a1 a2 n1 n2 c1 c2 t1 t2 W0 (h1.only HO0.out.1) (h2.only HO0.out.1))
  clear h1 h2
  generalize t1.take (min n1 9) = s1 at *
  generalize t2.take (min n2 9) = s2 at *
  have HHN := Lib.hid hN
  have HHP := Lib.hid hP
  clear hN hP
  go_enter Try.func13, Try.ntmps13
  obtain ⟨⟨p0, p1, p2, p3, p4, p5, p6, p7, p8, p9, p10⟩, _⟩ := HP.out.all
  rw [hW0] at p0 p1 p2 p3 p4 p5 p6 p7 p8 p9 p10
  go_wp2_with fail
  rw [← hW0]
  clear hW0 p0 p1 p2 p3 p4 p5 p6 p7 p8 p9 p10
  refine HTM.out.mono ?_
  rintro _ w1 ⟨a3, a4, q3, q4, rfl, hr3, hr4, k1, hb3, hb4⟩
  have HB1 := HP.out.only k1 (fun f => f)
  obtain ⟨W2, HP2, HO2, hW2⟩ := plan_put HB1 rfl D F T G1 M1 B1 G2 M2 B2 a3 a4 s1.length s2.length q3 q4
  have HR3 : Hid (ReadsT W2 a3 s1.length s1) := Lib.hid (hr3.only HO2 (fun y hy e => by have := hb3 y hy; have := HO0.out.2; have e' : y.block = w.heap.size := e; omega))
  have HR4 : Hid (ReadsT W2 a4 s2.length s2) := Lib.hid (hr4.only HO2 (fun y hy e => by have := hb4 y hy; have := HO0.out.2; have e' : y.block = w.heap.size := e; omega))
  have HOW : Hid (Only (fun _ => False) w W2) := Lib.hid ((HO0.out.1.trans k1).then HO2 (fun q hq e => by have e' : q = w.heap.size := e; omega))
  have HA2 : Hid (BoxV W2 (w.heap.size + 1) [.int .i64 j0, .int .i64 j1, .int .i64 j2, .int .i64 j3]) := Lib.hid ((HA.out.only k1 (fun f => f)).only HO2 (fun e => by have e' : w.heap.size + 1 = w.heap.size := e; omega))
  have HPB := Lib.hid HP2
  have HTO := Lib.hid (fun w' => gto_any D F T G1 M1 B1 G2 M2 B2 a3 a4 s1.length s2.length q3 q4 w')
  have HMK := Lib.hid (fun w' (ho : Only (fun _ => False) W2 w') => make_any D F T G1 M1 B1 G2 M2 B2 a3 a4 s1.length s2.length q3 q4 s1 s2 cr j0 w' (HR3.out.only ho (fun _ _ f => f)) (HR4.out.only ho (fun _ _ f => f)) hcr)
  have HSE := Lib.hid (fun n c (b : Bool) us (hN : N ≤ 9223372036854775807) (hc : c ≤ 9223372036854775807) w' (ho : Only (fun _ => False) W2 w') => settle_any D F T G1 M1 B1 G2 M2 B2 a3 a4 s1.length s2.length q3 q4 s1 s2 G1 n c N P us b w' (HR3.out.only ho (fun _ _ f => f)) (HR4.out.only ho (fun _ _ f => f)) hN hc)
  have HMC := Lib.hid (mk_cases D F T G1 M1 B1 G2 M2 B2 s1 s2 cr j0)
  generalize mkG D F T G1 M1 B1 G2 M2 B2 s1 s2 cr j0 = mg at *
  generalize mkE D F T G1 M1 B1 G2 M2 B2 s1 s2 cr j0 = me at *
  obtain ⟨gg, gu, ga, gf⟩ := mg
  have HMK : Hid (∀ w', Only (fun _ => False) W2 w' → Calls Try.prog 40 #[.agg #[.int .i64 D, .int .i64 F, .int .i64 T, .int .i64 G1, .int .i64 M1, .int .i64 B1, .slice a3 s1.length q3, .int .i64 G2, .int .i64 M2, .int .i64 B2, .slice a4 s2.length q4], .int .i64 cr, .int .i64 j0] w' fun e w'' => e = .returned (.tuple #[.agg #[.int .i64 gg, .int .i64 gu, .int .i64 ga, .bool gf], .int .i64 me]) ∧ Only (fun _ => False) w' w'') := HMK
  obtain ⟨⟨z0, z1, z2, z3, z4, z5, z6, z7, z8, z9, z10⟩, y0, y1, y2, y3, y4, y5, y6, y7, y8, y9, y10⟩ := HB1.all
  obtain ⟨⟨p0, p1, p2, p3, p4, p5, p6, p7, p8, p9, p10⟩, _⟩ := HP2.all
  rw [hW2] at p0 p1 p2 p3 p4 p5 p6 p7 p8 p9 p10
  clear hr3 hr4 k1 hb3 hb4 HB1 HO2 HP2
  have kk0 : (0 : Int) < 4 := by decide
  go_wp2_with fail
  rw [← hW2]
  clear hW2 p0 p1 p2 p3 p4 p5 p6 p7 p8 p9 p10 z0 z1 z2 z3 z4 z5 z6 z7 z8 z9 z10 y0 y1 y2 y3 y4 y5 y6 y7 y8 y9 y10
  have HS : Hid (∀ w', Only (fun _ => False) W2 w' → Only (fun _ => False) W2 w' ∧ w'.cell? ⟨w.heap.size, 0, none⟩ = some (.int .i64 D) ∧ w'.cell? ⟨w.heap.size, 1, none⟩ = some (.int .i64 F) ∧ w'.cell? ⟨w.heap.size, 2, none⟩ = some (.int .i64 T) ∧ w'.cell? ⟨w.heap.size, 3, none⟩ = some (.int .i64 G1) ∧ w'.cell? ⟨w.heap.size, 4, none⟩ = some (.int .i64 M1) ∧ w'.cell? ⟨w.heap.size, 5, none⟩ = some (.int .i64 B1) ∧ w'.cell? ⟨w.heap.size, 6, none⟩ = some (.slice a3 s1.length q3) ∧ w'.cell? ⟨w.heap.size, 7, none⟩ = some (.int .i64 G2) ∧ w'.cell? ⟨w.heap.size, 8, none⟩ = some (.int .i64 M2) ∧ w'.cell? ⟨w.heap.size, 9, none⟩ = some (.int .i64 B2) ∧ w'.cell? ⟨w.heap.size, 10, none⟩ = some (.slice a4 s2.length q4) ∧ w'.cell? ⟨w.heap.size + 1, 0, none⟩ = some (.int .i64 j0)) := Lib.hid (fun w' ho => by
    obtain ⟨⟨p0, p1, p2, p3, p4, p5, p6, p7, p8, p9, p10⟩, _⟩ := (HPB.out.only ho (fun f => f)).all
    exact ⟨ho, p0, p1, p2, p3, p4, p5, p6, p7, p8, p9, p10, ((HA2.out.only ho (fun f => f)) 0 _ rfl).1⟩)
  have HNEW : Hid (∀ (W W' : World), Only (fun _ => False) ((W.alloc (.cells #[.int .i64 0, .int .i64 0, .int .i64 0, .bool false] 72)).drew) W' → BoxV W' W.heap.size zerosG) := Lib.hid (fun W W' ho => (BoxV.new W zerosG _ _ rfl).only ((Only.refl (fun _ => False) _).drew.trans ho) (fun f => f))
  have HNEW2 : Hid (∀ (W W' : World), Only (fun _ => False) (W.alloc (.cells #[.int .i64 0, .int .i64 0, .int .i64 0, .bool false] 72)) W' → BoxV W' W.heap.size zerosG) := Lib.hid (fun W W' ho => (BoxV.new W zerosG _ _ rfl).only ho (fun f => f))
  go_region_held3 (fun w' => Only (fun _ => False) W2 w' ∧ w'.cell? ⟨w.heap.size, 0, none⟩ = some (.int .i64 D) ∧ w'.cell? ⟨w.heap.size, 1, none⟩ = some (.int .i64 F) ∧ w'.cell? ⟨w.heap.size, 2, none⟩ = some (.int .i64 T) ∧ w'.cell? ⟨w.heap.size, 3, none⟩ = some (.int .i64 G1) ∧ w'.cell? ⟨w.heap.size, 4, none⟩ = some (.int .i64 M1) ∧ w'.cell? ⟨w.heap.size, 5, none⟩ = some (.int .i64 B1) ∧ w'.cell? ⟨w.heap.size, 6, none⟩ = some (.slice a3 s1.length q3) ∧ w'.cell? ⟨w.heap.size, 7, none⟩ = some (.int .i64 G2) ∧ w'.cell? ⟨w.heap.size, 8, none⟩ = some (.int .i64 M2) ∧ w'.cell? ⟨w.heap.size, 9, none⟩ = some (.int .i64 B2) ∧ w'.cell? ⟨w.heap.size, 10, none⟩ = some (.slice a4 s2.length q4) ∧ w'.cell? ⟨w.heap.size + 1, 0, none⟩ = some (.int .i64 j0))
    ((refine HS.out _ ?_; first | with_reducible exact Only.refl _ _ | with_reducible exact (Only.refl _ _).drew | with_reducible exact (Only.refl _ _).alloc _ | with_reducible exact ((Only.refl _ _).alloc _).drew | with_reducible exact ((Only.refl _ _).drew).alloc _ | with_reducible exact ((Only.refl _ _).drew).trans ho | with_reducible exact hot.out.alloc _ | with_reducible exact hot.out | exact puts_only _ [.int .i64 gg, .int .i64 gu, .int .i64 ga, .bool gf] 0 W2 _ hot.out (.inr (by first | exact Nat.le_refl _ | assumption))))
    (first | (go_at_call 41; (with_reducible refine (HTO.out _).mono ?_); rintro _ wn ⟨rfl, ho⟩; have hot := Lib.hid (show Only (fun _ => False) W2 wn from by go_split_ands; exact Only.trans (by assumption) ho); have hsz := hot.out.size; (try (with_reducible have hbx := HNEW.out _ _ ho)); (try (with_reducible have hbx := HNEW2.out _ _ ho)); (try (with_reducible have hbx := hbx.only ho (fun f => f)))) | (go_at_call 40; (with_reducible refine (HMK.out _ (by go_split_ands; assumption)).mono ?_); rintro _ wn ⟨rfl, ho⟩; have hot := Lib.hid (show Only (fun _ => False) W2 wn from by go_split_ands; exact Only.trans (by assumption) ho); (try (with_reducible have hbx := HNEW.out _ _ ho)); (try (with_reducible have hbx := HNEW2.out _ _ ho)); (try (with_reducible have hbx := hbx.only ho (fun f => f))); (try (obtain ⟨⟨z0, z1, z2, z3⟩, y0, y1, y2, y3⟩ := hbx.gz))))
  all_goals
    first
    | (obtain ⟨q, W3, hqq, hb, hoW, hq9, hW⟩ := gbox_put hbx hot.out (by first | exact Nat.le_refl _ | assumption) (.int .i64 gg) (.int .i64 gu) (.int .i64 ga) (.bool gf)
       rw [hqq, ← hW])
    | (obtain ⟨q, W3, hqq, hb, hoW, hq9, hW⟩ := gbox_new hot.out (.int .i64 gg) (.int .i64 gu) (.int .i64 ga) (.bool gf) 72
       rw [hqq, ← hW])
    clear hW hqq hq9
    have HB := Lib.hid hb
    have K3 := Lib.hid hoW
    try clear hbx z0 z1 z2 z3 y0 y1 y2 y3
    clear ho hot hsz hb hoW
    rcases HMC.out with ⟨hme, _⟩ | ⟨hme, n, c, hmg, f1, f2, f3, f4, f5, hcn, hwc⟩
    · have hb : (me != 0) = true := by simpa using hme
      clear hme
      go_wp2_with fail
      refine (grants_any _).mono ?_
      rintro _ w5 ⟨rfl, k5⟩
      have K5 := Lib.hid (K3.out.trans k5)
      clear k5
      go_wp2_with fail
      refine (grants_any _).mono ?_
      rintro _ w6 ⟨rfl, k6⟩
      have K6 := Lib.hid (HOW.out.trans (K5.out.trans k6))
      clear k6
      go_wp2_with fail
      go_ret
      exact ⟨rfl, K6.out⟩
    · subst hme
      injection hmg with m1 m2 m3 m4
      subst m1 m2 m3
      have HMF : Hid ((gf == decide (gu < j0)) = true) := Lib.hid (by rw [m4]; simp)
      have HSO := Lib.hid (fun now pos us h0 p0 p1 u0 u1 => st_ok (n := gu) (now := now) (pos := pos) (us := us) hcn hwc h0 p0 p1 u0 u1 f4 (by omega))
      have HF := Lib.hid (And.intro f1 (And.intro f2 (And.intro f3 (And.intro f4 f5))))
      clear m4 hcn hwc
      try clear HMC
      obtain ⟨US, hUS⟩ : ∃ x, IntKind.u64.wrap j1 % (gu + 1) = x := ⟨_, rfl⟩
      have hus0 : 0 ≤ US := by rw [← hUS]; exact Int.emod_nonneg _ (by omega)
      have hus1 : US < gu + 1 := by rw [← hUS]; exact Int.emod_lt_of_pos _ (by omega)
      go_wp2_with fail
      refine (grants_any _).mono ?_
      rintro _ w5 ⟨rfl, k5⟩
      have K5 := Lib.hid (K3.out.trans k5)
      have HB5 := Lib.hid (HB.out.only k5 (fun f => f))
      have HA5 := Lib.hid (HA2.out.only K5.out (fun f => f))
      clear k5
      have b1 := (HB5.out 1 _ rfl).1
      have x1 := (HA5.out 1 _ rfl).1
      have e1 : IntKind.i64.wrap (gu + 1) = gu + 1 := by rw [wrap_i64]; omega
      have e2 : wrap64 (gu + 1) = gu + 1 := by rw [wrap64_eq]; omega
      have e3 : IntKind.u64.wrap (gu + 1) = gu + 1 := by rw [u64_wrapT]; omega
      have e4 : (IntKind.u64.wrap j1).tmod (gu + 1) = US := by rw [Int.tmod_eq_emod_of_nonneg (by rw [u64_wrapT]; omega)]; exact hUS
      have e5 : IntKind.i64.wrap US = US := by rw [wrap_i64]; omega
      have hdz : ¬ gu + 1 = 0 := by omega
      obtain ⟨d1, d2⟩ := neI hdz
      clear hUS
      go_wp2_with fail
      have hN := HHN.out
      have hP := HHP.out
      have hNN : 0 ≤ N ∧ N ≤ 9223372036854775807 := by rw [u64_wrapT] at hN; omega
      have hPP : 0 ≤ P ∧ P < 1099511627776 := by omega
      have e6 : (IntKind.u64.wrap j3).tmod 1099511627776 = P := by rw [Int.tmod_eq_emod_of_nonneg (by rw [u64_wrapT]; omega)]; exact hP
      have e7 : IntKind.i64.wrap N = N := by rw [wrap_i64]; omega
      have e8 : IntKind.i64.wrap P = P := by rw [wrap_i64]; omega
      have HSA : Hid (∀ w', Only (fun _ => False) w5 w' → Only (fun _ => False) w5 w' ∧ w'.cell? ⟨w.heap.size + 1, 2, none⟩ = some (.int .i64 j2) ∧ w'.cell? ⟨w.heap.size + 1, 3, none⟩ = some (.int .i64 j3)) := Lib.hid (fun w' ho => ⟨ho, ((HA5.out.only ho (fun f => f)) 2 _ rfl).1, ((HA5.out.only ho (fun f => f)) 3 _ rfl).1⟩)
      have h24 : (2 : Int) < 4 := by decide
      have h34 : (3 : Int) < 4 := by decide
      clear hP b1 x1 e1 e2 e3 e4 d1 d2 hdz
      refine wp_region_noPanic ?_
      refine wp_region_held_drew (S := (fun w' => Only (fun _ => False) w5 w' ∧ w'.cell? ⟨w.heap.size + 1, 2, none⟩ = some (.int .i64 j2) ∧ w'.cell? ⟨w.heap.size + 1, 3, none⟩ = some (.int .i64 j3))) (by kernel_rfl) (HSA.out _ (Only.refl _ _).drew) (fun hHeld => ?_)
      refine wpAnyH_take (i := 0) (v := ?_) rfl (by kernel_rfl) (by kernel_rfl) (by kernel_rfl) (fun _ _ _ h => h) (Or.inl ⟨by rfl, ?_⟩) (by assumption) ?_
      rotate_left 1
      · intro w' hSw
        try dsimp only at hSw
        go_simp
        try with_reducible rfl
      try simp only [List.getElem_toArray, List.getElem_cons_zero, Act.put, List.setIfInBounds_toArray, List.set_cons_zero, List.set_cons_succ]
      refine wpAnyH_take (i := 1) (v := ?_) rfl (by kernel_rfl) (by kernel_rfl) (by kernel_rfl) (fun _ _ _ h => h) (Or.inl ⟨by rfl, ?_⟩) (by assumption) ?_
      rotate_left 1
      · intro w' hSw
        try dsimp only at hSw
        go_simp
        try with_reducible rfl
      try simp only [List.getElem_toArray, List.getElem_cons_zero, List.getElem_cons_succ, Act.put, List.setIfInBounds_toArray, List.set_cons_zero, List.set_cons_succ]
      refine wpAnyH_take (i := 2) (v := ?_) rfl (by kernel_rfl) (by kernel_rfl) (by kernel_rfl) (fun _ _ _ h => h) (Or.inl ⟨by rfl, ?_⟩) (by assumption) ?_
      rotate_left 1
      · intro w' hSw
        try dsimp only at hSw
        go_simp
        try with_reducible rfl
      try simp only [List.getElem_toArray, List.getElem_cons_zero, List.getElem_cons_succ, Act.put, List.setIfInBounds_toArray, List.set_cons_zero, List.set_cons_succ]
      refine wpAnyH_take (i := 3) (v := ?_) rfl (by kernel_rfl) (by kernel_rfl) (by kernel_rfl) (fun _ _ _ h => h) (Or.inl ⟨by rfl, ?_⟩) (by assumption) ?_
      rotate_left 1
      · intro w' hSw
        try dsimp only at hSw
        go_simp
        try with_reducible rfl
      try simp only [List.getElem_toArray, List.getElem_cons_zero, List.getElem_cons_succ, Act.put, List.setIfInBounds_toArray, List.set_cons_zero, List.set_cons_succ]
      refine wpAnyH_take (i := 4) (v := ?_) rfl (by kernel_rfl) (by kernel_rfl) (by kernel_rfl) (fun _ _ _ h => h) (Or.inl ⟨by rfl, ?_⟩) (by assumption) ?_
      rotate_left 1
      · intro w' hSw
        try dsimp only at hSw
        go_simp
        try with_reducible rfl
      try simp only [List.getElem_toArray, List.getElem_cons_zero, List.getElem_cons_succ, Act.put, List.setIfInBounds_toArray, List.set_cons_zero, List.set_cons_succ]
      refine wpAnyH_take (i := 5) (v := ?_) rfl (by kernel_rfl) (by kernel_rfl) (by kernel_rfl) (fun _ _ _ h => h) (Or.inl ⟨by rfl, ?_⟩) (by assumption) ?_
      rotate_left 1
      · intro w' hSw
        try dsimp only at hSw
        go_simp
        try with_reducible rfl
      try simp only [List.getElem_toArray, List.getElem_cons_zero, List.getElem_cons_succ, Act.put, List.setIfInBounds_toArray, List.set_cons_zero, List.set_cons_succ]
      refine wpAnyH_take (i := 6) (v := ?_) rfl (by kernel_rfl) (by kernel_rfl) (by kernel_rfl) (fun _ _ _ h => h) (Or.inl ⟨by rfl, ?_⟩) (by assumption) ?_
      rotate_left 1
      · intro w' hSw
        try dsimp only at hSw
        go_simp
        try with_reducible rfl
      try simp only [List.getElem_toArray, List.getElem_cons_zero, List.getElem_cons_succ, Act.put, List.setIfInBounds_toArray, List.set_cons_zero, List.set_cons_succ]
      refine wpAnyH_take (i := 7) (v := ?_) rfl (by kernel_rfl) (by kernel_rfl) (by kernel_rfl) (fun _ _ _ h => h) (Or.inl ⟨by rfl, ?_⟩) (by assumption) ?_
      rotate_left 1
      · intro w' hSw
        try dsimp only at hSw
        go_simp
        try with_reducible rfl
      try simp only [List.getElem_toArray, List.getElem_cons_zero, List.getElem_cons_succ, Act.put, List.setIfInBounds_toArray, List.set_cons_zero, List.set_cons_succ]
      refine wpAnyH_take (i := 8) (v := ?_) rfl (by kernel_rfl) (by kernel_rfl) (by kernel_rfl) (fun _ _ _ h => h) (Or.inl ⟨by rfl, ?_⟩) (by assumption) ?_
      rotate_left 1
      · intro w' hSw
        try dsimp only at hSw
        go_simp
        try with_reducible rfl
      try simp only [List.getElem_toArray, List.getElem_cons_zero, List.getElem_cons_succ, Act.put, List.setIfInBounds_toArray, List.set_cons_zero, List.set_cons_succ]
      refine wpAnyH_take (i := 9) (v := ?_) rfl (by kernel_rfl) (by kernel_rfl) (by kernel_rfl) (fun _ _ _ h => h) (Or.inl ⟨by rfl, ?_⟩) (by assumption) ?_
      rotate_left 1
      · intro w' hSw
        try dsimp only at hSw
        go_simp
        try with_reducible rfl
      try simp only [List.getElem_toArray, List.getElem_cons_zero, List.getElem_cons_succ, Act.put, List.setIfInBounds_toArray, List.set_cons_zero, List.set_cons_succ]
      refine wpAnyH_take (i := 10) (v := ?_) rfl (by kernel_rfl) (by kernel_rfl) (by kernel_rfl) (fun _ _ _ h => h) (Or.inl ⟨by rfl, ?_⟩) (by assumption) ?_
      rotate_left 1
      · intro w' hSw
        try dsimp only at hSw
        go_simp
        try with_reducible rfl
      try simp only [List.getElem_toArray, List.getElem_cons_zero, List.getElem_cons_succ, Act.put, List.setIfInBounds_toArray, List.set_cons_zero, List.set_cons_succ]
      refine wpAnyH_take (i := 11) (v := ?_) rfl (by kernel_rfl) (by kernel_rfl) (by kernel_rfl) (fun _ _ _ h => h) (Or.inl ⟨by rfl, ?_⟩) (by assumption) ?_
      rotate_left 1
      · intro w' hSw
        try dsimp only at hSw
        go_simp
        try with_reducible rfl
      try simp only [List.getElem_toArray, List.getElem_cons_zero, List.getElem_cons_succ, Act.put, List.setIfInBounds_toArray, List.set_cons_zero, List.set_cons_succ]
      refine wpAnyH_done (by kernel_rfl) ?_ _
      refine NoPanic.normal ?_
      clear e6
      obtain ⟨W6, hW6⟩ : ∃ W, W = w5.drew := ⟨_, rfl⟩
      rw [← hW6]
      have K6 : Hid (Only (fun _ => False) W2 W6) := Lib.hid (by rw [hW6]; exact K5.out.drew)
      have HB6 : Hid (BoxV W6 q [.int .i64 gg, .int .i64 gu, .int .i64 ga, .bool gf]) := Lib.hid (by rw [hW6]; exact HB5.out.only ((Only.refl (fun _ => False) _).drew) (fun f => f))
      clear hW6 HB5 HA5 HSA
      obtain ⟨st1, st2, st3⟩ := HSO.out N P US hNN.1 hPP.1 hPP.2 hus0 (by omega)
      have HSX := HSE.out gu ga gf US hNN.2 (by omega)
      rw [st1] at HSX
      have HPO := Lib.hid (ra_pos D F T gg M1 B1 G2 M2 B2 s1 s2 N P US)
      clear st1
      generalize raL D F T gg M1 B1 G2 M2 B2 s1 s2 N P US = L at *
      generalize raK D F T gg M1 B1 G2 M2 B2 s1 s2 N P US = rk at *
      generalize raP D F T gg M1 B1 G2 M2 B2 s1 s2 N P US = rp at *
      generalize costB L = cb at *
      have HST : Hid (∀ w', Only (fun _ => False) W6 w' → Calls Try.prog 49 #[.agg #[.int .i64 gg, .int .i64 gu, .int .i64 ga, .bool gf], .agg #[.int .i64 D, .int .i64 F, .int .i64 T, .int .i64 gg, .int .i64 M1, .int .i64 B1, .slice a3 s1.length q3, .int .i64 G2, .int .i64 M2, .int .i64 B2, .slice a4 s2.length q4], .int .i64 N, .int .i64 P, .int .i64 US] w' fun e w'' => ∃ a cap, e = .returned (.tuple #[.agg #[.slice a L.length cap, .int .i64 rk, .int .i64 cb, .int .i64 rp], .int .i64 (ga - cb), .int .i64 0]) ∧ ReadsN w'' a L.length L ∧ Only (fun _ => False) w' w'') := Lib.hid (fun w' ho => (HSX w' (K6.out.trans ho)).mono fun e w'' h => by unfold SetAt at h; rwa [if_pos rfl] at h)
      have HS7 : Hid (∀ w', Only (fun _ => False) W6 w' → Only (fun _ => False) W6 w' ∧ w'.cell? ⟨w.heap.size, 0, none⟩ = some (.int .i64 D) ∧ w'.cell? ⟨w.heap.size, 1, none⟩ = some (.int .i64 F) ∧ w'.cell? ⟨w.heap.size, 2, none⟩ = some (.int .i64 T) ∧ w'.cell? ⟨w.heap.size, 3, none⟩ = some (.int .i64 gg) ∧ w'.cell? ⟨w.heap.size, 4, none⟩ = some (.int .i64 M1) ∧ w'.cell? ⟨w.heap.size, 5, none⟩ = some (.int .i64 B1) ∧ w'.cell? ⟨w.heap.size, 6, none⟩ = some (.slice a3 s1.length q3) ∧ w'.cell? ⟨w.heap.size, 7, none⟩ = some (.int .i64 G2) ∧ w'.cell? ⟨w.heap.size, 8, none⟩ = some (.int .i64 M2) ∧ w'.cell? ⟨w.heap.size, 9, none⟩ = some (.int .i64 B2) ∧ w'.cell? ⟨w.heap.size, 10, none⟩ = some (.slice a4 s2.length q4) ∧ w'.cell? ⟨q, 0, none⟩ = some (.int .i64 gg) ∧ w'.cell? ⟨q, 1, none⟩ = some (.int .i64 gu) ∧ w'.cell? ⟨q, 2, none⟩ = some (.int .i64 ga) ∧ w'.cell? ⟨q, 3, none⟩ = some (.bool gf)) := Lib.hid (fun w' ho => by
        obtain ⟨⟨p0, p1, p2, p3, p4, p5, p6, p7, p8, p9, p10⟩, _⟩ := (HPB.out.only (K6.out.trans ho) (fun f => f)).all
        have hB := HB6.out.only ho (fun f => f)
        exact ⟨ho, p0, p1, p2, p3, p4, p5, p6, p7, p8, p9, p10, (hB 0 _ rfl).1, (hB 1 _ rfl).1, (hB 2 _ rfl).1, (hB 3 _ rfl).1⟩)
      have HNZ : Hid (∀ (W W' : World), Only (fun _ => False) ((W.alloc (.cells #[.slice none 0 0, .int .i64 0, .int .i64 0, .int .i64 0] 34)).drew) W' → Zr4 W' W.heap.size) := Lib.hid (fun W W' ho => (Zr4.new W _).only ((Only.refl (fun _ => False) _).drew.trans ho) (fun f => f))
      have HNZ2 : Hid (∀ (W W' : World), Only (fun _ => False) (W.alloc (.cells #[.slice none 0 0, .int .i64 0, .int .i64 0, .int .i64 0] 34)) W' → Zr4 W' W.heap.size) := Lib.hid (fun W W' ho => (Zr4.new W _).only ho (fun f => f))
      clear HSX HSE HMK HNEW HNEW2 HS
      go_wp2_with fail
      go_region_held3 (fun w' => Only (fun _ => False) W6 w' ∧ w'.cell? ⟨w.heap.size, 0, none⟩ = some (.int .i64 D) ∧ w'.cell? ⟨w.heap.size, 1, none⟩ = some (.int .i64 F) ∧ w'.cell? ⟨w.heap.size, 2, none⟩ = some (.int .i64 T) ∧ w'.cell? ⟨w.heap.size, 3, none⟩ = some (.int .i64 gg) ∧ w'.cell? ⟨w.heap.size, 4, none⟩ = some (.int .i64 M1) ∧ w'.cell? ⟨w.heap.size, 5, none⟩ = some (.int .i64 B1) ∧ w'.cell? ⟨w.heap.size, 6, none⟩ = some (.slice a3 s1.length q3) ∧ w'.cell? ⟨w.heap.size, 7, none⟩ = some (.int .i64 G2) ∧ w'.cell? ⟨w.heap.size, 8, none⟩ = some (.int .i64 M2) ∧ w'.cell? ⟨w.heap.size, 9, none⟩ = some (.int .i64 B2) ∧ w'.cell? ⟨w.heap.size, 10, none⟩ = some (.slice a4 s2.length q4) ∧ w'.cell? ⟨q, 0, none⟩ = some (.int .i64 gg) ∧ w'.cell? ⟨q, 1, none⟩ = some (.int .i64 gu) ∧ w'.cell? ⟨q, 2, none⟩ = some (.int .i64 ga) ∧ w'.cell? ⟨q, 3, none⟩ = some (.bool gf))
        ((refine HS7.out _ ?_; first | with_reducible exact Only.refl _ _ | with_reducible exact (Only.refl _ _).drew | with_reducible exact (Only.refl _ _).alloc _ | with_reducible exact ((Only.refl _ _).alloc _).drew | with_reducible exact ((Only.refl _ _).drew).alloc _ | with_reducible exact ((Only.refl _ _).drew).trans ho | with_reducible exact hot.out.alloc _ | with_reducible exact hot.out | exact puts_only _ [.slice al L.length cl, .int .i64 rk, .int .i64 cb, .int .i64 rp] 0 W6 _ hot.out (.inr (by first | exact Nat.le_refl _ | assumption))))
        (first | (go_at_call 41; (with_reducible refine (HTO.out _).mono ?_); rintro _ wn ⟨rfl, ho⟩; have hot := Lib.hid (show Only (fun _ => False) W6 wn from by go_split_ands; exact Only.trans (by assumption) ho); have hsz := hot.out.size; (try (with_reducible have hbx := HNZ.out _ _ ho)); (try (with_reducible have hbx := HNZ2.out _ _ ho)); (try (with_reducible have hbx := hbx.only ho (fun f => f)))) | (go_at_call 49; (with_reducible refine (HST.out _ (by go_split_ands; assumption)).mono ?_); rintro _ wn ⟨al, cl, rfl, hrd, ho⟩; have hot := Lib.hid (show Only (fun _ => False) W6 wn from by go_split_ands; exact Only.trans (by assumption) ho); (try (with_reducible have hbx := HNZ.out _ _ ho)); (try (with_reducible have hbx := HNZ2.out _ _ ho)); (try (with_reducible have hbx := hbx.only ho (fun f => f))); (try (obtain ⟨⟨z0, z1, z2, z3⟩, y0, y1, y2, y3⟩ := hbx.all))))
      all_goals
        first
        | (obtain ⟨W7, hb, hW⟩ := rbox_put hbx hot.out (by first | exact Nat.le_refl _ | assumption) cl rk cb rp hrd HPO.out
           rw [← hW])
        | (obtain ⟨W7, hb, hW⟩ := rbox_new hot.out cl rk cb rp 34 hrd
           rw [← hW])
        clear hW
        have HX7 := Lib.hid hb
        have K7 := Lib.hid (K6.out.trans hb.2.2.2)
        have HG7 := Lib.hid (HB6.out.only hb.2.2.2 (fun f => f))
        have KE := Lib.hid (HOW.out.trans K7.out)
        try clear hbx z0 z1 z2 z3 y0 y1 y2 y3
        clear ho hot hsz hrd hb
        obtain ⟨r0, r1, r2, r3⟩ := HX7.out.all
        have g1 := (HG7.out 1 _ rfl).1
        have g2 := (HG7.out 2 _ rfl).1
        have g3 := (HG7.out 3 _ rfl).1
        have x0 := ((HA2.out.only K7.out (fun f => f)) 0 _ rfl).1
        obtain ⟨hf1, hf2, hf3, hf4, hf5⟩ := HF.out
        have v1 : IntKind.i64.wrap (cb + (ga - cb)) = ga := by rw [wrap_i64]; omega
        have v2 : wrap64 (cb + (ga - cb)) = ga := by rw [wrap64_eq]; omega
        have v3 : (ga == ga) = true := by simp
        have v4 : 0 ≤ ga - cb := by omega
        have v5 := HMF.out
        go_wp2_with fail
        go_ret
        exact ⟨rfl, KE.out⟩
theorem gbounds_walk (D F T G1 M1 B1 G2 M2 B2 : Int) (a1 a2 : Option Addr) (n1 n2 c1 c2 : Nat) (t1 t2 : List Tr) (cr j0 j1 j2 j3 : Int) (w : World) (h1 : TiersR w a1 n1 c1 t1) (h2 : TiersR w a2 n2 c2 t2) (hcr : InI cr) :
    Calls Try.prog 13 #[.agg #[.int .i64 D, .int .i64 F, .int .i64 T, .int .i64 G1, .int .i64 M1, .int .i64 B1, .slice a1 n1 c1, .int .i64 G2, .int .i64 M2, .int .i64 B2, .slice a2 n2 c2], .int .i64 cr, .agg #[.int .i64 j0, .int .i64 j1, .int .i64 j2, .int .i64 j3]] w fun e w' => e = .returned (.bool true) ∧ Below w.heap.size w w' :=
  (gbounds_any D F T G1 M1 B1 G2 M2 B2 a1 a2 n1 n2 c1 c2 t1 t2 cr j0 j1 j2 j3 _ _ w h1 h2 (by unfold InI at hcr; omega) rfl rfl).mono fun _ _ ⟨h1, h2⟩ => ⟨h1, h2.none⟩
end Go.Proofs.Ytonacdjaimokeaa.tirw
