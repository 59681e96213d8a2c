/- RateBounded's walk. -/
import Derived.Test.YtonacdjaimokeaaRatX
import Derived.Deep.RegionHeld3
namespace Go.Proofs.Ytonacdjaimokeaa.tirw
open Go.RowKit mem tirm intm bigm bigw
set_option linter.unusedVariables false

set_option maxRecDepth 100000 in
set_option maxHeartbeats 2000000 in
theorem rbound_any (D F T G1 M1 B1 G2 M2 B2 : Int) (a1 a2 : Option Addr) (n1 n2 c1 c2 : Nat) (t1 t2 : List Tr) (now pos u cr : Int) (w : World) (h1 : TiersR w a1 n1 c1 t1) (h2 : TiersR w a2 n2 c2 t2) (hx : now ≤ 9223372036854775807) :
    Calls Try.prog 4 #[.agg #[.int .i64 D, .int .i64 F, .int .i64 T, .int .i64 G1, .int .i64 M1, .int .i64 B1, .slice a1 n1 c1, .int .i64 G2, .int .i64 M2, .int .i64 B2, .slice a2 n2 c2], .agg #[.int .i64 now, .int .i64 pos, .int .i64 u, .int .i64 cr]] w fun e w' => e = .returned (.bool true) ∧ Only (fun _ => False) w w' := by
  obtain ⟨W0, hW0⟩ : ∃ W0, W0 = (w.alloc (.cells #[.int .i64 D, .int .i64 F, .int .i64 T, .int .i64 G1, .int .i64 M1, .int .i64 B1, .slice a1 n1 c1, .int .i64 G2, .int .i64 M2, .int .i64 B2, .slice a2 n2 c2] 26)).alloc (.cells #[.int .i64 now, .int .i64 pos, .int .i64 u, .int .i64 cr] 28) := ⟨_, rfl⟩
  have HO0 : Hid (Only (fun _ => False) w W0 ∧ W0.heap.size = w.heap.size + 2) := Lib.hid (by rw [hW0]; exact ⟨((Only.refl _ w).alloc _).alloc _, by simp⟩)
  have HP : Hid (BoxV W0 w.heap.size (plV D F T G1 M1 B1 G2 M2 B2 a1 a2 n1 n2 c1 c2)) := Lib.hid (by rw [hW0]; exact (BoxV.new w (plV D F T G1 M1 B1 G2 M2 B2 a1 a2 n1 n2 c1 c2) _ _ rfl).only ((Only.refl (fun _ => False) _).alloc _) (fun f => f))
  have HA : Hid (BoxV W0 (w.heap.size + 1) [.int .i64 now, .int .i64 pos, .int .i64 u, .int .i64 cr]) := Lib.hid (by rw [hW0]; exact BoxV.new _ [.int .i64 now, .int .i64 pos, .int .i64 u, .int .i64 cr] _ _ (by simp))
  have HTM := Lib.hid (ptame_any D F T G1 M1 B1 G2 M2 B2 a1 a2 n1 n2 c1 c2 t1 t2 W0 (h1.only HO0.out.1) (h2.only HO0.out.1))
  clear h1 h2
  generalize t1.take (min n1 9) = s1 at *
  generalize t2.take (min n2 9) = s2 at *
  go_enter Try.func4, Try.ntmps4
  obtain ⟨⟨p0, p1, p2, p3, p4, p5, p6, p7, p8, p9, p10⟩, _⟩ := HP.out.all
  rw [hW0] at p0 p1 p2 p3 p4 p5 p6 p7 p8 p9 p10
  go_wp2_with fail
  rw [← hW0]
  clear hW0 p0 p1 p2 p3 p4 p5 p6 p7 p8 p9 p10
  refine HTM.out.mono ?_
  rintro _ w1 ⟨a3, a4, q3, q4, rfl, hr3, hr4, k1, hb3, hb4⟩
  have HB1 := HP.out.only k1 (fun f => f)
  obtain ⟨W2, HP2, HO2, hW2⟩ := plan_put HB1 rfl D F T G1 M1 B1 G2 M2 B2 a3 a4 s1.length s2.length q3 q4
  have HR3 : Hid (ReadsT W2 a3 s1.length s1) := Lib.hid (hr3.only HO2 (fun y hy e => by have := hb3 y hy; have := HO0.out.2; have e' : y.block = w.heap.size := e; omega))
  have HR4 : Hid (ReadsT W2 a4 s2.length s2) := Lib.hid (hr4.only HO2 (fun y hy e => by have := hb4 y hy; have := HO0.out.2; have e' : y.block = w.heap.size := e; omega))
  have HOW : Hid (Only (fun _ => False) w W2) := Lib.hid ((HO0.out.1.trans k1).then HO2 (fun q hq e => by have e' : q = w.heap.size := e; omega))
  have HA2 : Hid (BoxV W2 (w.heap.size + 1) [.int .i64 now, .int .i64 pos, .int .i64 u, .int .i64 cr]) := Lib.hid ((HA.out.only k1 (fun f => f)).only HO2 (fun e => by have e' : w.heap.size + 1 = w.heap.size := e; omega))
  have HPB := Lib.hid HP2
  have HTO := Lib.hid (fun w' => to_any D F T G1 M1 B1 G2 M2 B2 a3 a4 s1.length s2.length q3 q4 w')
  have HRT := Lib.hid (fun w' (ho : Only (fun _ => False) W2 w') => rate_any D F T G1 M1 B1 G2 M2 B2 a3 a4 s1.length s2.length q3 q4 s1 s2 now pos u w' (HR3.out.only ho (fun _ _ f => f)) (HR4.out.only ho (fun _ _ f => f)) hx)
  have HWO := Lib.hid (fun w' (ho : Only (fun _ => False) W2 w') => worst_any D F T G1 M1 B1 G2 M2 B2 a3 a4 s1.length s2.length q3 q4 s1 s2 u w' (HR3.out.only ho (fun _ _ f => f)) (HR4.out.only ho (fun _ _ f => f)))
  have HPO := Lib.hid (ra_pos D F T G1 M1 B1 G2 M2 B2 s1 s2 now pos u)
  have HLN := Lib.hid (ra_len D F T G1 M1 B1 G2 M2 B2 s1 s2 now pos u)
  have HFACT : Hid (raE D F T G1 M1 B1 G2 M2 B2 s1 s2 now pos u = 1 ∨ raE D F T G1 M1 B1 G2 M2 B2 s1 s2 now pos u = 0 ∧ worE D F T G1 M1 B1 G2 M2 B2 s1 s2 u = 0 ∧ costOk (raL D F T G1 M1 B1 G2 M2 B2 s1 s2 now pos u) = true ∧ costN (raL D F T G1 M1 B1 G2 M2 B2 s1 s2 now pos u) = costB (raL D F T G1 M1 B1 G2 M2 B2 s1 s2 now pos u) ∧ 0 ≤ costB (raL D F T G1 M1 B1 G2 M2 B2 s1 s2 now pos u) ∧ costB (raL D F T G1 M1 B1 G2 M2 B2 s1 s2 now pos u) ≤ worN D F T G1 M1 B1 G2 M2 B2 s1 s2 u ∧ raP D F T G1 M1 B1 G2 M2 B2 s1 s2 now pos u = pos + raK D F T G1 M1 B1 G2 M2 B2 s1 s2 now pos u ∧ wrap64 (pos + raK D F T G1 M1 B1 G2 M2 B2 s1 s2 now pos u) = pos + raK D F T G1 M1 B1 G2 M2 B2 s1 s2 now pos u ∧ IntKind.i64.wrap (pos + raK D F T G1 M1 B1 G2 M2 B2 s1 s2 now pos u) = pos + raK D F T G1 M1 B1 G2 M2 B2 s1 s2 now pos u) := Lib.hid (by
    by_cases hn : RatNo D F T G1 M1 B1 G2 M2 B2 s1 s2 now pos u
    · exact .inl (ra_no hn).2.2.2
    · right
      obtain ⟨_, hc, ho, e2, e3, e4, _, _⟩ := ra_side hn
      obtain ⟨f1, f2, f3, f4, _⟩ := ra_facts hn
      rw [e2, e3, e4]
      have hb : 0 ≤ pos ∧ pos ≤ 1099511627776 ∧ 0 ≤ bk u B1 ∧ bk u B1 ≤ 1073741824 := by unfold outB at ho; omega
      refine ⟨rfl, by unfold worE; rw [if_pos hc], f1, f2, f3, by unfold worN; rw [if_pos hc]; exact f4, rfl, by rw [wrap64_eq]; omega, by rw [wrap_i64]; omega⟩)
  generalize raL D F T G1 M1 B1 G2 M2 B2 s1 s2 now pos u = L at *
  generalize raK D F T G1 M1 B1 G2 M2 B2 s1 s2 now pos u = rk at *
  generalize raP D F T G1 M1 B1 G2 M2 B2 s1 s2 now pos u = rp at *
  generalize raE D F T G1 M1 B1 G2 M2 B2 s1 s2 now pos u = re at *
  generalize worN D F T G1 M1 B1 G2 M2 B2 s1 s2 u = wn0 at *
  generalize worE D F T G1 M1 B1 G2 M2 B2 s1 s2 u = we0 at *
  have HCO := Lib.hid (fun al cl w' (h : ReadsN w' al L.length L) => rcost_any al L.length cl L w' h HLN.out.2 (by have := HLN.out.1; omega))
  unfold CostAt at HCO
  generalize costN L = cn at *
  generalize costB L = cb at *
  generalize costOk L = ck at *
  obtain ⟨⟨z0, z1, z2, z3, z4, z5, z6, z7, z8, z9, z10⟩, y0, y1, y2, y3, y4, y5, y6, y7, y8, y9, y10⟩ := HB1.all
  obtain ⟨⟨p0, p1, p2, p3, p4, p5, p6, p7, p8, p9, p10⟩, _⟩ := HP2.all
  rw [hW2] at p0 p1 p2 p3 p4 p5 p6 p7 p8 p9 p10
  clear hr3 hr4 k1 hb3 hb4 HB1 HO2 HP2
  go_wp2_with fail
  rw [← hW2]
  clear hW2 p0 p1 p2 p3 p4 p5 p6 p7 p8 p9 p10 z0 z1 z2 z3 z4 z5 z6 z7 z8 z9 z10 y0 y1 y2 y3 y4 y5 y6 y7 y8 y9 y10
  have HS : Hid (∀ w', Only (fun _ => False) W2 w' → Only (fun _ => False) W2 w' ∧ w'.cell? ⟨w.heap.size, 0, none⟩ = some (.int .i64 D) ∧ w'.cell? ⟨w.heap.size, 1, none⟩ = some (.int .i64 F) ∧ w'.cell? ⟨w.heap.size, 2, none⟩ = some (.int .i64 T) ∧ w'.cell? ⟨w.heap.size, 3, none⟩ = some (.int .i64 G1) ∧ w'.cell? ⟨w.heap.size, 4, none⟩ = some (.int .i64 M1) ∧ w'.cell? ⟨w.heap.size, 5, none⟩ = some (.int .i64 B1) ∧ w'.cell? ⟨w.heap.size, 6, none⟩ = some (.slice a3 s1.length q3) ∧ w'.cell? ⟨w.heap.size, 7, none⟩ = some (.int .i64 G2) ∧ w'.cell? ⟨w.heap.size, 8, none⟩ = some (.int .i64 M2) ∧ w'.cell? ⟨w.heap.size, 9, none⟩ = some (.int .i64 B2) ∧ w'.cell? ⟨w.heap.size, 10, none⟩ = some (.slice a4 s2.length q4) ∧ w'.cell? ⟨w.heap.size + 1, 0, none⟩ = some (.int .i64 now) ∧ w'.cell? ⟨w.heap.size + 1, 1, none⟩ = some (.int .i64 pos) ∧ w'.cell? ⟨w.heap.size + 1, 2, none⟩ = some (.int .i64 u)) := Lib.hid (fun w' ho => by
    obtain ⟨⟨p0, p1, p2, p3, p4, p5, p6, p7, p8, p9, p10⟩, _⟩ := (HPB.out.only ho (fun f => f)).all
    have hA := HA2.out.only ho (fun f => f)
    exact ⟨ho, p0, p1, p2, p3, p4, p5, p6, p7, p8, p9, p10, (hA 0 _ rfl).1, (hA 1 _ rfl).1, (hA 2 _ rfl).1⟩)
  have HNEW : Hid (∀ (W W' : World), Only (fun _ => False) ((W.alloc (.cells #[.slice none 0 0, .int .i64 0, .int .i64 0, .int .i64 0] 34)).drew) W' → Zr4 W' W.heap.size) := Lib.hid (fun W W' ho => (Zr4.new W _).only ((Only.refl (fun _ => False) _).drew.trans ho) (fun f => f))
  have HNEW2 : Hid (∀ (W W' : World), Only (fun _ => False) (W.alloc (.cells #[.slice none 0 0, .int .i64 0, .int .i64 0, .int .i64 0] 34)) W' → Zr4 W' W.heap.size) := Lib.hid (fun W W' ho => (Zr4.new W _).only ho (fun f => f))
  have HOW2 : Hid (Only (fun _ => False) W2 W2) := Lib.hid (Only.refl _ _)
  go_region_held3 (fun w' => Only (fun _ => False) W2 w' ∧ w'.cell? ⟨w.heap.size, 0, none⟩ = some (.int .i64 D) ∧ w'.cell? ⟨w.heap.size, 1, none⟩ = some (.int .i64 F) ∧ w'.cell? ⟨w.heap.size, 2, none⟩ = some (.int .i64 T) ∧ w'.cell? ⟨w.heap.size, 3, none⟩ = some (.int .i64 G1) ∧ w'.cell? ⟨w.heap.size, 4, none⟩ = some (.int .i64 M1) ∧ w'.cell? ⟨w.heap.size, 5, none⟩ = some (.int .i64 B1) ∧ w'.cell? ⟨w.heap.size, 6, none⟩ = some (.slice a3 s1.length q3) ∧ w'.cell? ⟨w.heap.size, 7, none⟩ = some (.int .i64 G2) ∧ w'.cell? ⟨w.heap.size, 8, none⟩ = some (.int .i64 M2) ∧ w'.cell? ⟨w.heap.size, 9, none⟩ = some (.int .i64 B2) ∧ w'.cell? ⟨w.heap.size, 10, none⟩ = some (.slice a4 s2.length q4) ∧ w'.cell? ⟨w.heap.size + 1, 0, none⟩ = some (.int .i64 now) ∧ w'.cell? ⟨w.heap.size + 1, 1, none⟩ = some (.int .i64 pos) ∧ w'.cell? ⟨w.heap.size + 1, 2, none⟩ = some (.int .i64 u))
    ((refine HS.out _ ?_; first | with_reducible exact Only.refl _ _ | with_reducible exact (Only.refl _ _).drew | with_reducible exact (Only.refl _ _).alloc _ | with_reducible exact ((Only.refl _ _).alloc _).drew | with_reducible exact ((Only.refl _ _).drew).alloc _ | with_reducible exact ((Only.refl _ _).drew).trans ho | with_reducible exact hot.out.alloc _ | with_reducible exact hot.out | exact puts_only _ [.slice al L.length cl, .int .i64 rk, .int .i64 cb, .int .i64 rp] 0 W2 _ hot.out (.inr (by first | exact Nat.le_refl _ | assumption))))
    (first | (go_at_call 16; (with_reducible refine (HTO.out _).mono ?_); rintro _ wn ⟨rfl, ho⟩; have hot := Lib.hid (show Only (fun _ => False) W2 wn from by go_split_ands; exact Only.trans (by assumption) ho); have hsz := hot.out.size; (try (with_reducible have hbx := HNEW.out _ _ ho)); (try (with_reducible have hbx := HNEW2.out _ _ ho)); (try (with_reducible have hbx := hbx.only ho (fun f => f)))) | (go_at_call 17; (with_reducible refine (HRT.out _ (by go_split_ands; assumption)).mono ?_); rintro _ wn ⟨al, cl, rfl, hrd, ho⟩; have hot := Lib.hid (show Only (fun _ => False) W2 wn from by go_split_ands; exact Only.trans (by assumption) ho); have hsz := hot.out.size; (try (with_reducible have hbx := HNEW.out _ _ ho)); (try (with_reducible have hbx := HNEW2.out _ _ ho)); (try (with_reducible have hbx := hbx.only ho (fun f => f))); (try (obtain ⟨⟨z0, z1, z2, z3⟩, y0, y1, y2, y3⟩ := hbx.all))))
  all_goals
    first
    | (obtain ⟨W, hb, hW⟩ := rbox_put hbx hot.out (by first | exact Nat.le_refl _ | assumption) cl rk cb rp hrd HPO.out
       rw [← hW])
    | (obtain ⟨W, hb, hW⟩ := rbox_new hot.out cl rk cb rp 34 hrd
       rw [← hW])
    clear hW
    have HB := Lib.hid hb
    have K3 := Lib.hid hb.2.2.2
    try clear hbx z0 z1 z2 z3 y0 y1 y2 y3
    clear ho hot hsz hrd hb
    obtain ⟨_, p0, p1, p2, p3, p4, p5, p6, p7, p8, p9, p10, a0, a1, a2⟩ := HS.out _ K3.out
    have HS3 := Lib.hid (fun w' ho => HS.out w' (K3.out.trans ho))
    clear HNEW HNEW2 HRT
    go_wp2_with fail
    clear p0 p1 p2 p3 p4 p5 p6 p7 p8 p9 p10 a0 a1 a2
    go_region_held3 (fun w' => Only (fun _ => False) W2 w' ∧ w'.cell? ⟨w.heap.size, 0, none⟩ = some (.int .i64 D) ∧ w'.cell? ⟨w.heap.size, 1, none⟩ = some (.int .i64 F) ∧ w'.cell? ⟨w.heap.size, 2, none⟩ = some (.int .i64 T) ∧ w'.cell? ⟨w.heap.size, 3, none⟩ = some (.int .i64 G1) ∧ w'.cell? ⟨w.heap.size, 4, none⟩ = some (.int .i64 M1) ∧ w'.cell? ⟨w.heap.size, 5, none⟩ = some (.int .i64 B1) ∧ w'.cell? ⟨w.heap.size, 6, none⟩ = some (.slice a3 s1.length q3) ∧ w'.cell? ⟨w.heap.size, 7, none⟩ = some (.int .i64 G2) ∧ w'.cell? ⟨w.heap.size, 8, none⟩ = some (.int .i64 M2) ∧ w'.cell? ⟨w.heap.size, 9, none⟩ = some (.int .i64 B2) ∧ w'.cell? ⟨w.heap.size, 10, none⟩ = some (.slice a4 s2.length q4) ∧ w'.cell? ⟨w.heap.size + 1, 0, none⟩ = some (.int .i64 now) ∧ w'.cell? ⟨w.heap.size + 1, 1, none⟩ = some (.int .i64 pos) ∧ w'.cell? ⟨w.heap.size + 1, 2, none⟩ = some (.int .i64 u))
      ((refine HS.out _ ?_; first | with_reducible exact K3.out | with_reducible exact K3.out.drew | with_reducible exact K3.out.drew.trans ho | with_reducible exact hot.out))
      (first | (go_at_call 16; (with_reducible refine (HTO.out _).mono ?_); rintro _ wn ⟨rfl, ho⟩; have hot := Lib.hid (show Only (fun _ => False) W2 wn from by go_split_ands; exact Only.trans (by assumption) ho); have hw3 := Lib.hid ((Only.refl (fun _ => False) W).drew.trans ho)) | (go_at_call 19; (with_reducible refine (HWO.out _ (by go_split_ands; assumption)).mono ?_); rintro _ wn ⟨rfl, ho⟩; have hot := Lib.hid (show Only (fun _ => False) W2 wn from by go_split_ands; exact Only.trans (by assumption) ho); have hw3 := Lib.hid (hw3.out.trans ho)))
    have K4 := Lib.hid (HOW.out.trans hot.out)
    have HB4 := Lib.hid (HB.out.only hw3.out)
    have HA4 := Lib.hid (HA2.out.only hot.out (fun f => f))
    clear ho hot hw3 HTO HWO HS HS3 HB
    rcases HFACT.out with e | ⟨e, f1, f2, f3, f4, f5, f6, f7, f8⟩
    · subst e
      go_wp2_with fail
      refine (rates_any _).mono ?_
      rintro _ w5 ⟨rfl, k5⟩
      have K5 := Lib.hid (K4.out.trans k5)
      clear k5
      go_wp2_with fail
      refine (rates_any _).mono ?_
      rintro _ w6 ⟨rfl, k6⟩
      have K6 := Lib.hid (K5.out.trans k6)
      clear k6
      go_wp2_with fail
      go_ret
      exact ⟨rfl, K6.out⟩
    · subst e
      subst f1
      subst f2
      subst f6
      subst f3
      go_wp2_with fail
      refine (rates_any _).mono ?_
      rintro _ w5 ⟨rfl, k5⟩
      have K5 := Lib.hid (K4.out.trans k5)
      have HB5 := Lib.hid (HB4.out.only k5)
      have HA5 := Lib.hid (HA4.out.only k5 (fun f => f))
      clear k5
      obtain ⟨r0, r1, r2, r3⟩ := HB5.out.all
      go_wp2_with fail
      refine (HCO.out al cl w5 HB5.out.2.1).mono ?_
      rintro _ w6 ⟨rfl, k6⟩
      have K6 := Lib.hid (K5.out.trans k6)
      have HB6 := Lib.hid (HB5.out.only k6)
      have HA6 := Lib.hid (HA5.out.only k6 (fun f => f))
      clear k6 r0 r1 r2 r3
      obtain ⟨r0, r1, r2, r3⟩ := HB6.out.all
      have x1 := (HA6.out 1 _ rfl).1
      have b1 : (cn == cn) = true := by simp
      have b2 : (pos + rk == pos + rk) = true := by simp
      go_wp2_with fail
      go_ret
      exact ⟨rfl, K6.out⟩
theorem rbound_walk (D F T G1 M1 B1 G2 M2 B2 : Int) (a1 a2 : Option Addr) (n1 n2 c1 c2 : Nat) (t1 t2 : List Tr) (now pos u cr : Int) (w : World) (h1 : TiersR w a1 n1 c1 t1) (h2 : TiersR w a2 n2 c2 t2) (hx : InI now) :
    Calls Try.prog 4 #[.agg #[.int .i64 D, .int .i64 F, .int .i64 T, .int .i64 G1, .int .i64 M1, .int .i64 B1, .slice a1 n1 c1, .int .i64 G2, .int .i64 M2, .int .i64 B2, .slice a2 n2 c2], .agg #[.int .i64 now, .int .i64 pos, .int .i64 u, .int .i64 cr]] w fun e w' => e = .returned (.bool true) ∧ Below w.heap.size w w' :=
  (rbound_any D F T G1 M1 B1 G2 M2 B2 a1 a2 n1 n2 c1 c2 t1 t2 now pos u cr w h1 h2 (by unfold InI at hx; omega)).mono fun _ _ ⟨h1, h2⟩ => ⟨h1, h2.none⟩
end Go.Proofs.Ytonacdjaimokeaa.tirw
