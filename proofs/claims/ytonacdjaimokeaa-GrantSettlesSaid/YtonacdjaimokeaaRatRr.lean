/- Plans: what so many units come to: the document's Rate. -/
import Derived.Test.YtonacdjaimokeaaRatX
import Derived.Test.YtonacdjaimokeaaRatRw
namespace Go.Proofs.Ytonacdjaimokeaa.tirw
open Go.RowKit mem tirm intm bigm bigw
set_option linter.unusedVariables false

set_option maxRecDepth 100000 in
set_option maxHeartbeats 2000000 in
theorem rrate_any (D F T G1 M1 B1 G2 M2 B2 : Int) (a1 a2 : Option Addr) (n1 n2 c1 c2 : Nat) (t1 t2 : List Tr) (now pos u : Int) (w : World) (h1 : ReadsT w a1 n1 t1) (h2 : ReadsT w a2 n2 t2) (hx : now ≤ 9223372036854775807) :
    Calls Try.prog 18 #[.agg #[.int .i64 D, .int .i64 F, .int .i64 T, .int .i64 G1, .int .i64 M1, .int .i64 B1, .slice a1 n1 c1, .int .i64 G2, .int .i64 M2, .int .i64 B2, .slice a2 n2 c2], .int .i64 now, .int .i64 pos, .int .i64 u] w (RateAt (raL D F T G1 M1 B1 G2 M2 B2 t1 t2 now pos u) (raK D F T G1 M1 B1 G2 M2 B2 t1 t2 now pos u) (costB (raL D F T G1 M1 B1 G2 M2 B2 t1 t2 now pos u)) (raP D F T G1 M1 B1 G2 M2 B2 t1 t2 now pos u) (raE D F T G1 M1 B1 G2 M2 B2 t1 t2 now pos u) w) := by
  have HCK := Lib.hid (fun w' (ho : Only (fun _ => False) w w') => rcplan_any D F T G1 M1 B1 G2 M2 B2 a1 a2 n1 n2 c1 c2 t1 t2 w' (h1.only ho (fun _ _ f => f)) (h2.only ho (fun _ _ f => f)))
  obtain ⟨Q, hQ⟩ : ∃ Q, RateAt (raL D F T G1 M1 B1 G2 M2 B2 t1 t2 now pos u) (raK D F T G1 M1 B1 G2 M2 B2 t1 t2 now pos u) (costB (raL D F T G1 M1 B1 G2 M2 B2 t1 t2 now pos u)) (raP D F T G1 M1 B1 G2 M2 B2 t1 t2 now pos u) (raE D F T G1 M1 B1 G2 M2 B2 t1 t2 now pos u) w = Q := ⟨_, rfl⟩
  rw [hQ]
  have HQ := Lib.hid hQ
  have HNO : Hid (RatNo D F T G1 M1 B1 G2 M2 B2 t1 t2 now pos u → Hid (Q = RateAt [] 0 0 0 1 w)) := Lib.hid (fun h => Lib.hid (by
    obtain ⟨e1, e2, e3, e4⟩ := ra_no h
    rw [← hQ, e1, e2, e3, e4]
    rfl))
  obtain ⟨W0, hW0⟩ : ∃ W0, W0 = (w.alloc (.cells #[.int .i64 D, .int .i64 F, .int .i64 T, .int .i64 G1, .int .i64 M1, .int .i64 B1, .slice a1 n1 c1, .int .i64 G2, .int .i64 M2, .int .i64 B2, .slice a2 n2 c2] 26)).alloc (.cells #[.slice none 0 0, .int .i64 0, .int .i64 0, .int .i64 0] 38) := ⟨_, rfl⟩
  have HO0 : Hid (Only (fun _ => False) w W0) := Lib.hid (by rw [hW0]; exact ((Only.refl _ w).alloc _).alloc _)
  have HPA : Hid (PlanAt W0 w.heap.size D F T G1 M1 B1 G2 M2 B2 a1 a2 n1 n2 c1 c2) := Lib.hid (by rw [hW0]; exact (PlanAt.new ..).only ((Only.refl (fun _ => False) _).alloc _) (fun f => f))
  have HZ : Hid (Zr4 W0 (w.heap.size + 1)) := Lib.hid (by
    rw [hW0]
    have h := Zr4.new (w.alloc (.cells #[.int .i64 D, .int .i64 F, .int .i64 T, .int .i64 G1, .int .i64 M1, .int .i64 B1, .slice a1 n1 c1, .int .i64 G2, .int .i64 M2, .int .i64 B2, .slice a2 n2 c2] 26)) 38
    have e : (w.alloc (.cells #[.int .i64 D, .int .i64 F, .int .i64 T, .int .i64 G1, .int .i64 M1, .int .i64 B1, .slice a1 n1 c1, .int .i64 G2, .int .i64 M2, .int .i64 B2, .slice a2 n2 c2] 26)).heap.size = w.heap.size + 1 := by simp
    rw [e] at h
    exact h)
  have H1 := Lib.hid h1
  have H2 := Lib.hid h2
  have hxx := hx
  clear h1 h2 hQ hx
  go_enter Try.func18, Try.ntmps18
  obtain ⟨p0, p1, p2, p3, p4, p5, p6, p7, p8, p9, p10⟩ := HPA.out
  rw [hW0] at p0 p1 p2 p3 p4 p5 p6 p7 p8 p9 p10
  go_wp2_with fail
  rw [← hW0]
  clear hW0 p0 p1 p2 p3 p4 p5 p6 p7 p8 p9 p10
  refine (HCK.out _ HO0.out).mono ?_
  rintro _ w1 ⟨rfl, k1⟩
  have K1 := Lib.hid k1
  clear k1
  obtain ⟨p0, p1, p2, p3, p4, p5, p6, p7, p8, p9, p10⟩ := HPA.out.only K1.out (fun f => f)
  by_cases hc : pchk D F T G1 M1 B1 G2 M2 B2 t1 t2 = 0
  rotate_left
  · have HQN := HNO.out (.inr (.inl (fun e => hc e.2.2)))
    have hb : (pchk D F T G1 M1 B1 G2 M2 B2 t1 t2 != 0) = true := by simpa using hc
    generalize pchk D F T G1 M1 B1 G2 M2 B2 t1 t2 = c at *
    clear hc HNO HQ
    have hz := HZ.out.only K1.out (fun f => f)
    obtain ⟨⟨z0, z1, z2, z3⟩, y0, y1, y2, y3⟩ := hz.all
    have HEZ := Lib.hid (hz.box.put [.slice none 0 0, .int .i64 0, .int .i64 0, .int .i64 0] rfl)
    have HPZ := Lib.hid (puts_only (w.heap.size + 1) [.slice none 0 0, .int .i64 0, .int .i64 0, .int .i64 0] 0 w1 w1 (Only.refl (fun x => x = w.heap.size + 1) _) (.inl rfl))
    have KW := Lib.hid (HO0.out.trans K1.out)
    clear hz
    go_wp2_with fail
    refine bodyPost_ret (v := .tuple #[.agg #[.slice none 0 0, .int .i64 0, .int .i64 0, .int .i64 0], .int .i64 1]) (by
      have c0 := (HEZ.out 0 _ rfl).1; have c1 := (HEZ.out 1 _ rfl).1; have c2 := (HEZ.out 2 _ rfl).1; have c3 := (HEZ.out 3 _ rfl).1
      simp only [puts] at c0 c1 c2 c3
      simp [results, Try.results18, go_sem, c0, c1, c2, c3]) rfl (by
      rw [HQN.out]
      exact ⟨none, 0, rfl, ⟨rfl, .inl rfl⟩, KW.out.then HPZ.out (fun q hq e => by have e' : q = w.heap.size + 1 := e; omega)⟩)
  rw [hc]
  by_cases w0 : now < 0
  · have HQN := HNO.out (.inl w0)
    clear hc HNO HQ
    have hz := HZ.out.only K1.out (fun f => f)
    obtain ⟨⟨z0, z1, z2, z3⟩, y0, y1, y2, y3⟩ := hz.all
    have HEZ := Lib.hid (hz.box.put [.slice none 0 0, .int .i64 0, .int .i64 0, .int .i64 0] rfl)
    have HPZ := Lib.hid (puts_only (w.heap.size + 1) [.slice none 0 0, .int .i64 0, .int .i64 0, .int .i64 0] 0 w1 w1 (Only.refl (fun x => x = w.heap.size + 1) _) (.inl rfl))
    have KW := Lib.hid (HO0.out.trans K1.out)
    clear hz
    go_wp2_with fail
    refine bodyPost_ret (v := .tuple #[.agg #[.slice none 0 0, .int .i64 0, .int .i64 0, .int .i64 0], .int .i64 1]) (by
      have c0 := (HEZ.out 0 _ rfl).1; have c1 := (HEZ.out 1 _ rfl).1; have c2 := (HEZ.out 2 _ rfl).1; have c3 := (HEZ.out 3 _ rfl).1
      simp only [puts] at c0 c1 c2 c3
      simp [results, Try.results18, go_sem, c0, c1, c2, c3]) rfl (by
      rw [HQN.out]
      exact ⟨none, 0, rfl, ⟨rfl, .inl rfl⟩, KW.out.then HPZ.out (fun q hq e => by have e' : q = w.heap.size + 1 := e; omega)⟩)
  by_cases u0 : u < 0
  · have HQN := HNO.out (.inr (.inl (fun e => by have := e.1; omega)))
    clear hc HNO HQ
    have hz := HZ.out.only K1.out (fun f => f)
    obtain ⟨⟨z0, z1, z2, z3⟩, y0, y1, y2, y3⟩ := hz.all
    have HEZ := Lib.hid (hz.box.put [.slice none 0 0, .int .i64 0, .int .i64 0, .int .i64 0] rfl)
    have HPZ := Lib.hid (puts_only (w.heap.size + 1) [.slice none 0 0, .int .i64 0, .int .i64 0, .int .i64 0] 0 w1 w1 (Only.refl (fun x => x = w.heap.size + 1) _) (.inl rfl))
    have KW := Lib.hid (HO0.out.trans K1.out)
    clear hz
    go_wp2_with fail
    refine bodyPost_ret (v := .tuple #[.agg #[.slice none 0 0, .int .i64 0, .int .i64 0, .int .i64 0], .int .i64 1]) (by
      have c0 := (HEZ.out 0 _ rfl).1; have c1 := (HEZ.out 1 _ rfl).1; have c2 := (HEZ.out 2 _ rfl).1; have c3 := (HEZ.out 3 _ rfl).1
      simp only [puts] at c0 c1 c2 c3
      simp [results, Try.results18, go_sem, c0, c1, c2, c3]) rfl (by
      rw [HQN.out]
      exact ⟨none, 0, rfl, ⟨rfl, .inl rfl⟩, KW.out.then HPZ.out (fun q hq e => by have e' : q = w.heap.size + 1 := e; omega)⟩)
  by_cases u1 : 1073741824 < u
  · have HQN := HNO.out (.inr (.inl (fun e => by have := e.2.1; omega)))
    clear hc HNO HQ
    have hz := HZ.out.only K1.out (fun f => f)
    obtain ⟨⟨z0, z1, z2, z3⟩, y0, y1, y2, y3⟩ := hz.all
    have HEZ := Lib.hid (hz.box.put [.slice none 0 0, .int .i64 0, .int .i64 0, .int .i64 0] rfl)
    have HPZ := Lib.hid (puts_only (w.heap.size + 1) [.slice none 0 0, .int .i64 0, .int .i64 0, .int .i64 0] 0 w1 w1 (Only.refl (fun x => x = w.heap.size + 1) _) (.inl rfl))
    have KW := Lib.hid (HO0.out.trans K1.out)
    clear hz
    go_wp2_with fail
    refine bodyPost_ret (v := .tuple #[.agg #[.slice none 0 0, .int .i64 0, .int .i64 0, .int .i64 0], .int .i64 1]) (by
      have c0 := (HEZ.out 0 _ rfl).1; have c1 := (HEZ.out 1 _ rfl).1; have c2 := (HEZ.out 2 _ rfl).1; have c3 := (HEZ.out 3 _ rfl).1
      simp only [puts] at c0 c1 c2 c3
      simp [results, Try.results18, go_sem, c0, c1, c2, c3]) rfl (by
      rw [HQN.out]
      exact ⟨none, 0, rfl, ⟨rfl, .inl rfl⟩, KW.out.then HPZ.out (fun q hq e => by have e' : q = w.heap.size + 1 := e; omega)⟩)
  have hcan : CanP D F T G1 M1 B1 G2 M2 B2 t1 t2 u := ⟨by omega, by omega, hc⟩
  obtain ⟨ck1, kk⟩ := pchk_ok hc
  have bb1 := ((tchk_ok G1 M1 B1 t1).1 ck1).2.2.1
  have g1 : 0 ≤ u := by omega
  have hD : D = 0 ∨ DayP D F T := kk.elim (fun e => .inl e.1) (fun e => .inr e.2.1)
  have HIS := Lib.hid (fun w' => ris_any D F T G1 M1 B1 G2 M2 B2 a1 a2 n1 n2 c1 c2 now (by omega) hxx hD w')
  obtain ⟨W3, hW3⟩ : ∃ W, W = w1.alloc (.cells #[.int .i64 G1, .int .i64 M1, .int .i64 B1, .slice a1 n1 c1] 24) := ⟨_, rfl⟩
  have K3 : Hid (Only (fun _ => False) W0 W3) := Lib.hid (by rw [hW3]; exact K1.out.alloc _)
  have HT3 : Hid (BoxV W3 w1.heap.size [.int .i64 G1, .int .i64 M1, .int .i64 B1, .slice a1 n1 c1]) := Lib.hid (by rw [hW3]; exact BoxV.new _ [.int .i64 G1, .int .i64 M1, .int .i64 B1, .slice a1 n1 c1] _ _ rfl)
  have HSZ : Hid (W0.heap.size ≤ w1.heap.size) := Lib.hid K1.out.size
  clear p0 p1 p2 p3 p4 p5 p6 p7 p8 p9 p10
  obtain ⟨p0, p1, p2, p3, p4, p5, p6, p7, p8, p9, p10⟩ := HPA.out.only K1.out (fun f => f)
  obtain ⟨P0, P1, P2, P3, P4, P5, P6, P7, P8, P9, P10⟩ := HPA.out.only K3.out (fun f => f)
  rw [hW3] at P0 P1 P2 P3 P4 P5 P6 P7 P8 P9 P10
  cases hi : isO D F T now
  · rw [hi] at HIS
    have HAB := Lib.hid (fun w => bigw.rblocks_any u B1 (by omega) (by omega) w)
    rw [bok_yes g1 (by omega)] at HAB
    have HSP := Lib.hid (fun w' (ho : Only (fun _ => False) W0 w') => rsplit_any G1 M1 B1 a1 n1 c1 t1 pos (bk u B1) w' (H1.out.only (HO0.out.trans ho) (fun _ _ f => f)))
    have HER : Hid (splE G1 M1 B1 t1 pos (bk u B1) = 0 ∧ LnsI (splL G1 M1 B1 t1 pos (bk u B1)) ∧ costOk (splL G1 M1 B1 t1 pos (bk u B1)) = true ∧ costN (splL G1 M1 B1 t1 pos (bk u B1)) = costB (splL G1 M1 B1 t1 pos (bk u B1)) ∧ (splL G1 M1 B1 t1 pos (bk u B1)).length ≤ 1000 ∧ 0 ≤ pos ∧ pos ≤ 1099511627776 ∧ (∀ x ∈ splL G1 M1 B1 t1 pos (bk u B1), 0 < x.b) ∧ Hid (Q = RateAt (splL G1 M1 B1 t1 pos (bk u B1)) (bk u B1) (costB (splL G1 M1 B1 t1 pos (bk u B1))) (pos + bk u B1) 0 w) ∨ splE G1 M1 B1 t1 pos (bk u B1) = 1 ∧ Hid (Q = RateAt [] 0 0 0 1 w)) := Lib.hid (by
      by_cases ho : outB pos (bk u B1)
      · exact .inr ⟨by unfold splE; rw [if_pos (.inr ho)], HNO.out (.inr (.inr ho))⟩
      · left
        have hr : ¬ RatNo D F T G1 M1 B1 G2 M2 B2 t1 t2 now pos u := fun e => e.elim (fun e => by omega) (fun e => e.elim (fun e => e hcan) ho)
        obtain ⟨p1, p2, p3, p4, _⟩ := spl_cost ck1 ho
        obtain ⟨_, _, _, hl, _⟩ := (tchk_ok G1 M1 B1 t1).1 ck1
        obtain ⟨_, _, _, r1, r2, r3, _, r4⟩ := ra_side hr
        have r5 : raL D F T G1 M1 B1 G2 M2 B2 t1 t2 now pos u = splL G1 M1 B1 t1 pos (bk u B1) := by
          rcases r4 with ⟨_, e⟩ | ⟨e, _⟩
          · exact e
          · rw [hi] at e; cases e
        refine ⟨spl_err ck1 ho, spl_ints ck1 ho, p1, p2, spl_len (by omega), by unfold outB at ho; omega, by unfold outB at ho; omega, fun x hx => ((spl_facts ck1 ho).1 x hx).2.1.1, Lib.hid ?_⟩
        rw [← HQ.out, r1, r2, r3, r5])
    generalize splL G1 M1 B1 t1 pos (bk u B1) = L at *
    generalize splE G1 M1 B1 t1 pos (bk u B1) = er at *
    have hk12 := bk_in g1 bb1.1
    generalize bk u B1 = k at *
    clear HQ HNO hD kk hcan hc ck1
    go_wp2_with fail
    rw [← hW3]
    clear hW3 p0 p1 p2 p3 p4 p5 p6 p7 p8 p9 p10 P0 P1 P2 P3 P4 P5 P6 P7 P8 P9 P10
    refine (HIS.out _).mono ?_
    rintro _ w4 ⟨rfl, k4⟩
    have K4 := Lib.hid (K3.out.trans k4)
    have HT4 : Hid (∀ w', Only (fun _ => False) w4 w' → w'.cell? ⟨w1.heap.size, 0, none⟩ = some (.int .i64 G1) ∧ w'.cell? ⟨w1.heap.size, 1, none⟩ = some (.int .i64 M1) ∧ w'.cell? ⟨w1.heap.size, 2, none⟩ = some (.int .i64 B1) ∧ w'.cell? ⟨w1.heap.size, 3, none⟩ = some (.slice a1 n1 c1)) := Lib.hid (fun w' ho => by
      have h := HT3.out.only (k4.trans ho) (fun f => f)
      exact ⟨(h 0 _ rfl).1, (h 1 _ rfl).1, (h 2 _ rfl).1, (h 3 _ rfl).1⟩)
    clear k4
    obtain ⟨b0, b1, b2, b3⟩ := HT4.out w4 (Only.refl _ _)
    go_wp2_with fail
    refine (HAB.out _).mono ?_
    rintro _ _ ⟨rfl, rfl⟩
    go_wp2_with fail
    refine (HSP.out _ K4.out).mono ?_
    rintro _ w5 ⟨al, cl, rfl, hnl, k5⟩
    have K5 := Lib.hid (K4.out.trans k5)
    have HNL := Lib.hid hnl
    clear k5 hnl b0 b1 b2 b3
    rcases HER.out with ⟨rfl, hsi, hco, hcn, hlen, q1, q2, hpo, HQY⟩ | ⟨rfl, HQN⟩
    · have HC := Lib.hid (rcost_any al L.length cl L w5 HNL.out hsi (by omega))
      unfold CostAt at HC
      rw [hco, hcn] at HC
      have v1 : wrap64 (pos + k) = pos + k := by rw [wrap64_eq]; omega
      have v2 : IntKind.i64.wrap (pos + k) = pos + k := by rw [wrap_i64]; omega
      have HPO := Lib.hid hpo
      generalize costB L = cb at *
      clear hsi hco hcn hpo hlen
      go_wp2_with fail
      refine HC.out.mono ?_
      rintro _ w6 ⟨rfl, k6⟩
      have K6 := Lib.hid (K5.out.trans k6)
      have HN6 := Lib.hid (HNL.out.only k6 (fun _ _ f => f))
      have hz := HZ.out.only K6.out (fun f => f)
      have HZ6 := Lib.hid hz
      obtain ⟨⟨z0, z1, z2, z3⟩, y0, y1, y2, y3⟩ := hz.all
      have HEX := Lib.hid (hz.box.put [.slice al L.length cl, .int .i64 k, .int .i64 cb, .int .i64 (pos + k)] rfl)
      have HPX := Lib.hid (puts_only (w.heap.size + 1) [.slice al L.length cl, .int .i64 k, .int .i64 cb, .int .i64 (pos + k)] 0 w6 w6 (Only.refl (fun x => x = w.heap.size + 1) _) (.inl rfl))
      have KW := Lib.hid (HO0.out.trans K6.out)
      clear hz k6
      go_wp2_with fail
      refine bodyPost_ret (v := .tuple #[.agg #[.slice al L.length cl, .int .i64 k, .int .i64 cb, .int .i64 (pos + k)], .int .i64 0]) (by
        have c0 := (HEX.out 0 _ rfl).1; have c1 := (HEX.out 1 _ rfl).1; have c2 := (HEX.out 2 _ rfl).1; have c3 := (HEX.out 3 _ rfl).1
        simp only [puts] at c0 c1 c2 c3
        simp [results, Try.results18, go_sem, c0, c1, c2, c3]) rfl (by
        rw [HQY.out]
        exact ⟨al, cl, rfl, rated_apart HZ6.out.2.1 HZ6.out.1 (Only.refl _ _) HN6.out HPO.out HPX.out, KW.out.then HPX.out (fun q hq e => by have e' : q = w.heap.size + 1 := e; omega)⟩)
    · clear HER
      have hz := HZ.out.only K5.out (fun f => f)
      obtain ⟨⟨z0, z1, z2, z3⟩, y0, y1, y2, y3⟩ := hz.all
      have HEZ := Lib.hid (hz.box.put [.slice none 0 0, .int .i64 0, .int .i64 0, .int .i64 0] rfl)
      have HPZ := Lib.hid (puts_only (w.heap.size + 1) [.slice none 0 0, .int .i64 0, .int .i64 0, .int .i64 0] 0 w5 w5 (Only.refl (fun x => x = w.heap.size + 1) _) (.inl rfl))
      have KW := Lib.hid (HO0.out.trans K5.out)
      clear hz
      go_wp2_with fail
      refine bodyPost_ret (v := .tuple #[.agg #[.slice none 0 0, .int .i64 0, .int .i64 0, .int .i64 0], .int .i64 1]) (by
        have c0 := (HEZ.out 0 _ rfl).1; have c1 := (HEZ.out 1 _ rfl).1; have c2 := (HEZ.out 2 _ rfl).1; have c3 := (HEZ.out 3 _ rfl).1
        simp only [puts] at c0 c1 c2 c3
        simp [results, Try.results18, go_sem, c0, c1, c2, c3]) rfl (by
        rw [HQN.out]
        exact ⟨none, 0, rfl, ⟨rfl, .inl rfl⟩, KW.out.then HPZ.out (fun q hq e => by have e' : q = w.heap.size + 1 := e; omega)⟩)
  · rw [hi] at HIS
    rcases kk with e | ⟨hDn, hDp, ck2, eG, eB⟩
    · rw [e.1, isO_zero] at hi; cases hi
    have HAB := Lib.hid (fun w => bigw.rblocks_any u B2 (by omega) (by omega) w)
    rw [bok_yes g1 (by omega), show bk u B2 = bk u B1 by rw [eB]] at HAB
    have HSP := Lib.hid (fun w' (ho : Only (fun _ => False) W0 w') => rsplit_any G2 M2 B2 a2 n2 c2 t2 pos (bk u B1) w' (H2.out.only (HO0.out.trans ho) (fun _ _ f => f)))
    have HER : Hid (splE G2 M2 B2 t2 pos (bk u B1) = 0 ∧ LnsI (splL G2 M2 B2 t2 pos (bk u B1)) ∧ costOk (splL G2 M2 B2 t2 pos (bk u B1)) = true ∧ costN (splL G2 M2 B2 t2 pos (bk u B1)) = costB (splL G2 M2 B2 t2 pos (bk u B1)) ∧ (splL G2 M2 B2 t2 pos (bk u B1)).length ≤ 1000 ∧ 0 ≤ pos ∧ pos ≤ 1099511627776 ∧ (∀ x ∈ splL G2 M2 B2 t2 pos (bk u B1), 0 < x.b) ∧ Hid (Q = RateAt (splL G2 M2 B2 t2 pos (bk u B1)) (bk u B1) (costB (splL G2 M2 B2 t2 pos (bk u B1))) (pos + bk u B1) 0 w) ∨ splE G2 M2 B2 t2 pos (bk u B1) = 1 ∧ Hid (Q = RateAt [] 0 0 0 1 w)) := Lib.hid (by
      by_cases ho : outB pos (bk u B1)
      · exact .inr ⟨by unfold splE; rw [if_pos (.inr ho)], HNO.out (.inr (.inr ho))⟩
      · left
        have hr : ¬ RatNo D F T G1 M1 B1 G2 M2 B2 t1 t2 now pos u := fun e => e.elim (fun e => by omega) (fun e => e.elim (fun e => e hcan) ho)
        obtain ⟨p1, p2, p3, p4, _⟩ := spl_cost ck2 ho
        obtain ⟨_, _, _, hl, _⟩ := (tchk_ok G2 M2 B2 t2).1 ck2
        obtain ⟨_, _, _, r1, r2, r3, _, r4⟩ := ra_side hr
        have r5 : raL D F T G1 M1 B1 G2 M2 B2 t1 t2 now pos u = splL G2 M2 B2 t2 pos (bk u B1) := by
          rcases r4 with ⟨e, _⟩ | ⟨_, _, _, _, e⟩
          · rw [hi] at e; cases e
          · exact e
        refine ⟨spl_err ck2 ho, spl_ints ck2 ho, p1, p2, spl_len (by omega), by unfold outB at ho; omega, by unfold outB at ho; omega, fun x hx => ((spl_facts ck2 ho).1 x hx).2.1.1, Lib.hid ?_⟩
        rw [← HQ.out, r1, r2, r3, r5])
    generalize splL G2 M2 B2 t2 pos (bk u B1) = L at *
    generalize splE G2 M2 B2 t2 pos (bk u B1) = er at *
    have hk12 := bk_in g1 bb1.1
    generalize bk u B1 = k at *
    clear HQ HNO hD hcan hc ck1 ck2 eB eG hDn hDp
    go_wp2_with fail
    rw [← hW3]
    clear hW3 p0 p1 p2 p3 p4 p5 p6 p7 p8 p9 p10 P0 P1 P2 P3 P4 P5 P6 P7 P8 P9 P10
    refine (HIS.out _).mono ?_
    rintro _ w4 ⟨rfl, k4⟩
    have ht := HT3.out.only k4 (fun f => f)
    have c0 := (ht 0 _ rfl).1; have c1' := (ht 1 _ rfl).1; have c2' := (ht 2 _ rfl).1; have c3 := (ht 3 _ rfl).1
    have f0 := (ht 0 _ rfl).2; have f1 := (ht 1 _ rfl).2; have f2 := (ht 2 _ rfl).2; have f3 := (ht 3 _ rfl).2
    obtain ⟨q0, q1, q2, q3, q4, q5, q6, q7, q8, q9, q10⟩ := HPA.out.only (K3.out.trans k4) (fun f => f)
    obtain ⟨W5, hW5, HB5, KO5⟩ : ∃ W, W = (((w4.setCell ⟨w1.heap.size, 0, none⟩ (.int .i64 G2)).setCell ⟨w1.heap.size, 1, none⟩ (.int .i64 M2)).setCell ⟨w1.heap.size, 2, none⟩ (.int .i64 B2)).setCell ⟨w1.heap.size, 3, none⟩ (.slice a2 n2 c2) ∧ BoxV W w1.heap.size [.int .i64 G2, .int .i64 M2, .int .i64 B2, .slice a2 n2 c2] ∧ Only (fun _ => False) W0 W :=
      ⟨_, rfl, ht.put [.int .i64 G2, .int .i64 M2, .int .i64 B2, .slice a2 n2 c2] rfl, puts_only w1.heap.size [.int .i64 G2, .int .i64 M2, .int .i64 B2, .slice a2 n2 c2] 0 W0 w4 (K3.out.trans k4) (.inr HSZ.out)⟩
    have K5' := Lib.hid KO5
    have HT4 : Hid (∀ w', Only (fun _ => False) W5 w' → w'.cell? ⟨w1.heap.size, 0, none⟩ = some (.int .i64 G2) ∧ w'.cell? ⟨w1.heap.size, 1, none⟩ = some (.int .i64 M2) ∧ w'.cell? ⟨w1.heap.size, 2, none⟩ = some (.int .i64 B2) ∧ w'.cell? ⟨w1.heap.size, 3, none⟩ = some (.slice a2 n2 c2)) := Lib.hid (fun w' ho => by
      have h := HB5.only ho (fun f => f)
      exact ⟨(h 0 _ rfl).1, (h 1 _ rfl).1, (h 2 _ rfl).1, (h 3 _ rfl).1⟩)
    obtain ⟨B0', B1', B2', B3'⟩ := HT4.out W5 (Only.refl _ _)
    rw [hW5] at B0' B1' B2' B3'
    clear k4 ht HB5 KO5
    go_wp2_with fail
    rw [← hW5]
    rw [← hW5] at B0' B1' B2' B3'
    clear hW5
    refine (HAB.out _).mono ?_
    rintro _ _ ⟨rfl, rfl⟩
    go_wp2_with fail
    refine (HSP.out _ K5'.out).mono ?_
    rintro _ w5 ⟨al, cl, rfl, hnl, k5⟩
    have K5 := Lib.hid (K5'.out.trans k5)
    have HNL := Lib.hid hnl
    clear k5 hnl B0' B1' B2' B3'
    rcases HER.out with ⟨rfl, hsi, hco, hcn, hlen, q1, q2, hpo, HQY⟩ | ⟨rfl, HQN⟩
    · have HC := Lib.hid (rcost_any al L.length cl L w5 HNL.out hsi (by omega))
      unfold CostAt at HC
      rw [hco, hcn] at HC
      have v1 : wrap64 (pos + k) = pos + k := by rw [wrap64_eq]; omega
      have v2 : IntKind.i64.wrap (pos + k) = pos + k := by rw [wrap_i64]; omega
      have HPO := Lib.hid hpo
      generalize costB L = cb at *
      clear hsi hco hcn hpo hlen
      go_wp2_with fail
      refine HC.out.mono ?_
      rintro _ w6 ⟨rfl, k6⟩
      have K6 := Lib.hid (K5.out.trans k6)
      have HN6 := Lib.hid (HNL.out.only k6 (fun _ _ f => f))
      have hz := HZ.out.only K6.out (fun f => f)
      have HZ6 := Lib.hid hz
      obtain ⟨⟨z0, z1, z2, z3⟩, y0, y1, y2, y3⟩ := hz.all
      have HEX := Lib.hid (hz.box.put [.slice al L.length cl, .int .i64 k, .int .i64 cb, .int .i64 (pos + k)] rfl)
      have HPX := Lib.hid (puts_only (w.heap.size + 1) [.slice al L.length cl, .int .i64 k, .int .i64 cb, .int .i64 (pos + k)] 0 w6 w6 (Only.refl (fun x => x = w.heap.size + 1) _) (.inl rfl))
      have KW := Lib.hid (HO0.out.trans K6.out)
      clear hz k6
      go_wp2_with fail
      refine bodyPost_ret (v := .tuple #[.agg #[.slice al L.length cl, .int .i64 k, .int .i64 cb, .int .i64 (pos + k)], .int .i64 0]) (by
        have c0 := (HEX.out 0 _ rfl).1; have c1 := (HEX.out 1 _ rfl).1; have c2 := (HEX.out 2 _ rfl).1; have c3 := (HEX.out 3 _ rfl).1
        simp only [puts] at c0 c1 c2 c3
        simp [results, Try.results18, go_sem, c0, c1, c2, c3]) rfl (by
        rw [HQY.out]
        exact ⟨al, cl, rfl, rated_apart HZ6.out.2.1 HZ6.out.1 (Only.refl _ _) HN6.out HPO.out HPX.out, KW.out.then HPX.out (fun q hq e => by have e' : q = w.heap.size + 1 := e; omega)⟩)
    · clear HER
      have hz := HZ.out.only K5.out (fun f => f)
      obtain ⟨⟨z0, z1, z2, z3⟩, y0, y1, y2, y3⟩ := hz.all
      have HEZ := Lib.hid (hz.box.put [.slice none 0 0, .int .i64 0, .int .i64 0, .int .i64 0] rfl)
      have HPZ := Lib.hid (puts_only (w.heap.size + 1) [.slice none 0 0, .int .i64 0, .int .i64 0, .int .i64 0] 0 w5 w5 (Only.refl (fun x => x = w.heap.size + 1) _) (.inl rfl))
      have KW := Lib.hid (HO0.out.trans K5.out)
      clear hz
      go_wp2_with fail
      refine bodyPost_ret (v := .tuple #[.agg #[.slice none 0 0, .int .i64 0, .int .i64 0, .int .i64 0], .int .i64 1]) (by
        have c0 := (HEZ.out 0 _ rfl).1; have c1 := (HEZ.out 1 _ rfl).1; have c2 := (HEZ.out 2 _ rfl).1; have c3 := (HEZ.out 3 _ rfl).1
        simp only [puts] at c0 c1 c2 c3
        simp [results, Try.results18, go_sem, c0, c1, c2, c3]) rfl (by
        rw [HQN.out]
        exact ⟨none, 0, rfl, ⟨rfl, .inl rfl⟩, KW.out.then HPZ.out (fun q hq e => by have e' : q = w.heap.size + 1 := e; omega)⟩)
end Go.Proofs.Ytonacdjaimokeaa.tirw
