/- Plans: what so many units come to: the program's Rate. -/
import Derived.Test.YtonacdjaimokeaaRatG
namespace Go.Proofs.Ytonacdjaimokeaa.tirw
open Go.RowKit mem tirm intm bigm bigw
set_option linter.unusedVariables false

/-- what usage comes to -/
def RateAt (L : List Ln) (k c p er : Int) (w : World) (e : Ending) (w' : World) : Prop :=
  ∃ a cap, e = .returned (.tuple #[.agg #[.slice a L.length cap, .int .i64 k, .int .i64 c, .int .i64 p], .int .i64 er]) ∧ ReadsN w' a L.length L ∧ Only (fun _ => False) w w'

/-- a box of a Rated's noughts is none of a line's -/
theorem rated_apart {W w4 w5 : World} {q : Nat} {al : Option Addr} {L : List Ln} (hb : ∀ j, W.cell? ⟨q, j, none⟩ = (#[.slice none 0 0, .int .i64 0, .int .i64 0, .int .i64 0] : Array Value)[j]?) (hq : q < W.heap.size) (ho : Only (fun _ => False) W w4) (hr : ReadsN w4 al L.length L) (hpos : ∀ x ∈ L, 0 < x.b) (h5 : Only (fun k => k = q) w4 w5) : ReadsN w5 al L.length L := by
  by_cases h0 : L.length = 0
  · exact ⟨rfl, .inl h0⟩
  · obtain ⟨b, off, rfl, hc⟩ := hr.2.resolve_left h0
    refine hr.only h5 (fun x hx e => ?_)
    injection hx with hx
    subst hx
    have e' : b = q := e
    subst e'
    have c1 := (hc 0 (by omega)).2.1
    rw [ho.cell (p := ⟨b, off + 0 * 3 + 1, none⟩) hq (fun f => f), hb] at c1
    have hp := hpos _ (getN_mem L 0 (by omega))
    generalize (L.getD 0 default).b = x at *
    have hj : off + 0 * 3 + 1 = off + 1 := by omega
    rw [hj] at c1
    match off, c1 with
    | 0, c1 => simp at c1; omega
    | 1, c1 => simp at c1; omega
    | 2, c1 => simp at c1; omega
    | n + 3, c1 => simp at c1

set_option maxRecDepth 100000 in
set_option maxHeartbeats 1000000 in
theorem rate_no (D F T G1 M1 B1 G2 M2 B2 : Int) (a1 a2 : Option Addr) (n1 n2 c1 c2 : Nat) (t1 t2 : List Tr) (now pos u : Int) (w : World) (h1 : ReadsT w a1 n1 t1) (h2 : ReadsT w a2 n2 t2) (hno : now < 0 ∨ ¬ CanP D F T G1 M1 B1 G2 M2 B2 t1 t2 u) :
    Calls Try.prog 17 #[.agg #[.int .i64 D, .int .i64 F, .int .i64 T, .int .i64 G1, .int .i64 M1, .int .i64 B1, .slice a1 n1 c1, .int .i64 G2, .int .i64 M2, .int .i64 B2, .slice a2 n2 c2], .int .i64 now, .int .i64 pos, .int .i64 u] w (RateAt [] 0 0 0 1 w) := by
  have HCR := Lib.hid (fun w' (ho : Only (fun _ => False) w w') => canrate_any D F T G1 M1 B1 G2 M2 B2 a1 a2 n1 n2 c1 c2 t1 t2 u w' (h1.only ho (fun _ _ f => f)) (h2.only ho (fun _ _ f => f)))
  obtain ⟨W0, hW0⟩ : ∃ W0, W0 = (w.alloc (.cells #[.int .i64 D, .int .i64 F, .int .i64 T, .int .i64 G1, .int .i64 M1, .int .i64 B1, .slice a1 n1 c1, .int .i64 G2, .int .i64 M2, .int .i64 B2, .slice a2 n2 c2] 30)).alloc (.cells #[.slice none 0 0, .int .i64 0, .int .i64 0, .int .i64 0] 34) := ⟨_, rfl⟩
  have HO0 : Hid (Only (fun _ => False) w W0) := Lib.hid (by rw [hW0]; exact ((Only.refl _ w).alloc _).alloc _)
  have HPA : Hid (PlanAt W0 w.heap.size D F T G1 M1 B1 G2 M2 B2 a1 a2 n1 n2 c1 c2) := Lib.hid (by rw [hW0]; exact (PlanAt.new ..).only ((Only.refl (fun _ => False) _).alloc _) (fun f => f))
  have HFR : Hid (Four W0 (w.heap.size + 1) ∧ W0.heap.size = w.heap.size + 2) := Lib.hid (by rw [hW0]; exact ⟨Four.new (by simp), by simp⟩)
  have HBX : Hid (∀ j, W0.cell? ⟨w.heap.size + 1, j, none⟩ = (#[.slice none 0 0, .int .i64 0, .int .i64 0, .int .i64 0] : Array Value)[j]?) := Lib.hid (fun j => by rw [hW0]; simp)
  clear h1 h2
  by_cases h0 : now < 0
  · clear hno
    go_enter Try.func17, Try.ntmps17
    obtain ⟨p0, p1, p2, p3, p4, p5, p6, p7, p8, p9, p10⟩ := HPA.out
    rw [hW0] at p0 p1 p2 p3 p4 p5 p6 p7 p8 p9 p10
    go_wp2_with fail
    refine bodyPost_ret (v := .tuple #[.agg #[.slice none 0 0, .int .i64 0, .int .i64 0, .int .i64 0], .int .i64 1]) (by simp [results, Try.results17, go_sem]) rfl ⟨none, 0, rfl, ⟨rfl, .inl rfl⟩, ((Only.refl _ w).alloc _).alloc _⟩
  · rw [decide_eq_false (hno.resolve_left h0)] at HCR
    clear hno
    go_enter Try.func17, Try.ntmps17
    obtain ⟨p0, p1, p2, p3, p4, p5, p6, p7, p8, p9, p10⟩ := HPA.out
    rw [hW0] at p0 p1 p2 p3 p4 p5 p6 p7 p8 p9 p10
    go_wp2_with fail
    rw [← hW0]
    clear hW0 p0 p1 p2 p3 p4 p5 p6 p7 p8 p9 p10
    refine (HCR.out _ HO0.out).mono ?_
    rintro _ w1 ⟨rfl, k1⟩
    have K1 := Lib.hid k1
    have HR4 := HFR.out.1.only k1 (fun f => f)
    have HE := Lib.hid (HR4.set (.slice none 0 0) (.int .i64 0) (.int .i64 0) (.int .i64 0))
    obtain ⟨⟨_, r0⟩, ⟨_, r1⟩, ⟨_, r2⟩, ⟨_, r3⟩, g0, g1, g2, g3⟩ := HR4
    clear k1
    go_wp2_with fail
    refine bodyPost_ret (v := .tuple #[.agg #[.slice none 0 0, .int .i64 0, .int .i64 0, .int .i64 0], .int .i64 1]) (by simp [results, Try.results17, go_sem, HE.out.1, HE.out.2.1, HE.out.2.2.1, HE.out.2.2.2.1]) rfl ⟨none, 0, rfl, ⟨rfl, .inl rfl⟩, (HO0.out.trans K1.out).then HE.out.2.2.2.2 (fun q hq e => by have e' : q = w.heap.size + 1 := e; omega)⟩

set_option maxRecDepth 100000 in
set_option maxHeartbeats 1000000 in
theorem rate_base (D F T G1 M1 B1 G2 M2 B2 : Int) (a1 a2 : Option Addr) (n1 n2 c1 c2 : Nat) (t1 t2 : List Tr) (now pos u k er : Int) (L : List Ln) (w : World) (h1 : ReadsT w a1 n1 t1) (h2 : ReadsT w a2 n2 t2) (h0 : 0 ≤ now) (hx : now ≤ 9223372036854775807) (hc : CanP D F T G1 M1 B1 G2 M2 B2 t1 t2 u) (hiso : isO D F T now = false)
    (hk : bk u B1 = k) (hL : splL G1 M1 B1 t1 pos k = L) (her : splE G1 M1 B1 t1 pos k = er) (hck : tchk G1 M1 B1 t1 = 0) :
    Calls Try.prog 17 #[.agg #[.int .i64 D, .int .i64 F, .int .i64 T, .int .i64 G1, .int .i64 M1, .int .i64 B1, .slice a1 n1 c1, .int .i64 G2, .int .i64 M2, .int .i64 B2, .slice a2 n2 c2], .int .i64 now, .int .i64 pos, .int .i64 u] w (if er = 0 then RateAt L k (costB L) (pos + k) 0 w else RateAt [] 0 0 0 1 w) := by
  obtain ⟨⟨u1, u2⟩, _, _⟩ := can_facts hc
  obtain ⟨_, _, hb, hl, _⟩ := (tchk_ok G1 M1 B1 t1).1 hck
  obtain ⟨k1', k2'⟩ := bk_in u1 hb.1
  rw [hk] at k1' k2'
  have hn6 : n1 ≤ 100 := by have := h1.1; omega
  have HCR := Lib.hid (fun w' (ho : Only (fun _ => False) w w') => canrate_any D F T G1 M1 B1 G2 M2 B2 a1 a2 n1 n2 c1 c2 t1 t2 u w' (h1.only ho (fun _ _ f => f)) (h2.only ho (fun _ _ f => f)))
  rw [decide_eq_true hc] at HCR
  have HAT := Lib.hid (fun w' (ho : Only (fun _ => False) w w') => at_base D F T G1 M1 B1 G2 M2 B2 a1 a2 n1 n2 c1 c2 t1 t2 now w' (h1.only ho (fun _ _ f => f)) (h2.only ho (fun _ _ f => f)) h0 hx hc.2.2 hiso)
  have HAB := Lib.hid (fun w => ablocks_any u B1 (by omega) (by omega) w)
  rw [bok_yes u1 hb.1, hk] at HAB
  have HLN : Hid (L.length ≤ 1000) := Lib.hid (by rw [← hL]; exact spl_len (by omega))
  have HER : Hid (er = 0 ∧ LnsI L ∧ costOk L = true ∧ costN L = costB L ∧ 0 ≤ pos ∧ pos ≤ 1099511627776 ∧ (∀ x ∈ L, 0 < x.b) ∨ er = 1) := Lib.hid (by
    by_cases ho : outB pos k
    · right; rw [← her]; unfold splE; rw [if_pos (.inr ho)]
    · left
      have hcs := spl_cost hck ho
      rw [hL] at hcs
      have hsi := spl_ints hck ho
      rw [hL] at hsi
      unfold outB at ho
      exact ⟨by rw [← her]; exact spl_err hck (by unfold outB; omega), hsi, hcs.1, hcs.2.1, by omega, by omega, fun x hx => ((spl_facts hck (by unfold outB; omega)).1 x (by rw [hL]; exact hx)).2.1.1⟩)
  obtain ⟨W0, hW0⟩ : ∃ W0, W0 = (w.alloc (.cells #[.int .i64 D, .int .i64 F, .int .i64 T, .int .i64 G1, .int .i64 M1, .int .i64 B1, .slice a1 n1 c1, .int .i64 G2, .int .i64 M2, .int .i64 B2, .slice a2 n2 c2] 30)).alloc (.cells #[.slice none 0 0, .int .i64 0, .int .i64 0, .int .i64 0] 34) := ⟨_, rfl⟩
  have HO0 : Hid (Only (fun _ => False) w W0) := Lib.hid (by rw [hW0]; exact ((Only.refl _ w).alloc _).alloc _)
  have HPA : Hid (PlanAt W0 w.heap.size D F T G1 M1 B1 G2 M2 B2 a1 a2 n1 n2 c1 c2) := Lib.hid (by rw [hW0]; exact (PlanAt.new ..).only ((Only.refl (fun _ => False) _).alloc _) (fun f => f))
  have HFR : Hid (Four W0 (w.heap.size + 1) ∧ W0.heap.size = w.heap.size + 2) := Lib.hid (by rw [hW0]; exact ⟨Four.new (by simp), by simp⟩)
  have HBX : Hid (∀ j, W0.cell? ⟨w.heap.size + 1, j, none⟩ = (#[.slice none 0 0, .int .i64 0, .int .i64 0, .int .i64 0] : Array Value)[j]?) := Lib.hid (fun j => by rw [hW0]; simp)
  have HSP := Lib.hid (fun g cp w' (h : ReadsT w' (some ⟨g, 0, none⟩) n1 t1) => split_any G1 M1 B1 (some ⟨g, 0, none⟩) n1 cp t1 pos k w' h)
  rw [hL, her] at HSP
  have hneg : ¬ now < 0 := by omega
  obtain ⟨Q, hQ⟩ : ∃ Q, (if er = 0 then RateAt L k (costB L) (pos + k) 0 w else RateAt [] 0 0 0 1 w) = Q := ⟨_, rfl⟩
  rw [hQ]
  have HQ := Lib.hid hQ
  clear hQ
  clear h1 h2 hck hc hL her hk hl hb
  go_enter Try.func17, Try.ntmps17
  obtain ⟨p0, p1, p2, p3, p4, p5, p6, p7, p8, p9, p10⟩ := HPA.out
  rw [hW0] at p0 p1 p2 p3 p4 p5 p6 p7 p8 p9 p10
  go_wp2_with fail
  rw [← hW0]
  clear hW0 p0 p1 p2 p3 p4 p5 p6 p7 p8 p9 p10
  refine (HCR.out _ HO0.out).mono ?_
  rintro _ w1 ⟨rfl, k1⟩
  have K1 := Lib.hid k1
  clear k1
  obtain ⟨p0, p1, p2, p3, p4, p5, p6, p7, p8, p9, p10⟩ := HPA.out.only K1.out (fun f => f)
  go_wp2_with fail
  refine (HAT.out _ (HO0.out.trans K1.out)).mono ?_
  rintro _ w2 ⟨g, cp, rfl, hrd, k2⟩
  obtain ⟨w3, hw3⟩ : ∃ w3, w3 = w2.alloc (.cells #[.int .i64 G1, .int .i64 M1, .int .i64 B1, .slice (some ⟨g, 0, none⟩) n1 cp] 24) := ⟨_, rfl⟩
  have K3 : Hid (Only (fun _ => False) W0 w3) := Lib.hid (by rw [hw3]; exact (K1.out.trans k2).alloc _)
  have HRD : Hid (ReadsT w3 (some ⟨g, 0, none⟩) n1 t1) := Lib.hid (by rw [hw3]; exact hrd.only ((Only.refl (fun _ => False) _).alloc _) (fun _ _ f => f))
  have HTA : Hid (TarAt w3 w2.heap.size G1 M1 B1 (.slice (some ⟨g, 0, none⟩) n1 cp)) := Lib.hid (by rw [hw3]; exact ⟨alloc_new _ _ _ _ _ _ rfl rfl, alloc_new _ _ _ _ _ _ rfl rfl, alloc_new _ _ _ _ _ _ rfl rfl, alloc_new _ _ _ _ _ _ rfl rfl⟩)
  clear k2 hrd p0 p1 p2 p3 p4 p5 p6 p7 p8 p9 p10
  obtain ⟨b0, b1, b2, b3⟩ := HTA.out
  rw [hw3] at b0 b1 b2 b3
  go_wp2_with fail
  rw [← hw3]
  rw [← hw3] at b0 b1 b2 b3
  clear hw3
  refine (HAB.out _).mono ?_
  rintro _ _ ⟨rfl, rfl⟩
  go_wp2_with fail
  refine (HSP.out g cp _ HRD.out).mono ?_
  rintro _ w4 ⟨al, cl, rfl, hnl, k4⟩
  have K4 := Lib.hid (K3.out.trans k4)
  have HNL := Lib.hid hnl
  clear k4 hnl b0 b1 b2 b3
  rcases HER.out with ⟨rfl, hsi, hco, hcn, q1, q2, hpo⟩ | rfl
  · have HC := Lib.hid (cost_any al L.length cl L w4 HNL.out hsi (by have := HLN.out; omega))
    unfold CostAt at HC
    rw [hco, hcn] at HC
    have v1 : wrap64 (pos + k) = pos + k := by rw [wrap64_eq]; omega
    have v2 : IntKind.i64.wrap (pos + k) = pos + k := by rw [wrap_i64]; omega
    have HPO := Lib.hid hpo
    clear hsi hco hcn hpo
    rw [if_pos rfl] at HQ
    generalize costB L = cc at *
    go_wp2_with fail
    refine HC.out.mono ?_
    rintro _ w5 ⟨rfl, k5⟩
    have K5 := Lib.hid (K4.out.trans k5)
    have HNL5 := Lib.hid (HNL.out.only k5 (fun _ _ f => f))
    have HR4 := HFR.out.1.only K5.out (fun f => f)
    have HE := Lib.hid (HR4.set (.slice al L.length cl) (.int .i64 k) (.int .i64 cc) (.int .i64 (pos + k)))
    obtain ⟨⟨_, r0⟩, ⟨_, r1⟩, ⟨_, r2⟩, ⟨_, r3⟩, g0, g1, g2, g3⟩ := HR4
    clear k5
    go_wp2_with fail
    refine bodyPost_ret (v := .tuple #[.agg #[.slice al L.length cl, .int .i64 k, .int .i64 cc, .int .i64 (pos + k)], .int .i64 0]) (by simp [results, Try.results17, go_sem, HE.out.1, HE.out.2.1, HE.out.2.2.1, HE.out.2.2.2.1]) rfl ?_
    rw [← HQ.out]
    refine ⟨al, cl, rfl, ?_, (HO0.out.trans K5.out).then HE.out.2.2.2.2 (fun q hq e => by have e' : q = w.heap.size + 1 := e; omega)⟩
    exact rated_apart HBX.out (by have := HFR.out.2; omega) K5.out HNL5.out HPO.out HE.out.2.2.2.2
  · rw [if_neg (by decide)] at HQ
    have HR4 := HFR.out.1.only K4.out (fun f => f)
    have HE := Lib.hid (HR4.set (.slice none 0 0) (.int .i64 0) (.int .i64 0) (.int .i64 0))
    obtain ⟨⟨_, r0⟩, ⟨_, r1⟩, ⟨_, r2⟩, ⟨_, r3⟩, g0, g1, g2, g3⟩ := HR4
    go_wp2_with fail
    refine bodyPost_ret (v := .tuple #[.agg #[.slice none 0 0, .int .i64 0, .int .i64 0, .int .i64 0], .int .i64 1]) (by simp [results, Try.results17, go_sem, HE.out.1, HE.out.2.1, HE.out.2.2.1, HE.out.2.2.2.1]) rfl ?_
    rw [← HQ.out]
    exact ⟨none, 0, rfl, ⟨rfl, .inl rfl⟩, (HO0.out.trans K4.out).then HE.out.2.2.2.2 (fun q hq e => by have e' : q = w.heap.size + 1 := e; omega)⟩

set_option maxRecDepth 100000 in
set_option maxHeartbeats 1000000 in
theorem rate_other (D F T G1 M1 B1 G2 M2 B2 : Int) (a1 a2 : Option Addr) (n1 n2 c1 c2 : Nat) (t1 t2 : List Tr) (now pos u k er : Int) (L : List Ln) (w : World) (h1 : ReadsT w a1 n1 t1) (h2 : ReadsT w a2 n2 t2) (h0 : 0 ≤ now) (hx : now ≤ 9223372036854775807) (hc : CanP D F T G1 M1 B1 G2 M2 B2 t1 t2 u) (hiso : isO D F T now = true)
    (hk : bk u B2 = k) (hL : splL G2 M2 B2 t2 pos k = L) (her : splE G2 M2 B2 t2 pos k = er) (hck : tchk G2 M2 B2 t2 = 0) :
    Calls Try.prog 17 #[.agg #[.int .i64 D, .int .i64 F, .int .i64 T, .int .i64 G1, .int .i64 M1, .int .i64 B1, .slice a1 n1 c1, .int .i64 G2, .int .i64 M2, .int .i64 B2, .slice a2 n2 c2], .int .i64 now, .int .i64 pos, .int .i64 u] w (if er = 0 then RateAt L k (costB L) (pos + k) 0 w else RateAt [] 0 0 0 1 w) := by
  obtain ⟨⟨u1, u2⟩, _, _⟩ := can_facts hc
  obtain ⟨_, _, hb, hl, _⟩ := (tchk_ok G2 M2 B2 t2).1 hck
  obtain ⟨k1', k2'⟩ := bk_in u1 hb.1
  rw [hk] at k1' k2'
  have hn6 : n2 ≤ 100 := by have := h2.1; omega
  have HCR := Lib.hid (fun w' (ho : Only (fun _ => False) w w') => canrate_any D F T G1 M1 B1 G2 M2 B2 a1 a2 n1 n2 c1 c2 t1 t2 u w' (h1.only ho (fun _ _ f => f)) (h2.only ho (fun _ _ f => f)))
  rw [decide_eq_true hc] at HCR
  have HAT := Lib.hid (fun w' (ho : Only (fun _ => False) w w') => at_other D F T G1 M1 B1 G2 M2 B2 a1 a2 n1 n2 c1 c2 t1 t2 now w' (h1.only ho (fun _ _ f => f)) (h2.only ho (fun _ _ f => f)) h0 hx hc.2.2 hiso)
  have HAB := Lib.hid (fun w => ablocks_any u B2 (by omega) (by omega) w)
  rw [bok_yes u1 hb.1, hk] at HAB
  have HLN : Hid (L.length ≤ 1000) := Lib.hid (by rw [← hL]; exact spl_len (by omega))
  have HER : Hid (er = 0 ∧ LnsI L ∧ costOk L = true ∧ costN L = costB L ∧ 0 ≤ pos ∧ pos ≤ 1099511627776 ∧ (∀ x ∈ L, 0 < x.b) ∨ er = 1) := Lib.hid (by
    by_cases ho : outB pos k
    · right; rw [← her]; unfold splE; rw [if_pos (.inr ho)]
    · left
      have hcs := spl_cost hck ho
      rw [hL] at hcs
      have hsi := spl_ints hck ho
      rw [hL] at hsi
      unfold outB at ho
      exact ⟨by rw [← her]; exact spl_err hck (by unfold outB; omega), hsi, hcs.1, hcs.2.1, by omega, by omega, fun x hx => ((spl_facts hck (by unfold outB; omega)).1 x (by rw [hL]; exact hx)).2.1.1⟩)
  obtain ⟨W0, hW0⟩ : ∃ W0, W0 = (w.alloc (.cells #[.int .i64 D, .int .i64 F, .int .i64 T, .int .i64 G1, .int .i64 M1, .int .i64 B1, .slice a1 n1 c1, .int .i64 G2, .int .i64 M2, .int .i64 B2, .slice a2 n2 c2] 30)).alloc (.cells #[.slice none 0 0, .int .i64 0, .int .i64 0, .int .i64 0] 34) := ⟨_, rfl⟩
  have HO0 : Hid (Only (fun _ => False) w W0) := Lib.hid (by rw [hW0]; exact ((Only.refl _ w).alloc _).alloc _)
  have HPA : Hid (PlanAt W0 w.heap.size D F T G1 M1 B1 G2 M2 B2 a1 a2 n1 n2 c1 c2) := Lib.hid (by rw [hW0]; exact (PlanAt.new ..).only ((Only.refl (fun _ => False) _).alloc _) (fun f => f))
  have HFR : Hid (Four W0 (w.heap.size + 1) ∧ W0.heap.size = w.heap.size + 2) := Lib.hid (by rw [hW0]; exact ⟨Four.new (by simp), by simp⟩)
  have HBX : Hid (∀ j, W0.cell? ⟨w.heap.size + 1, j, none⟩ = (#[.slice none 0 0, .int .i64 0, .int .i64 0, .int .i64 0] : Array Value)[j]?) := Lib.hid (fun j => by rw [hW0]; simp)
  have HSP := Lib.hid (fun g cp w' (h : ReadsT w' (some ⟨g, 0, none⟩) n2 t2) => split_any G2 M2 B2 (some ⟨g, 0, none⟩) n2 cp t2 pos k w' h)
  rw [hL, her] at HSP
  have hneg : ¬ now < 0 := by omega
  obtain ⟨Q, hQ⟩ : ∃ Q, (if er = 0 then RateAt L k (costB L) (pos + k) 0 w else RateAt [] 0 0 0 1 w) = Q := ⟨_, rfl⟩
  rw [hQ]
  have HQ := Lib.hid hQ
  clear hQ
  clear h1 h2 hck hc hL her hk hl hb
  go_enter Try.func17, Try.ntmps17
  obtain ⟨p0, p1, p2, p3, p4, p5, p6, p7, p8, p9, p10⟩ := HPA.out
  rw [hW0] at p0 p1 p2 p3 p4 p5 p6 p7 p8 p9 p10
  go_wp2_with fail
  rw [← hW0]
  clear hW0 p0 p1 p2 p3 p4 p5 p6 p7 p8 p9 p10
  refine (HCR.out _ HO0.out).mono ?_
  rintro _ w1 ⟨rfl, k1⟩
  have K1 := Lib.hid k1
  clear k1
  obtain ⟨p0, p1, p2, p3, p4, p5, p6, p7, p8, p9, p10⟩ := HPA.out.only K1.out (fun f => f)
  go_wp2_with fail
  refine (HAT.out _ (HO0.out.trans K1.out)).mono ?_
  rintro _ w2 ⟨g, cp, rfl, hrd, k2⟩
  obtain ⟨w3, hw3⟩ : ∃ w3, w3 = w2.alloc (.cells #[.int .i64 G2, .int .i64 M2, .int .i64 B2, .slice (some ⟨g, 0, none⟩) n2 cp] 24) := ⟨_, rfl⟩
  have K3 : Hid (Only (fun _ => False) W0 w3) := Lib.hid (by rw [hw3]; exact (K1.out.trans k2).alloc _)
  have HRD : Hid (ReadsT w3 (some ⟨g, 0, none⟩) n2 t2) := Lib.hid (by rw [hw3]; exact hrd.only ((Only.refl (fun _ => False) _).alloc _) (fun _ _ f => f))
  have HTA : Hid (TarAt w3 w2.heap.size G2 M2 B2 (.slice (some ⟨g, 0, none⟩) n2 cp)) := Lib.hid (by rw [hw3]; exact ⟨alloc_new _ _ _ _ _ _ rfl rfl, alloc_new _ _ _ _ _ _ rfl rfl, alloc_new _ _ _ _ _ _ rfl rfl, alloc_new _ _ _ _ _ _ rfl rfl⟩)
  clear k2 hrd p0 p1 p2 p3 p4 p5 p6 p7 p8 p9 p10
  obtain ⟨b0, b1, b2, b3⟩ := HTA.out
  rw [hw3] at b0 b1 b2 b3
  go_wp2_with fail
  rw [← hw3]
  rw [← hw3] at b0 b1 b2 b3
  clear hw3
  refine (HAB.out _).mono ?_
  rintro _ _ ⟨rfl, rfl⟩
  go_wp2_with fail
  refine (HSP.out g cp _ HRD.out).mono ?_
  rintro _ w4 ⟨al, cl, rfl, hnl, k4⟩
  have K4 := Lib.hid (K3.out.trans k4)
  have HNL := Lib.hid hnl
  clear k4 hnl b0 b1 b2 b3
  rcases HER.out with ⟨rfl, hsi, hco, hcn, q1, q2, hpo⟩ | rfl
  · have HC := Lib.hid (cost_any al L.length cl L w4 HNL.out hsi (by have := HLN.out; omega))
    unfold CostAt at HC
    rw [hco, hcn] at HC
    have v1 : wrap64 (pos + k) = pos + k := by rw [wrap64_eq]; omega
    have v2 : IntKind.i64.wrap (pos + k) = pos + k := by rw [wrap_i64]; omega
    have HPO := Lib.hid hpo
    clear hsi hco hcn hpo
    rw [if_pos rfl] at HQ
    generalize costB L = cc at *
    go_wp2_with fail
    refine HC.out.mono ?_
    rintro _ w5 ⟨rfl, k5⟩
    have K5 := Lib.hid (K4.out.trans k5)
    have HNL5 := Lib.hid (HNL.out.only k5 (fun _ _ f => f))
    have HR4 := HFR.out.1.only K5.out (fun f => f)
    have HE := Lib.hid (HR4.set (.slice al L.length cl) (.int .i64 k) (.int .i64 cc) (.int .i64 (pos + k)))
    obtain ⟨⟨_, r0⟩, ⟨_, r1⟩, ⟨_, r2⟩, ⟨_, r3⟩, g0, g1, g2, g3⟩ := HR4
    clear k5
    go_wp2_with fail
    refine bodyPost_ret (v := .tuple #[.agg #[.slice al L.length cl, .int .i64 k, .int .i64 cc, .int .i64 (pos + k)], .int .i64 0]) (by simp [results, Try.results17, go_sem, HE.out.1, HE.out.2.1, HE.out.2.2.1, HE.out.2.2.2.1]) rfl ?_
    rw [← HQ.out]
    refine ⟨al, cl, rfl, ?_, (HO0.out.trans K5.out).then HE.out.2.2.2.2 (fun q hq e => by have e' : q = w.heap.size + 1 := e; omega)⟩
    exact rated_apart HBX.out (by have := HFR.out.2; omega) K5.out HNL5.out HPO.out HE.out.2.2.2.2
  · rw [if_neg (by decide)] at HQ
    have HR4 := HFR.out.1.only K4.out (fun f => f)
    have HE := Lib.hid (HR4.set (.slice none 0 0) (.int .i64 0) (.int .i64 0) (.int .i64 0))
    obtain ⟨⟨_, r0⟩, ⟨_, r1⟩, ⟨_, r2⟩, ⟨_, r3⟩, g0, g1, g2, g3⟩ := HR4
    go_wp2_with fail
    refine bodyPost_ret (v := .tuple #[.agg #[.slice none 0 0, .int .i64 0, .int .i64 0, .int .i64 0], .int .i64 1]) (by simp [results, Try.results17, go_sem, HE.out.1, HE.out.2.1, HE.out.2.2.1, HE.out.2.2.2.1]) rfl ?_
    rw [← HQ.out]
    exact ⟨none, 0, rfl, ⟨rfl, .inl rfl⟩, (HO0.out.trans K4.out).then HE.out.2.2.2.2 (fun q hq e => by have e' : q = w.heap.size + 1 := e; omega)⟩
end Go.Proofs.Ytonacdjaimokeaa.tirw
