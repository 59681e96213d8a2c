/- Plans: what so many units come to: the program's Rate. Plans: how many units a credit does for: the program's Fit. Rates: the law's fixed plan. Rates: the law's to. -/
import Derived.Test.YtghajamcjcflaaaRatG
import Derived.Test.YtghajamcjcflaaaLnsA
namespace Go.Proofs.Ytghajamcjcflaaa.tirw
open Go.RowKit mem tirm intm bigm bigw
set_option linter.unusedVariables false

/-- what usage comes to -/
def RateAt (L : List Ln) (k c p er : Int) (w : World) (e : Ending) (w' : World) : Prop :=
  ∃ a cap, e = .returned (.tuple #[.agg #[.slice a L.length cap, .int .i64 k, .int .i64 c, .int .i64 p], .int .i64 er]) ∧ ReadsN w' a L.length L ∧ Only (fun _ => False) w w'

/-- a box of a Rated's noughts is none of a line's -/
theorem rated_apart {W w4 w5 : World} {q : Nat} {al : Option Addr} {L : List Ln} (hb : ∀ j, W.cell? ⟨q, j, none⟩ = (#[.slice none 0 0, .int .i64 0, .int .i64 0, .int .i64 0] : Array Value)[j]?) (hq : q < W.heap.size) (ho : Only (fun _ => False) W w4) (hr : ReadsN w4 al L.length L) (hpos : ∀ x ∈ L, 0 < x.b) (h5 : Only (fun k => k = q) w4 w5) : ReadsN w5 al L.length L := by
  by_cases h0 : L.length = 0
  · exact ⟨rfl, .inl h0⟩
  · obtain ⟨b, off, rfl, hc⟩ := hr.2.resolve_left h0
    refine hr.only h5 (fun x hx e => ?_)
    injection hx with hx
    subst hx
    have e' : b = q := e
    subst e'
    have c1 := (hc 0 (by omega)).2.1
    rw [ho.cell (p := ⟨b, off + 0 * 3 + 1, none⟩) hq (fun f => f), hb] at c1
    have hp := hpos _ (getN_mem L 0 (by omega))
    generalize (L.getD 0 default).b = x at *
    have hj : off + 0 * 3 + 1 = off + 1 := by omega
    rw [hj] at c1
    match off, c1 with
    | 0, c1 => simp at c1; omega
    | 1, c1 => simp at c1; omega
    | 2, c1 => simp at c1; omega
    | n + 3, c1 => simp at c1

set_option maxRecDepth 100000 in
set_option maxHeartbeats 1000000 in
theorem rate_no (D F T G1 M1 B1 G2 M2 B2 : Int) (a1 a2 : Option Addr) (n1 n2 c1 c2 : Nat) (t1 t2 : List Tr) (now pos u : Int) (w : World) (h1 : ReadsT w a1 n1 t1) (h2 : ReadsT w a2 n2 t2) (hno : now < 0 ∨ ¬ CanP D F T G1 M1 B1 G2 M2 B2 t1 t2 u) :
    Calls Try.prog 25 #[.agg #[.int .i64 D, .int .i64 F, .int .i64 T, .int .i64 G1, .int .i64 M1, .int .i64 B1, .slice a1 n1 c1, .int .i64 G2, .int .i64 M2, .int .i64 B2, .slice a2 n2 c2], .int .i64 now, .int .i64 pos, .int .i64 u] w (RateAt [] 0 0 0 1 w) := by
  have HCR := Lib.hid (fun w' (ho : Only (fun _ => False) w w') => canrate_any D F T G1 M1 B1 G2 M2 B2 a1 a2 n1 n2 c1 c2 t1 t2 u w' (h1.only ho (fun _ _ f => f)) (h2.only ho (fun _ _ f => f)))
  obtain ⟨W0, hW0⟩ : ∃ W0, W0 = (w.alloc (.cells #[.int .i64 D, .int .i64 F, .int .i64 T, .int .i64 G1, .int .i64 M1, .int .i64 B1, .slice a1 n1 c1, .int .i64 G2, .int .i64 M2, .int .i64 B2, .slice a2 n2 c2] 39)).alloc (.cells #[.slice none 0 0, .int .i64 0, .int .i64 0, .int .i64 0] 66) := ⟨_, rfl⟩
  have HO0 : Hid (Only (fun _ => False) w W0) := Lib.hid (by rw [hW0]; exact ((Only.refl _ w).alloc _).alloc _)
  have HPA : Hid (PlanAt W0 w.heap.size D F T G1 M1 B1 G2 M2 B2 a1 a2 n1 n2 c1 c2) := Lib.hid (by rw [hW0]; exact (PlanAt.new ..).only ((Only.refl (fun _ => False) _).alloc _) (fun f => f))
  have HFR : Hid (Four W0 (w.heap.size + 1) ∧ W0.heap.size = w.heap.size + 2) := Lib.hid (by rw [hW0]; exact ⟨Four.new (by simp), by simp⟩)
  have HBX : Hid (∀ j, W0.cell? ⟨w.heap.size + 1, j, none⟩ = (#[.slice none 0 0, .int .i64 0, .int .i64 0, .int .i64 0] : Array Value)[j]?) := Lib.hid (fun j => by rw [hW0]; simp)
  clear h1 h2
  by_cases h0 : now < 0
  · clear hno
    go_enter Try.func25, Try.ntmps25
    obtain ⟨p0, p1, p2, p3, p4, p5, p6, p7, p8, p9, p10⟩ := HPA.out
    rw [hW0] at p0 p1 p2 p3 p4 p5 p6 p7 p8 p9 p10
    go_wp2_with fail
    refine bodyPost_ret (v := .tuple #[.agg #[.slice none 0 0, .int .i64 0, .int .i64 0, .int .i64 0], .int .i64 1]) (by simp [results, Try.results25, go_sem]) rfl ⟨none, 0, rfl, ⟨rfl, .inl rfl⟩, ((Only.refl _ w).alloc _).alloc _⟩
  · rw [decide_eq_false (hno.resolve_left h0)] at HCR
    clear hno
    go_enter Try.func25, Try.ntmps25
    obtain ⟨p0, p1, p2, p3, p4, p5, p6, p7, p8, p9, p10⟩ := HPA.out
    rw [hW0] at p0 p1 p2 p3 p4 p5 p6 p7 p8 p9 p10
    go_wp2_with fail
    rw [← hW0]
    clear hW0 p0 p1 p2 p3 p4 p5 p6 p7 p8 p9 p10
    refine (HCR.out _ HO0.out).mono ?_
    rintro _ w1 ⟨rfl, k1⟩
    have K1 := Lib.hid k1
    have HR4 := HFR.out.1.only k1 (fun f => f)
    have HE := Lib.hid (HR4.set (.slice none 0 0) (.int .i64 0) (.int .i64 0) (.int .i64 0))
    obtain ⟨⟨_, r0⟩, ⟨_, r1⟩, ⟨_, r2⟩, ⟨_, r3⟩, g0, g1, g2, g3⟩ := HR4
    clear k1
    go_wp2_with fail
    refine bodyPost_ret (v := .tuple #[.agg #[.slice none 0 0, .int .i64 0, .int .i64 0, .int .i64 0], .int .i64 1]) (by simp [results, Try.results25, go_sem, HE.out.1, HE.out.2.1, HE.out.2.2.1, HE.out.2.2.2.1]) rfl ⟨none, 0, rfl, ⟨rfl, .inl rfl⟩, (HO0.out.trans K1.out).then HE.out.2.2.2.2 (fun q hq e => by have e' : q = w.heap.size + 1 := e; omega)⟩

set_option maxRecDepth 100000 in
set_option maxHeartbeats 1000000 in
theorem rate_base (D F T G1 M1 B1 G2 M2 B2 : Int) (a1 a2 : Option Addr) (n1 n2 c1 c2 : Nat) (t1 t2 : List Tr) (now pos u k er : Int) (L : List Ln) (w : World) (h1 : ReadsT w a1 n1 t1) (h2 : ReadsT w a2 n2 t2) (h0 : 0 ≤ now) (hx : now ≤ 9223372036854775807) (hc : CanP D F T G1 M1 B1 G2 M2 B2 t1 t2 u) (hiso : isO D F T now = false)
    (hk : bk u B1 = k) (hL : splL G1 M1 B1 t1 pos k = L) (her : splE G1 M1 B1 t1 pos k = er) (hck : tchk G1 M1 B1 t1 = 0) :
    Calls Try.prog 25 #[.agg #[.int .i64 D, .int .i64 F, .int .i64 T, .int .i64 G1, .int .i64 M1, .int .i64 B1, .slice a1 n1 c1, .int .i64 G2, .int .i64 M2, .int .i64 B2, .slice a2 n2 c2], .int .i64 now, .int .i64 pos, .int .i64 u] w (if er = 0 then RateAt L k (costB L) (pos + k) 0 w else RateAt [] 0 0 0 1 w) := by
  obtain ⟨⟨u1, u2⟩, _, _⟩ := can_facts hc
  obtain ⟨_, _, hb, hl, _⟩ := (tchk_ok G1 M1 B1 t1).1 hck
  obtain ⟨k1', k2'⟩ := bk_in u1 hb.1
  rw [hk] at k1' k2'
  have hn6 : n1 ≤ 100 := by have := h1.1; omega
  have HCR := Lib.hid (fun w' (ho : Only (fun _ => False) w w') => canrate_any D F T G1 M1 B1 G2 M2 B2 a1 a2 n1 n2 c1 c2 t1 t2 u w' (h1.only ho (fun _ _ f => f)) (h2.only ho (fun _ _ f => f)))
  rw [decide_eq_true hc] at HCR
  have HAT := Lib.hid (fun w' (ho : Only (fun _ => False) w w') => at_base D F T G1 M1 B1 G2 M2 B2 a1 a2 n1 n2 c1 c2 t1 t2 now w' (h1.only ho (fun _ _ f => f)) (h2.only ho (fun _ _ f => f)) h0 hx hc.2.2 hiso)
  have HAB := Lib.hid (fun w => ablocks_any u B1 (by omega) (by omega) w)
  rw [bok_yes u1 hb.1, hk] at HAB
  have HLN : Hid (L.length ≤ 1000) := Lib.hid (by rw [← hL]; exact spl_len (by omega))
  have HER : Hid (er = 0 ∧ LnsI L ∧ costOk L = true ∧ costN L = costB L ∧ 0 ≤ pos ∧ pos ≤ 1099511627776 ∧ (∀ x ∈ L, 0 < x.b) ∨ er = 1) := Lib.hid (by
    by_cases ho : outB pos k
    · right; rw [← her]; unfold splE; rw [if_pos (.inr ho)]
    · left
      have hcs := spl_cost hck ho
      rw [hL] at hcs
      have hsi := spl_ints hck ho
      rw [hL] at hsi
      unfold outB at ho
      exact ⟨by rw [← her]; exact spl_err hck (by unfold outB; omega), hsi, hcs.1, hcs.2.1, by omega, by omega, fun x hx => ((spl_facts hck (by unfold outB; omega)).1 x (by rw [hL]; exact hx)).2.1.1⟩)
  obtain ⟨W0, hW0⟩ : ∃ W0, W0 = (w.alloc (.cells #[.int .i64 D, .int .i64 F, .int .i64 T, .int .i64 G1, .int .i64 M1, .int .i64 B1, .slice a1 n1 c1, .int .i64 G2, .int .i64 M2, .int .i64 B2, .slice a2 n2 c2] 39)).alloc (.cells #[.slice none 0 0, .int .i64 0, .int .i64 0, .int .i64 0] 66) := ⟨_, rfl⟩
  have HO0 : Hid (Only (fun _ => False) w W0) := Lib.hid (by rw [hW0]; exact ((Only.refl _ w).alloc _).alloc _)
  have HPA : Hid (PlanAt W0 w.heap.size D F T G1 M1 B1 G2 M2 B2 a1 a2 n1 n2 c1 c2) := Lib.hid (by rw [hW0]; exact (PlanAt.new ..).only ((Only.refl (fun _ => False) _).alloc _) (fun f => f))
  have HFR : Hid (Four W0 (w.heap.size + 1) ∧ W0.heap.size = w.heap.size + 2) := Lib.hid (by rw [hW0]; exact ⟨Four.new (by simp), by simp⟩)
  have HBX : Hid (∀ j, W0.cell? ⟨w.heap.size + 1, j, none⟩ = (#[.slice none 0 0, .int .i64 0, .int .i64 0, .int .i64 0] : Array Value)[j]?) := Lib.hid (fun j => by rw [hW0]; simp)
  have HSP := Lib.hid (fun g cp w' (h : ReadsT w' (some ⟨g, 0, none⟩) n1 t1) => split_any G1 M1 B1 (some ⟨g, 0, none⟩) n1 cp t1 pos k w' h)
  rw [hL, her] at HSP
  have hneg : ¬ now < 0 := by omega
  obtain ⟨Q, hQ⟩ : ∃ Q, (if er = 0 then RateAt L k (costB L) (pos + k) 0 w else RateAt [] 0 0 0 1 w) = Q := ⟨_, rfl⟩
  rw [hQ]
  have HQ := Lib.hid hQ
  clear hQ
  clear h1 h2 hck hc hL her hk hl hb
  go_enter Try.func25, Try.ntmps25
  obtain ⟨p0, p1, p2, p3, p4, p5, p6, p7, p8, p9, p10⟩ := HPA.out
  rw [hW0] at p0 p1 p2 p3 p4 p5 p6 p7 p8 p9 p10
  go_wp2_with fail
  rw [← hW0]
  clear hW0 p0 p1 p2 p3 p4 p5 p6 p7 p8 p9 p10
  refine (HCR.out _ HO0.out).mono ?_
  rintro _ w1 ⟨rfl, k1⟩
  have K1 := Lib.hid k1
  clear k1
  obtain ⟨p0, p1, p2, p3, p4, p5, p6, p7, p8, p9, p10⟩ := HPA.out.only K1.out (fun f => f)
  go_wp2_with fail
  refine (HAT.out _ (HO0.out.trans K1.out)).mono ?_
  rintro _ w2 ⟨g, cp, rfl, hrd, k2⟩
  obtain ⟨w3, hw3⟩ : ∃ w3, w3 = w2.alloc (.cells #[.int .i64 G1, .int .i64 M1, .int .i64 B1, .slice (some ⟨g, 0, none⟩) n1 cp] 35) := ⟨_, rfl⟩
  have K3 : Hid (Only (fun _ => False) W0 w3) := Lib.hid (by rw [hw3]; exact (K1.out.trans k2).alloc _)
  have HRD : Hid (ReadsT w3 (some ⟨g, 0, none⟩) n1 t1) := Lib.hid (by rw [hw3]; exact hrd.only ((Only.refl (fun _ => False) _).alloc _) (fun _ _ f => f))
  have HTA : Hid (TarAt w3 w2.heap.size G1 M1 B1 (.slice (some ⟨g, 0, none⟩) n1 cp)) := Lib.hid (by rw [hw3]; exact ⟨alloc_new _ _ _ _ _ _ rfl rfl, alloc_new _ _ _ _ _ _ rfl rfl, alloc_new _ _ _ _ _ _ rfl rfl, alloc_new _ _ _ _ _ _ rfl rfl⟩)
  clear k2 hrd p0 p1 p2 p3 p4 p5 p6 p7 p8 p9 p10
  obtain ⟨b0, b1, b2, b3⟩ := HTA.out
  rw [hw3] at b0 b1 b2 b3
  go_wp2_with fail
  rw [← hw3]
  rw [← hw3] at b0 b1 b2 b3
  clear hw3
  refine (HAB.out _).mono ?_
  rintro _ _ ⟨rfl, rfl⟩
  go_wp2_with fail
  refine (HSP.out g cp _ HRD.out).mono ?_
  rintro _ w4 ⟨al, cl, rfl, hnl, k4⟩
  have K4 := Lib.hid (K3.out.trans k4)
  have HNL := Lib.hid hnl
  clear k4 hnl b0 b1 b2 b3
  rcases HER.out with ⟨rfl, hsi, hco, hcn, q1, q2, hpo⟩ | rfl
  · have HC := Lib.hid (cost_any al L.length cl L w4 HNL.out hsi (by have := HLN.out; omega))
    unfold CostAt at HC
    rw [hco, hcn] at HC
    have v1 : wrap64 (pos + k) = pos + k := by rw [wrap64_eq]; omega
    have v2 : IntKind.i64.wrap (pos + k) = pos + k := by rw [wrap_i64]; omega
    have HPO := Lib.hid hpo
    clear hsi hco hcn hpo
    rw [if_pos rfl] at HQ
    generalize costB L = cc at *
    go_wp2_with fail
    refine HC.out.mono ?_
    rintro _ w5 ⟨rfl, k5⟩
    have K5 := Lib.hid (K4.out.trans k5)
    have HNL5 := Lib.hid (HNL.out.only k5 (fun _ _ f => f))
    have HR4 := HFR.out.1.only K5.out (fun f => f)
    have HE := Lib.hid (HR4.set (.slice al L.length cl) (.int .i64 k) (.int .i64 cc) (.int .i64 (pos + k)))
    obtain ⟨⟨_, r0⟩, ⟨_, r1⟩, ⟨_, r2⟩, ⟨_, r3⟩, g0, g1, g2, g3⟩ := HR4
    clear k5
    go_wp2_with fail
    refine bodyPost_ret (v := .tuple #[.agg #[.slice al L.length cl, .int .i64 k, .int .i64 cc, .int .i64 (pos + k)], .int .i64 0]) (by simp [results, Try.results25, go_sem, HE.out.1, HE.out.2.1, HE.out.2.2.1, HE.out.2.2.2.1]) rfl ?_
    rw [← HQ.out]
    refine ⟨al, cl, rfl, ?_, (HO0.out.trans K5.out).then HE.out.2.2.2.2 (fun q hq e => by have e' : q = w.heap.size + 1 := e; omega)⟩
    exact rated_apart HBX.out (by have := HFR.out.2; omega) K5.out HNL5.out HPO.out HE.out.2.2.2.2
  · rw [if_neg (by decide)] at HQ
    have HR4 := HFR.out.1.only K4.out (fun f => f)
    have HE := Lib.hid (HR4.set (.slice none 0 0) (.int .i64 0) (.int .i64 0) (.int .i64 0))
    obtain ⟨⟨_, r0⟩, ⟨_, r1⟩, ⟨_, r2⟩, ⟨_, r3⟩, g0, g1, g2, g3⟩ := HR4
    go_wp2_with fail
    refine bodyPost_ret (v := .tuple #[.agg #[.slice none 0 0, .int .i64 0, .int .i64 0, .int .i64 0], .int .i64 1]) (by simp [results, Try.results25, go_sem, HE.out.1, HE.out.2.1, HE.out.2.2.1, HE.out.2.2.2.1]) rfl ?_
    rw [← HQ.out]
    exact ⟨none, 0, rfl, ⟨rfl, .inl rfl⟩, (HO0.out.trans K4.out).then HE.out.2.2.2.2 (fun q hq e => by have e' : q = w.heap.size + 1 := e; omega)⟩

set_option maxRecDepth 100000 in
set_option maxHeartbeats 1000000 in
theorem rate_other (D F T G1 M1 B1 G2 M2 B2 : Int) (a1 a2 : Option Addr) (n1 n2 c1 c2 : Nat) (t1 t2 : List Tr) (now pos u k er : Int) (L : List Ln) (w : World) (h1 : ReadsT w a1 n1 t1) (h2 : ReadsT w a2 n2 t2) (h0 : 0 ≤ now) (hx : now ≤ 9223372036854775807) (hc : CanP D F T G1 M1 B1 G2 M2 B2 t1 t2 u) (hiso : isO D F T now = true)
    (hk : bk u B2 = k) (hL : splL G2 M2 B2 t2 pos k = L) (her : splE G2 M2 B2 t2 pos k = er) (hck : tchk G2 M2 B2 t2 = 0) :
    Calls Try.prog 25 #[.agg #[.int .i64 D, .int .i64 F, .int .i64 T, .int .i64 G1, .int .i64 M1, .int .i64 B1, .slice a1 n1 c1, .int .i64 G2, .int .i64 M2, .int .i64 B2, .slice a2 n2 c2], .int .i64 now, .int .i64 pos, .int .i64 u] w (if er = 0 then RateAt L k (costB L) (pos + k) 0 w else RateAt [] 0 0 0 1 w) := by
  obtain ⟨⟨u1, u2⟩, _, _⟩ := can_facts hc
  obtain ⟨_, _, hb, hl, _⟩ := (tchk_ok G2 M2 B2 t2).1 hck
  obtain ⟨k1', k2'⟩ := bk_in u1 hb.1
  rw [hk] at k1' k2'
  have hn6 : n2 ≤ 100 := by have := h2.1; omega
  have HCR := Lib.hid (fun w' (ho : Only (fun _ => False) w w') => canrate_any D F T G1 M1 B1 G2 M2 B2 a1 a2 n1 n2 c1 c2 t1 t2 u w' (h1.only ho (fun _ _ f => f)) (h2.only ho (fun _ _ f => f)))
  rw [decide_eq_true hc] at HCR
  have HAT := Lib.hid (fun w' (ho : Only (fun _ => False) w w') => at_other D F T G1 M1 B1 G2 M2 B2 a1 a2 n1 n2 c1 c2 t1 t2 now w' (h1.only ho (fun _ _ f => f)) (h2.only ho (fun _ _ f => f)) h0 hx hc.2.2 hiso)
  have HAB := Lib.hid (fun w => ablocks_any u B2 (by omega) (by omega) w)
  rw [bok_yes u1 hb.1, hk] at HAB
  have HLN : Hid (L.length ≤ 1000) := Lib.hid (by rw [← hL]; exact spl_len (by omega))
  have HER : Hid (er = 0 ∧ LnsI L ∧ costOk L = true ∧ costN L = costB L ∧ 0 ≤ pos ∧ pos ≤ 1099511627776 ∧ (∀ x ∈ L, 0 < x.b) ∨ er = 1) := Lib.hid (by
    by_cases ho : outB pos k
    · right; rw [← her]; unfold splE; rw [if_pos (.inr ho)]
    · left
      have hcs := spl_cost hck ho
      rw [hL] at hcs
      have hsi := spl_ints hck ho
      rw [hL] at hsi
      unfold outB at ho
      exact ⟨by rw [← her]; exact spl_err hck (by unfold outB; omega), hsi, hcs.1, hcs.2.1, by omega, by omega, fun x hx => ((spl_facts hck (by unfold outB; omega)).1 x (by rw [hL]; exact hx)).2.1.1⟩)
  obtain ⟨W0, hW0⟩ : ∃ W0, W0 = (w.alloc (.cells #[.int .i64 D, .int .i64 F, .int .i64 T, .int .i64 G1, .int .i64 M1, .int .i64 B1, .slice a1 n1 c1, .int .i64 G2, .int .i64 M2, .int .i64 B2, .slice a2 n2 c2] 39)).alloc (.cells #[.slice none 0 0, .int .i64 0, .int .i64 0, .int .i64 0] 66) := ⟨_, rfl⟩
  have HO0 : Hid (Only (fun _ => False) w W0) := Lib.hid (by rw [hW0]; exact ((Only.refl _ w).alloc _).alloc _)
  have HPA : Hid (PlanAt W0 w.heap.size D F T G1 M1 B1 G2 M2 B2 a1 a2 n1 n2 c1 c2) := Lib.hid (by rw [hW0]; exact (PlanAt.new ..).only ((Only.refl (fun _ => False) _).alloc _) (fun f => f))
  have HFR : Hid (Four W0 (w.heap.size + 1) ∧ W0.heap.size = w.heap.size + 2) := Lib.hid (by rw [hW0]; exact ⟨Four.new (by simp), by simp⟩)
  have HBX : Hid (∀ j, W0.cell? ⟨w.heap.size + 1, j, none⟩ = (#[.slice none 0 0, .int .i64 0, .int .i64 0, .int .i64 0] : Array Value)[j]?) := Lib.hid (fun j => by rw [hW0]; simp)
  have HSP := Lib.hid (fun g cp w' (h : ReadsT w' (some ⟨g, 0, none⟩) n2 t2) => split_any G2 M2 B2 (some ⟨g, 0, none⟩) n2 cp t2 pos k w' h)
  rw [hL, her] at HSP
  have hneg : ¬ now < 0 := by omega
  obtain ⟨Q, hQ⟩ : ∃ Q, (if er = 0 then RateAt L k (costB L) (pos + k) 0 w else RateAt [] 0 0 0 1 w) = Q := ⟨_, rfl⟩
  rw [hQ]
  have HQ := Lib.hid hQ
  clear hQ
  clear h1 h2 hck hc hL her hk hl hb
  go_enter Try.func25, Try.ntmps25
  obtain ⟨p0, p1, p2, p3, p4, p5, p6, p7, p8, p9, p10⟩ := HPA.out
  rw [hW0] at p0 p1 p2 p3 p4 p5 p6 p7 p8 p9 p10
  go_wp2_with fail
  rw [← hW0]
  clear hW0 p0 p1 p2 p3 p4 p5 p6 p7 p8 p9 p10
  refine (HCR.out _ HO0.out).mono ?_
  rintro _ w1 ⟨rfl, k1⟩
  have K1 := Lib.hid k1
  clear k1
  obtain ⟨p0, p1, p2, p3, p4, p5, p6, p7, p8, p9, p10⟩ := HPA.out.only K1.out (fun f => f)
  go_wp2_with fail
  refine (HAT.out _ (HO0.out.trans K1.out)).mono ?_
  rintro _ w2 ⟨g, cp, rfl, hrd, k2⟩
  obtain ⟨w3, hw3⟩ : ∃ w3, w3 = w2.alloc (.cells #[.int .i64 G2, .int .i64 M2, .int .i64 B2, .slice (some ⟨g, 0, none⟩) n2 cp] 35) := ⟨_, rfl⟩
  have K3 : Hid (Only (fun _ => False) W0 w3) := Lib.hid (by rw [hw3]; exact (K1.out.trans k2).alloc _)
  have HRD : Hid (ReadsT w3 (some ⟨g, 0, none⟩) n2 t2) := Lib.hid (by rw [hw3]; exact hrd.only ((Only.refl (fun _ => False) _).alloc _) (fun _ _ f => f))
  have HTA : Hid (TarAt w3 w2.heap.size G2 M2 B2 (.slice (some ⟨g, 0, none⟩) n2 cp)) := Lib.hid (by rw [hw3]; exact ⟨alloc_new _ _ _ _ _ _ rfl rfl, alloc_new _ _ _ _ _ _ rfl rfl, alloc_new _ _ _ _ _ _ rfl rfl, alloc_new _ _ _ _ _ _ rfl rfl⟩)
  clear k2 hrd p0 p1 p2 p3 p4 p5 p6 p7 p8 p9 p10
  obtain ⟨b0, b1, b2, b3⟩ := HTA.out
  rw [hw3] at b0 b1 b2 b3
  go_wp2_with fail
  rw [← hw3]
  rw [← hw3] at b0 b1 b2 b3
  clear hw3
  refine (HAB.out _).mono ?_
  rintro _ _ ⟨rfl, rfl⟩
  go_wp2_with fail
  refine (HSP.out g cp _ HRD.out).mono ?_
  rintro _ w4 ⟨al, cl, rfl, hnl, k4⟩
  have K4 := Lib.hid (K3.out.trans k4)
  have HNL := Lib.hid hnl
  clear k4 hnl b0 b1 b2 b3
  rcases HER.out with ⟨rfl, hsi, hco, hcn, q1, q2, hpo⟩ | rfl
  · have HC := Lib.hid (cost_any al L.length cl L w4 HNL.out hsi (by have := HLN.out; omega))
    unfold CostAt at HC
    rw [hco, hcn] at HC
    have v1 : wrap64 (pos + k) = pos + k := by rw [wrap64_eq]; omega
    have v2 : IntKind.i64.wrap (pos + k) = pos + k := by rw [wrap_i64]; omega
    have HPO := Lib.hid hpo
    clear hsi hco hcn hpo
    rw [if_pos rfl] at HQ
    generalize costB L = cc at *
    go_wp2_with fail
    refine HC.out.mono ?_
    rintro _ w5 ⟨rfl, k5⟩
    have K5 := Lib.hid (K4.out.trans k5)
    have HNL5 := Lib.hid (HNL.out.only k5 (fun _ _ f => f))
    have HR4 := HFR.out.1.only K5.out (fun f => f)
    have HE := Lib.hid (HR4.set (.slice al L.length cl) (.int .i64 k) (.int .i64 cc) (.int .i64 (pos + k)))
    obtain ⟨⟨_, r0⟩, ⟨_, r1⟩, ⟨_, r2⟩, ⟨_, r3⟩, g0, g1, g2, g3⟩ := HR4
    clear k5
    go_wp2_with fail
    refine bodyPost_ret (v := .tuple #[.agg #[.slice al L.length cl, .int .i64 k, .int .i64 cc, .int .i64 (pos + k)], .int .i64 0]) (by simp [results, Try.results25, go_sem, HE.out.1, HE.out.2.1, HE.out.2.2.1, HE.out.2.2.2.1]) rfl ?_
    rw [← HQ.out]
    refine ⟨al, cl, rfl, ?_, (HO0.out.trans K5.out).then HE.out.2.2.2.2 (fun q hq e => by have e' : q = w.heap.size + 1 := e; omega)⟩
    exact rated_apart HBX.out (by have := HFR.out.2; omega) K5.out HNL5.out HPO.out HE.out.2.2.2.2
  · rw [if_neg (by decide)] at HQ
    have HR4 := HFR.out.1.only K4.out (fun f => f)
    have HE := Lib.hid (HR4.set (.slice none 0 0) (.int .i64 0) (.int .i64 0) (.int .i64 0))
    obtain ⟨⟨_, r0⟩, ⟨_, r1⟩, ⟨_, r2⟩, ⟨_, r3⟩, g0, g1, g2, g3⟩ := HR4
    go_wp2_with fail
    refine bodyPost_ret (v := .tuple #[.agg #[.slice none 0 0, .int .i64 0, .int .i64 0, .int .i64 0], .int .i64 1]) (by simp [results, Try.results25, go_sem, HE.out.1, HE.out.2.1, HE.out.2.2.1, HE.out.2.2.2.1]) rfl ?_
    rw [← HQ.out]
    exact ⟨none, 0, rfl, ⟨rfl, .inl rfl⟩, (HO0.out.trans K4.out).then HE.out.2.2.2.2 (fun q hq e => by have e' : q = w.heap.size + 1 := e; omega)⟩
end Go.Proofs.Ytghajamcjcflaaa.tirw

namespace Go.Proofs.Ytghajamcjcflaaa.tirw
open Go.RowKit mem tirm intm bigm bigw
set_option linter.unusedVariables false

/-- what fits -/
def FitNo (D F T G1 M1 B1 G2 M2 B2 : Int) (t1 t2 : List Tr) (cr u : Int) : Prop := ¬ CanP D F T G1 M1 B1 G2 M2 B2 t1 t2 u ∨ cr < 0
instance (D F T G1 M1 B1 G2 M2 B2 : Int) (t1 t2 : List Tr) (cr u : Int) : Decidable (FitNo D F T G1 M1 B1 G2 M2 B2 t1 t2 cr u) := inferInstanceAs (Decidable (_ ∨ _))
def fitU (D F T G1 M1 B1 G2 M2 B2 : Int) (t1 t2 : List Tr) (cr u : Int) : Int :=
  if FitNo D F T G1 M1 B1 G2 M2 B2 t1 t2 cr u then 0 else if bk u B1 * dearP t1 t2 ≤ cr then u else cr / dearP t1 t2 * B1
def fitC (D F T G1 M1 B1 G2 M2 B2 : Int) (t1 t2 : List Tr) (cr u : Int) : Int :=
  if FitNo D F T G1 M1 B1 G2 M2 B2 t1 t2 cr u then 0 else if bk u B1 * dearP t1 t2 ≤ cr then bk u B1 * dearP t1 t2 else cr / dearP t1 t2 * dearP t1 t2
def fitE (D F T G1 M1 B1 G2 M2 B2 : Int) (t1 t2 : List Tr) (cr u : Int) : Int := if FitNo D F T G1 M1 B1 G2 M2 B2 t1 t2 cr u then 1 else 0
/-- fewer blocks than those wanted -/
theorem fit_less {k d cr : Int} (h : cr < k * d) (h0 : 0 ≤ cr) (hd : 0 ≤ d) : 0 < d ∧ 0 ≤ cr / d ∧ cr / d < k ∧ cr / d * d ≤ cr ∧ cr < (cr / d + 1) * d := by
  have hd1 : 0 < d := by
    rcases Int.lt_or_le 0 d with e | e
    · exact e
    · have : d = 0 := by omega
      rw [this] at h; simp at h; omega
  have h1 := Int.mul_ediv_add_emod cr d
  have h2 := Int.ediv_nonneg h0 hd
  have h3 := Int.emod_nonneg cr (show d ≠ 0 by omega)
  have h4 := Int.emod_lt_of_pos cr hd1
  have h5 : d * (cr / d) = cr / d * d := Int.mul_comm _ _
  have h6 : cr / d < k := by
    rcases Int.lt_or_le (cr / d) k with e | e
    · exact e
    · have := Int.mul_le_mul_of_nonneg_right e hd
      omega
  have h7 : (cr / d + 1) * d = cr / d * d + d := by rw [Int.add_mul, Int.one_mul]
  exact ⟨hd1, h2, h6, by omega, by omega⟩

set_option maxRecDepth 100000 in
set_option maxHeartbeats 1000000 in
theorem fit_any (D F T G1 M1 B1 G2 M2 B2 : Int) (a1 a2 : Option Addr) (n1 n2 c1 c2 : Nat) (t1 t2 : List Tr) (cr u : Int) (w : World) (h1 : ReadsT w a1 n1 t1) (h2 : ReadsT w a2 n2 t2) (hcr : cr ≤ 9223372036854775807) :
    Calls Try.prog 41 #[.agg #[.int .i64 D, .int .i64 F, .int .i64 T, .int .i64 G1, .int .i64 M1, .int .i64 B1, .slice a1 n1 c1, .int .i64 G2, .int .i64 M2, .int .i64 B2, .slice a2 n2 c2], .int .i64 cr, .int .i64 u] w fun e w' => e = .returned (.tuple #[.int .i64 (fitU D F T G1 M1 B1 G2 M2 B2 t1 t2 cr u), .int .i64 (fitC D F T G1 M1 B1 G2 M2 B2 t1 t2 cr u), .int .i64 (fitE D F T G1 M1 B1 G2 M2 B2 t1 t2 cr u)]) ∧ Only (fun _ => False) w w' := by
  have HWO := Lib.hid (fun w' (ho : Only (fun _ => False) w w') => worst_any D F T G1 M1 B1 G2 M2 B2 a1 a2 n1 n2 c1 c2 t1 t2 u w' (h1.only ho (fun _ _ f => f)) (h2.only ho (fun _ _ f => f)))
  have HDP := Lib.hid (fun w' (ho : Only (fun _ => False) w w') => dearp_any D F T G1 M1 B1 G2 M2 B2 a1 a2 n1 n2 c1 c2 t1 t2 w' (h1.only ho (fun _ _ f => f)) (h2.only ho (fun _ _ f => f)))
  obtain ⟨W0, hW0⟩ : ∃ W0, W0 = w.alloc (.cells #[.int .i64 D, .int .i64 F, .int .i64 T, .int .i64 G1, .int .i64 M1, .int .i64 B1, .slice a1 n1 c1, .int .i64 G2, .int .i64 M2, .int .i64 B2, .slice a2 n2 c2] 39) := ⟨_, rfl⟩
  have HO0 : Hid (Only (fun _ => False) w W0) := Lib.hid (by rw [hW0]; exact (Only.refl _ w).alloc _)
  have HPA : Hid (PlanAt W0 w.heap.size D F T G1 M1 B1 G2 M2 B2 a1 a2 n1 n2 c1 c2) := Lib.hid (by rw [hW0]; exact PlanAt.new ..)
  clear h1 h2
  unfold fitU fitC fitE
  by_cases hc : CanP D F T G1 M1 B1 G2 M2 B2 t1 t2 u
  · have hw : worN D F T G1 M1 B1 G2 M2 B2 t1 t2 u = bk u B1 * dearP t1 t2 ∧ worE D F T G1 M1 B1 G2 M2 B2 t1 t2 u = 0 := by unfold worN worE; rw [if_pos hc, if_pos hc]; exact ⟨rfl, rfl⟩
    rw [hw.1, hw.2] at HWO
    by_cases h0 : cr < 0
    · have hf : FitNo D F T G1 M1 B1 G2 M2 B2 t1 t2 cr u := .inr h0
      rw [if_pos hf, if_pos hf, if_pos hf]
      generalize bk u B1 * dearP t1 t2 = P at *
      clear hc hw hf
      go_enter Try.func41, Try.ntmps41
      obtain ⟨p0, p1, p2, p3, p4, p5, p6, p7, p8, p9, p10⟩ := HPA.out
      rw [hW0] at p0 p1 p2 p3 p4 p5 p6 p7 p8 p9 p10
      go_wp2_with fail
      rw [← hW0]
      clear hW0 p0 p1 p2 p3 p4 p5 p6 p7 p8 p9 p10
      refine (HWO.out _ HO0.out).mono ?_
      rintro _ w1 ⟨rfl, k1⟩
      have K1 := Lib.hid (HO0.out.trans k1)
      clear k1
      go_wp2_with fail
      go_ret3
      exact ⟨rfl, K1.out⟩
    · have hf : ¬ FitNo D F T G1 M1 B1 G2 M2 B2 t1 t2 cr u := fun e => e.elim (fun e => e hc) h0
      rw [if_neg hf, if_neg hf, if_neg hf]
      obtain ⟨⟨c1', c2'⟩, ⟨b1, b2⟩, d1, d2⟩ := can_facts hc
      obtain ⟨e1, e2⟩ := bk_in c1' b1
      by_cases hle : bk u B1 * dearP t1 t2 ≤ cr
      · rw [if_pos hle, if_pos hle]
        generalize bk u B1 * dearP t1 t2 = P at *
        clear hc hw hf
        go_enter Try.func41, Try.ntmps41
        obtain ⟨p0, p1, p2, p3, p4, p5, p6, p7, p8, p9, p10⟩ := HPA.out
        rw [hW0] at p0 p1 p2 p3 p4 p5 p6 p7 p8 p9 p10
        go_wp2_with fail
        rw [← hW0]
        clear hW0 p0 p1 p2 p3 p4 p5 p6 p7 p8 p9 p10
        refine (HWO.out _ HO0.out).mono ?_
        rintro _ w1 ⟨rfl, k1⟩
        have K1 := Lib.hid (HO0.out.trans k1)
        clear k1
        go_wp2_with fail
        go_ret3
        exact ⟨rfl, K1.out⟩
      · rw [if_neg hle, if_neg hle]
        obtain ⟨f1, f2, f3, f4, f5⟩ := fit_less (k := bk u B1) (d := dearP t1 t2) (cr := cr) (by omega) (by omega) d1
        have hq1 : cr / dearP t1 t2 * B1 ≤ 1073741824 * 1073741824 := Int.mul_le_mul (by omega) b2 (by omega) (by omega)
        have hq0 : 0 ≤ cr / dearP t1 t2 * B1 := Int.mul_nonneg f2 (by omega)
        have hr0 : 0 ≤ cr / dearP t1 t2 * dearP t1 t2 := Int.mul_nonneg f2 d1
        have htd : cr.tdiv (dearP t1 t2) = cr / dearP t1 t2 := Int.tdiv_eq_ediv_of_nonneg (by omega)
        generalize bk u B1 * dearP t1 t2 = P at *
        have HDQ := HDP
        obtain ⟨d, hd⟩ : ∃ d, dearP t1 t2 = d := ⟨_, rfl⟩
        rw [hd] at HDP f1 f2 f3 f4 f5 hq1 hq0 hr0 htd ⊢
        obtain ⟨q, hq⟩ : ∃ q, cr / d = q := ⟨_, rfl⟩
        rw [hq] at f2 f3 f4 f5 hq1 hq0 hr0 htd ⊢
        have v1 : wrap64 (q * B1) = q * B1 := by rw [wrap64_eq]; omega
        have v2 : wrap64 (q * d) = q * d := by rw [wrap64_eq]; omega
        have v3 : IntKind.i64.wrap (q * B1) = q * B1 := by rw [wrap_i64]; omega
        have v4 : IntKind.i64.wrap (q * d) = q * d := by rw [wrap_i64]; omega
        have z0 : ¬ d = 0 := by omega
        obtain ⟨z1, z2⟩ := neI z0
        clear hc hw hf HDQ
        go_enter Try.func41, Try.ntmps41
        obtain ⟨p0, p1, p2, p3, p4, p5, p6, p7, p8, p9, p10⟩ := HPA.out
        rw [hW0] at p0 p1 p2 p3 p4 p5 p6 p7 p8 p9 p10
        go_wp2_with fail
        rw [← hW0]
        clear hW0 p0 p1 p2 p3 p4 p5 p6 p7 p8 p9 p10
        refine (HWO.out _ HO0.out).mono ?_
        rintro _ w1 ⟨rfl, k1⟩
        have K1 := Lib.hid k1
        clear k1
        obtain ⟨p0, p1, p2, p3, p4, p5, p6, p7, p8, p9, p10⟩ := HPA.out.only K1.out (fun f => f)
        go_wp2_with fail
        refine (HDP.out _ (HO0.out.trans K1.out)).mono ?_
        rintro _ w2 ⟨rfl, k2⟩
        have K2 := Lib.hid (K1.out.trans k2)
        clear k2 p0 p1 p2 p3 p4 p5 p6 p7 p8 p9 p10
        obtain ⟨p0, p1, p2, p3, p4, p5, p6, p7, p8, p9, p10⟩ := HPA.out.only K2.out (fun f => f)
        go_wp2_with fail
        go_ret3
        exact ⟨rfl, HO0.out.trans K2.out⟩
  · have hw : worN D F T G1 M1 B1 G2 M2 B2 t1 t2 u = 0 ∧ worE D F T G1 M1 B1 G2 M2 B2 t1 t2 u = 1 := by unfold worN worE; rw [if_neg hc, if_neg hc]; exact ⟨rfl, rfl⟩
    rw [hw.1, hw.2] at HWO
    have hf : FitNo D F T G1 M1 B1 G2 M2 B2 t1 t2 cr u := .inl hc
    rw [if_pos hf, if_pos hf, if_pos hf]
    clear hc hw hf
    go_enter Try.func41, Try.ntmps41
    obtain ⟨p0, p1, p2, p3, p4, p5, p6, p7, p8, p9, p10⟩ := HPA.out
    rw [hW0] at p0 p1 p2 p3 p4 p5 p6 p7 p8 p9 p10
    go_wp2_with fail
    rw [← hW0]
    clear hW0 p0 p1 p2 p3 p4 p5 p6 p7 p8 p9 p10
    refine (HWO.out _ HO0.out).mono ?_
    rintro _ w1 ⟨rfl, k1⟩
    have K1 := Lib.hid (HO0.out.trans k1)
    clear k1
    go_wp2_with fail
    go_ret3
    exact ⟨rfl, K1.out⟩
end Go.Proofs.Ytghajamcjcflaaa.tirw

namespace Go.Proofs.Ytghajamcjcflaaa.tirw
open Go.RowKit mem tirm intm bigm bigw
set_option linter.unusedVariables false

def oneT : List Tr := [⟨0, 3⟩]
theorem one_reads (W : World) (g : Nat) (hg : g = W.heap.size) : ReadsT (W.alloc (.cells #[.int .i64 0, .int .i64 3] 91)) (some ⟨g, 0, none⟩) 1 oneT := by
  refine ⟨rfl, by omega, ?_, .inr ⟨g, 0, rfl, fun i hi => ?_⟩⟩
  · intro x hx
    simp [oneT] at hx
    subst hx
    unfold InI
    dsimp only
    omega
  · obtain rfl : i = 0 := by omega
    exact ⟨alloc_new _ _ _ _ _ _ hg rfl, alloc_new _ _ _ _ _ _ hg rfl⟩
end Go.Proofs.Ytghajamcjcflaaa.tirw

namespace Go.Proofs.Ytghajamcjcflaaa.tirw
open Go.RowKit mem tirm intm bigm bigw
set_option linter.unusedVariables false

/-- a row of tiers of the call's own grows by what a slice reads -/
def OwnT (w : World) (v : Value) (ts : List Tr) : Prop := w.ownsRow 0 91 2 v ts.length (tv ts)
theorem tv_append (a b : List Tr) : tv (a ++ b) = tv a ++ tv b := by simp [tv]
theorem own_readsT3 {w : World} {v : Value} {ts : List Tr} (h : OwnT w v ts) (hb : ∀ x ∈ ts, InI x.u ∧ InI x.p) (hm : ts.length ≤ 1000000) : ∃ a cap, v = .slice a ts.length cap ∧ ReadsT w a ts.length ts := by
  have h0 := h
  rcases h.2 with ⟨hv, hn⟩ | ⟨g, cap, cur, hv, hg, hh, hc, hmm, _⟩
  · exact ⟨none, 0, by rw [hv, hn], ⟨rfl, by omega, hb, .inl hn⟩⟩
  · refine ⟨some ⟨g, 0, none⟩, cap, hv, ?_⟩
    have h1 : w.ownsRow 0 91 2 (.slice (some ⟨g, 0, none⟩) ts.length cap) ts.length (tv ts) := by rw [← hv]; exact h0
    exact own_readsT h1 (by omega) hb
theorem append_tiers {w : World} {ops : Array Oper} {rest : List Oper} {o : Oper} {ac : Act} {Q : Exit → Act → World → Prop} (hgd : o.guard = none) (s x : Operand)
    (ho : o.op = .call { callee := .builtin .append, args := #[s, x], argTypes := #[33, 33] })
    (v : Value) (xs : List Tr) (hs : ac.eval s = v) (hown : OwnT w v xs) (a : Option Addr) (m c : Nat) (ts : List Tr) (hx : ac.eval x = .slice a m c) (hr : ReadsT w a m ts) (hb : xs.length + m ≤ 1000000)
    (h : ∀ v' w', OwnT w' v' (xs ++ ts) → w.grownBy w' v.ownBlock → (∀ k, v'.ownBlock = some k → v.ownBlock = some k ∨ w.heap.size ≤ k) → wpList Try.prog ops Q rest (ac.put o.dst v') w') : wpList Try.prog ops Q (o :: rest) ac w := by
  obtain ⟨i0, hi, hz0, hz1, hz2⟩ := info_parts info_tier
  rcases a with _ | ad
  · have hm : m = 0 := hr.2.2.2.elim id (fun ⟨b, off, e, _⟩ => by cases e)
    subst hm
    have hl : ts = [] := List.eq_nil_of_length_eq_zero hr.1
    subst hl
    refine append_none_any hgd s x 33 ho 0 91 i0 2 Try.underlying33 hi v xs.length _ c hs hown hx ?_
    exact h v w (by rw [List.append_nil]; exact hown) ⟨rfl, rfl, rfl, Nat.le_refl _, fun _ _ _ => rfl⟩ (fun k hk => .inl hk)
  · refine append_mine hgd s x 33 ho 91 i0 _ 2 16 Try.underlying33 hi hz0 hz1 hz2 rfl (by decide) v xs.length _ hs hown ad m c (tv ts) hx (by rw [tv_length, hr.1]) (newsT hr) (tv_one ts) (by unfold maxLen; omega) (by omega) ?_
    intro v' w' h1 h2 h3
    refine h v' w' ?_ h2 h3
    unfold OwnT
    rw [List.length_append, hr.1, tv_append]
    exact h1
end Go.Proofs.Ytghajamcjcflaaa.tirw

