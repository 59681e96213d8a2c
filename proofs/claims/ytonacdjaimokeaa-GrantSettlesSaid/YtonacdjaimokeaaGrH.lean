/- GrantSettles's walk. -/
import Derived.Test.YtonacdjaimokeaaGrG
import Derived.Deep.RegionHeld3
namespace Go.Proofs.Ytonacdjaimokeaa.tirw
open Go.RowKit mem tirm intm bigm bigw
set_option linter.unusedVariables false

theorem rbox_put2 {wr wn : World} {q : Nat} (hz : Zr4 wn q) (ho : Only (fun _ => False) wr wn) (hq : wr.heap.size ≤ q) {al : Option Addr} {L : List Ln} (cl : Nat) (k c p : Int) (hr : ReadsN wn al L.length L) (hpos : ∀ x ∈ L, 0 < x.b) : ∃ q' W, q = q' ∧ RBox wr W q' al cl L k c p ∧ W = (((wn.setCell ⟨q', 0, none⟩ (.slice al L.length cl)).setCell ⟨q', 1, none⟩ (.int .i64 k)).setCell ⟨q', 2, none⟩ (.int .i64 c)).setCell ⟨q', 3, none⟩ (.int .i64 p) := by
  obtain ⟨W, h1, h2⟩ := rbox_put hz ho hq cl k c p hr hpos
  exact ⟨q, W, rfl, h1, h2⟩
theorem rbox_new2 {wr wn : World} (ho : Only (fun _ => False) wr wn) {al : Option Addr} {L : List Ln} (cl : Nat) (k c p : Int) (t : TypeId) (hr : ReadsN wn al L.length L) : ∃ q' W, wn.heap.size = q' ∧ RBox wr W q' al cl L k c p ∧ W = wn.alloc (.cells #[.slice al L.length cl, .int .i64 k, .int .i64 c, .int .i64 p] t) := by
  obtain ⟨W, h1, h2⟩ := rbox_new ho cl k c p t hr
  exact ⟨_, W, rfl, h1, h2⟩
theorem two_new (W W' : World) (x : Gr) (t : TypeId) (ho : Only (fun _ => False) (W.alloc (.cells #[.int .i64 x.g, .int .i64 x.u, .int .i64 x.a, .bool x.f, .int .i64 x.g, .int .i64 x.u, .int .i64 x.a, .bool x.f] t)) W') : ReadsG W' (some ⟨W.heap.size, 0, none⟩) 2 [x, x] := by
  refine ReadsG.only (S := fun _ => False) ⟨rfl, .inr ⟨W.heap.size, 0, rfl, fun i hi => ?_⟩⟩ ho (fun _ _ f => f)
  match i, hi with
  | 0, _ => exact ⟨alloc_new _ _ _ _ _ _ rfl rfl, alloc_new _ _ _ _ _ _ rfl rfl, alloc_new _ _ _ _ _ _ rfl rfl, alloc_new _ _ _ _ _ _ rfl rfl⟩
  | 1, _ => exact ⟨alloc_new _ _ _ _ _ _ rfl rfl, alloc_new _ _ _ _ _ _ rfl rfl, alloc_new _ _ _ _ _ _ rfl rfl, alloc_new _ _ _ _ _ _ rfl rfl⟩
set_option maxRecDepth 100000 in
set_option maxHeartbeats 4000000 in
theorem gsettles_any (g un am : Int) (fl : Bool) (D F T G1 M1 B1 G2 M2 B2 : Int) (a1 a2 : Option Addr) (n1 n2 c1 c2 : Nat) (t1 t2 : List Tr) (now pos u : Int) (w : World) (h1 : TiersR w a1 n1 c1 t1) (h2 : TiersR w a2 n2 c2 t2) (hx : now ≤ 9223372036854775807) (ham : InI am) :
    Calls Try.prog 12 #[.agg #[.int .i64 g, .int .i64 un, .int .i64 am, .bool fl], .agg #[.int .i64 D, .int .i64 F, .int .i64 T, .int .i64 G1, .int .i64 M1, .int .i64 B1, .slice a1 n1 c1, .int .i64 G2, .int .i64 M2, .int .i64 B2, .slice a2 n2 c2], .agg #[.int .i64 now, .int .i64 pos, .int .i64 u]] w fun e w' => e = .returned (.bool true) ∧ Only (fun _ => False) w w' := by
  obtain ⟨W0, hW0⟩ : ∃ W0, W0 = ((w.alloc (.cells #[.int .i64 g, .int .i64 un, .int .i64 am, .bool fl] 75)).alloc (.cells #[.int .i64 D, .int .i64 F, .int .i64 T, .int .i64 G1, .int .i64 M1, .int .i64 B1, .slice a1 n1 c1, .int .i64 G2, .int .i64 M2, .int .i64 B2, .slice a2 n2 c2] 26)).alloc (.cells #[.int .i64 now, .int .i64 pos, .int .i64 u] 90) := ⟨_, rfl⟩
  have HO0 : Hid (Only (fun _ => False) w W0 ∧ W0.heap.size = w.heap.size + 3) := Lib.hid (by rw [hW0]; exact ⟨(((Only.refl _ w).alloc _).alloc _).alloc _, by simp⟩)
  have HG : Hid (BoxV W0 w.heap.size [.int .i64 g, .int .i64 un, .int .i64 am, .bool fl]) := Lib.hid (by rw [hW0]; exact (BoxV.new w [.int .i64 g, .int .i64 un, .int .i64 am, .bool fl] _ _ rfl).only (((Only.refl (fun _ => False) _).alloc _).alloc _) (fun f => f))
  have HP : Hid (BoxV W0 (w.heap.size + 1) (plV D F T G1 M1 B1 G2 M2 B2 a1 a2 n1 n2 c1 c2)) := Lib.hid (by rw [hW0]; exact (BoxV.new (w.alloc _) (plV D F T G1 M1 B1 G2 M2 B2 a1 a2 n1 n2 c1 c2) _ _ (by simp)).only ((Only.refl (fun _ => False) _).alloc _) (fun f => f))
  have HA : Hid (BoxV W0 (w.heap.size + 2) [.int .i64 now, .int .i64 pos, .int .i64 u]) := Lib.hid (by rw [hW0]; exact BoxV.new _ [.int .i64 now, .int .i64 pos, .int .i64 u] _ _ (by simp))
  have HTM := Lib.hid (gtame_any D F T G1 M1 B1 G2 M2 B2 a1 a2 n1 n2 c1 c2 t1 t2 W0 (h1.only HO0.out.1) (h2.only HO0.out.1))
  clear h1 h2
  generalize t1.take (min n1 9) = s1 at *
  generalize t2.take (min n2 9) = s2 at *
  go_enter Try.func12, Try.ntmps12
  obtain ⟨⟨p0, p1, p2, p3, p4, p5, p6, p7, p8, p9, p10⟩, _⟩ := HP.out.all
  rw [hW0] at p0 p1 p2 p3 p4 p5 p6 p7 p8 p9 p10
  go_wp2_with fail
  rw [← hW0]
  clear hW0 p0 p1 p2 p3 p4 p5 p6 p7 p8 p9 p10
  refine HTM.out.mono ?_
  rintro _ w1 ⟨a3, a4, q3, q4, rfl, hr3, hr4, k1, hb3, hb4⟩
  have HB1 := HP.out.only k1 (fun f => f)
  obtain ⟨W2, HP2, HO2, hW2⟩ := plan_put HB1 rfl D F T G1 M1 B1 G2 M2 B2 a3 a4 s1.length s2.length q3 q4
  have HR3 : Hid (ReadsT W2 a3 s1.length s1) := Lib.hid (hr3.only HO2 (fun y hy e => by have := hb3 y hy; have := HO0.out.2; have e' : y.block = w.heap.size + 1 := e; omega))
  have HR4 : Hid (ReadsT W2 a4 s2.length s2) := Lib.hid (hr4.only HO2 (fun y hy e => by have := hb4 y hy; have := HO0.out.2; have e' : y.block = w.heap.size + 1 := e; omega))
  have HOW : Hid (Only (fun _ => False) w W2) := Lib.hid ((HO0.out.1.trans k1).then HO2 (fun q hq e => by have e' : q = w.heap.size + 1 := e; omega))
  have HA2 : Hid (BoxV W2 (w.heap.size + 2) [.int .i64 now, .int .i64 pos, .int .i64 u]) := Lib.hid ((HA.out.only k1 (fun f => f)).only HO2 (fun e => by have e' : w.heap.size + 2 = w.heap.size + 1 := e; omega))
  have HG2 : Hid (BoxV W2 w.heap.size [.int .i64 g, .int .i64 un, .int .i64 am, .bool fl]) := Lib.hid ((HG.out.only k1 (fun f => f)).only HO2 (fun e => by have e' : w.heap.size = w.heap.size + 1 := e; omega))
  have HPB := Lib.hid HP2
  have HTO := Lib.hid (fun w' => gto_any D F T G1 M1 B1 G2 M2 B2 a3 a4 s1.length s2.length q3 q4 w')
  have HSE := Lib.hid (fun w' (ho : Only (fun _ => False) W2 w') => (settle_any D F T G1 M1 B1 G2 M2 B2 a3 a4 s1.length s2.length q3 q4 s1 s2 g un am now pos u fl w' (HR3.out.only ho (fun _ _ f => f)) (HR4.out.only ho (fun _ _ f => f)) hx (by unfold InI at ham; omega)).mono fun _ _ h => set_uni h)
  have HRS := Lib.hid (fun w' (ho : Only (fun _ => False) W2 w') => (rsettle_any D F T G1 M1 B1 G2 M2 B2 a3 a4 s1.length s2.length q3 q4 s1 s2 g un am now pos u fl w' (HR3.out.only ho (fun _ _ f => f)) (HR4.out.only ho (fun _ _ f => f)) hx (by unfold InI at ham; omega)).mono fun _ _ h => set_uni h)
  have HPO : Hid (∀ x ∈ (if stE D F T G1 M1 B1 G2 M2 B2 s1 s2 g un am now pos u = 0 then raL D F T G1 M1 B1 G2 M2 B2 s1 s2 now pos u else []), 0 < x.b) := Lib.hid (by
    split
    · exact ra_pos D F T G1 M1 B1 G2 M2 B2 s1 s2 now pos u
    · intro x hx; cases hx)
  have HLN : Hid ((if stE D F T G1 M1 B1 G2 M2 B2 s1 s2 g un am now pos u = 0 then raL D F T G1 M1 B1 G2 M2 B2 s1 s2 now pos u else []).length ≤ 1000) := Lib.hid (by
    split
    · exact (ra_len D F T G1 M1 B1 G2 M2 B2 s1 s2 now pos u).1
    · exact Nat.zero_le _)
  generalize (if stE D F T G1 M1 B1 G2 M2 B2 s1 s2 g un am now pos u = 0 then raL D F T G1 M1 B1 G2 M2 B2 s1 s2 now pos u else []) = L at *
  generalize (if stE D F T G1 M1 B1 G2 M2 B2 s1 s2 g un am now pos u = 0 then raK D F T G1 M1 B1 G2 M2 B2 s1 s2 now pos u else 0) = rk at *
  generalize (if stE D F T G1 M1 B1 G2 M2 B2 s1 s2 g un am now pos u = 0 then costB (raL D F T G1 M1 B1 G2 M2 B2 s1 s2 now pos u) else 0) = cb at *
  generalize (if stE D F T G1 M1 B1 G2 M2 B2 s1 s2 g un am now pos u = 0 then raP D F T G1 M1 B1 G2 M2 B2 s1 s2 now pos u else 0) = rp at *
  generalize (if stE D F T G1 M1 B1 G2 M2 B2 s1 s2 g un am now pos u = 0 then am - costB (raL D F T G1 M1 B1 G2 M2 B2 s1 s2 now pos u) else 0) = lf at *
  generalize stE D F T G1 M1 B1 G2 M2 B2 s1 s2 g un am now pos u = re at *
  obtain ⟨W3, hW3⟩ : ∃ W, W = W2.alloc (.cells #[.int .i64 g, .int .i64 un, .int .i64 am, .bool fl] 72) := ⟨_, rfl⟩
  have K3 : Hid (Only (fun _ => False) W2 W3) := Lib.hid (by rw [hW3]; exact (Only.refl _ _).alloc _)
  have HI3 : Hid (BoxV W3 w1.heap.size [.int .i64 g, .int .i64 un, .int .i64 am, .bool fl]) := Lib.hid (by rw [hW3]; exact BoxV.new _ [.int .i64 g, .int .i64 un, .int .i64 am, .bool fl] _ _ (by rw [hW2]; simp))
  obtain ⟨⟨z0, z1, z2, z3, z4, z5, z6, z7, z8, z9, z10⟩, y0, y1, y2, y3, y4, y5, y6, y7, y8, y9, y10⟩ := HB1.all
  have g0 := (HG2.out 0 _ rfl).1; have g1 := (HG2.out 1 _ rfl).1; have g2 := (HG2.out 2 _ rfl).1; have g3 := (HG2.out 3 _ rfl).1
  rw [hW2] at g0 g1 g2 g3
  rw [hW2] at hW3
  clear hr3 hr4 k1 hb3 hb4 HB1 HO2 HP2
  go_wp2_with fail
  rw [← hW3]
  clear hW3 hW2 z0 z1 z2 z3 z4 z5 z6 z7 z8 z9 z10 y0 y1 y2 y3 y4 y5 y6 y7 y8 y9 y10 g0 g1 g2 g3
  have HS : Hid (∀ w', Only (fun _ => False) W3 w' → Only (fun _ => False) W3 w' ∧ w'.cell? ⟨w.heap.size + 1, 0, none⟩ = some (.int .i64 D) ∧ w'.cell? ⟨w.heap.size + 1, 1, none⟩ = some (.int .i64 F) ∧ w'.cell? ⟨w.heap.size + 1, 2, none⟩ = some (.int .i64 T) ∧ w'.cell? ⟨w.heap.size + 1, 3, none⟩ = some (.int .i64 G1) ∧ w'.cell? ⟨w.heap.size + 1, 4, none⟩ = some (.int .i64 M1) ∧ w'.cell? ⟨w.heap.size + 1, 5, none⟩ = some (.int .i64 B1) ∧ w'.cell? ⟨w.heap.size + 1, 6, none⟩ = some (.slice a3 s1.length q3) ∧ w'.cell? ⟨w.heap.size + 1, 7, none⟩ = some (.int .i64 G2) ∧ w'.cell? ⟨w.heap.size + 1, 8, none⟩ = some (.int .i64 M2) ∧ w'.cell? ⟨w.heap.size + 1, 9, none⟩ = some (.int .i64 B2) ∧ w'.cell? ⟨w.heap.size + 1, 10, none⟩ = some (.slice a4 s2.length q4) ∧ w'.cell? ⟨w.heap.size + 2, 0, none⟩ = some (.int .i64 now) ∧ w'.cell? ⟨w.heap.size + 2, 1, none⟩ = some (.int .i64 pos) ∧ w'.cell? ⟨w.heap.size + 2, 2, none⟩ = some (.int .i64 u) ∧ w'.cell? ⟨w1.heap.size, 0, none⟩ = some (.int .i64 g) ∧ w'.cell? ⟨w1.heap.size, 1, none⟩ = some (.int .i64 un) ∧ w'.cell? ⟨w1.heap.size, 2, none⟩ = some (.int .i64 am) ∧ w'.cell? ⟨w1.heap.size, 3, none⟩ = some (.bool fl)) := Lib.hid (fun w' ho => by
    obtain ⟨⟨p0, p1, p2, p3, p4, p5, p6, p7, p8, p9, p10⟩, _⟩ := (HPB.out.only (K3.out.trans ho) (fun f => f)).all
    have hA := HA2.out.only (K3.out.trans ho) (fun f => f)
    have hI := HI3.out.only ho (fun f => f)
    exact ⟨ho, p0, p1, p2, p3, p4, p5, p6, p7, p8, p9, p10, (hA 0 _ rfl).1, (hA 1 _ rfl).1, (hA 2 _ rfl).1, (hI 0 _ rfl).1, (hI 1 _ rfl).1, (hI 2 _ rfl).1, (hI 3 _ rfl).1⟩)
  have HNZ : Hid (∀ (W W' : World), Only (fun _ => False) ((W.alloc (.cells #[.slice none 0 0, .int .i64 0, .int .i64 0, .int .i64 0] 34)).drew) W' → Zr4 W' W.heap.size) := Lib.hid (fun W W' ho => (Zr4.new W _).only ((Only.refl (fun _ => False) _).drew.trans ho) (fun f => f))
  have HNZ2 : Hid (∀ (W W' : World), Only (fun _ => False) (W.alloc (.cells #[.slice none 0 0, .int .i64 0, .int .i64 0, .int .i64 0] 34)) W' → Zr4 W' W.heap.size) := Lib.hid (fun W W' ho => (Zr4.new W _).only ho (fun f => f))
  have j0 : (0 : Int) < 3 := by decide
  have j1 : (1 : Int) < 3 := by decide
  have j2 : (2 : Int) < 3 := by decide
  go_region_held3 (fun w' => Only (fun _ => False) W3 w' ∧ w'.cell? ⟨w.heap.size + 1, 0, none⟩ = some (.int .i64 D) ∧ w'.cell? ⟨w.heap.size + 1, 1, none⟩ = some (.int .i64 F) ∧ w'.cell? ⟨w.heap.size + 1, 2, none⟩ = some (.int .i64 T) ∧ w'.cell? ⟨w.heap.size + 1, 3, none⟩ = some (.int .i64 G1) ∧ w'.cell? ⟨w.heap.size + 1, 4, none⟩ = some (.int .i64 M1) ∧ w'.cell? ⟨w.heap.size + 1, 5, none⟩ = some (.int .i64 B1) ∧ w'.cell? ⟨w.heap.size + 1, 6, none⟩ = some (.slice a3 s1.length q3) ∧ w'.cell? ⟨w.heap.size + 1, 7, none⟩ = some (.int .i64 G2) ∧ w'.cell? ⟨w.heap.size + 1, 8, none⟩ = some (.int .i64 M2) ∧ w'.cell? ⟨w.heap.size + 1, 9, none⟩ = some (.int .i64 B2) ∧ w'.cell? ⟨w.heap.size + 1, 10, none⟩ = some (.slice a4 s2.length q4) ∧ w'.cell? ⟨w.heap.size + 2, 0, none⟩ = some (.int .i64 now) ∧ w'.cell? ⟨w.heap.size + 2, 1, none⟩ = some (.int .i64 pos) ∧ w'.cell? ⟨w.heap.size + 2, 2, none⟩ = some (.int .i64 u) ∧ w'.cell? ⟨w1.heap.size, 0, none⟩ = some (.int .i64 g) ∧ w'.cell? ⟨w1.heap.size, 1, none⟩ = some (.int .i64 un) ∧ w'.cell? ⟨w1.heap.size, 2, none⟩ = some (.int .i64 am) ∧ w'.cell? ⟨w1.heap.size, 3, none⟩ = some (.bool fl))
    ((refine HS.out _ ?_; first | with_reducible exact Only.refl _ _ | with_reducible exact (Only.refl _ _).drew | with_reducible exact (Only.refl _ _).alloc _ | with_reducible exact ((Only.refl _ _).alloc _).drew | with_reducible exact ((Only.refl _ _).drew).alloc _ | with_reducible exact ((Only.refl _ _).drew).trans ho | with_reducible exact hot.out.alloc _ | with_reducible exact hot.out | exact puts_only _ [.slice al L.length cl, .int .i64 rk, .int .i64 cb, .int .i64 rp] 0 W3 _ hot.out (.inr (by first | exact Nat.le_refl _ | assumption))))
    (first | (go_at_call 41; (with_reducible refine (HTO.out _).mono ?_); rintro _ wn ⟨rfl, ho⟩; have hot := Lib.hid (show Only (fun _ => False) W3 wn from by go_split_ands; exact Only.trans (by assumption) ho); have hsz := hot.out.size; (try (with_reducible have hbx := HNZ.out _ _ ho)); (try (with_reducible have hbx := HNZ2.out _ _ ho)); (try (with_reducible have hbx := hbx.only ho (fun f => f)))) | (go_at_call 49; (with_reducible refine (HSE.out _ (K3.out.trans (by go_split_ands; assumption))).mono ?_); rintro _ wn ⟨al, cl, rfl, hrd, ho⟩; have hot := Lib.hid (show Only (fun _ => False) W3 wn from by go_split_ands; exact Only.trans (by assumption) ho); (try (with_reducible have hbx := HNZ.out _ _ ho)); (try (with_reducible have hbx := HNZ2.out _ _ ho)); (try (with_reducible have hbx := hbx.only ho (fun f => f))); (try (obtain ⟨⟨z0, z1, z2, z3⟩, y0, y1, y2, y3⟩ := hbx.all))))
  all_goals
    first
    | (obtain ⟨q, W4, hqq, hb, hW⟩ := rbox_put2 hbx hot.out (by first | exact Nat.le_refl _ | assumption) cl rk cb rp hrd HPO.out
       rw [hqq, ← hW])
    | (obtain ⟨q, W4, hqq, hb, hW⟩ := rbox_new2 hot.out cl rk cb rp 34 hrd
       rw [hqq, ← hW])
    clear hW hqq
    have HX4 := Lib.hid hb
    have K4 := Lib.hid (K3.out.trans hb.2.2.2)
    have HI4 := Lib.hid (HI3.out.only hb.2.2.2 (fun f => f))
    try clear hbx z0 z1 z2 z3 y0 y1 y2 y3
    clear ho hot hsz hrd hb
    obtain ⟨⟨p0, p1, p2, p3, p4, p5, p6, p7, p8, p9, p10⟩, _⟩ := (HPB.out.only K4.out (fun f => f)).all
    have ha := HA2.out.only K4.out (fun f => f)
    have x0 := (ha 0 _ rfl).1; have x1 := (ha 1 _ rfl).1; have x2 := (ha 2 _ rfl).1
    have hg := HG2.out.only K4.out (fun f => f)
    have g0 := (hg 0 _ rfl).1; have g1 := (hg 1 _ rfl).1; have g2 := (hg 2 _ rfl).1; have g3 := (hg 3 _ rfl).1
    clear ha hg
    go_wp2_with fail
    clear p0 p1 p2 p3 p4 p5 p6 p7 p8 p9 p10 x0 x1 x2 g0 g1 g2 g3
    refine (HRS.out _ K4.out).mono ?_
    rintro _ w5 ⟨bl, dl, rfl, hrd, k5⟩
    obtain ⟨W6, hb6, hW6⟩ := rbox_new k5 dl rk cb rp 38 hrd
    have K6 := Lib.hid (K4.out.trans hb6.2.2.2)
    have HX6 := Lib.hid (HX4.out.only hb6.2.2.2)
    have HI6 := Lib.hid (HI4.out.only hb6.2.2.2 (fun f => f))
    have HY6 := Lib.hid hb6
    clear k5 hrd hb6
    go_wp2_with fail
    rw [← hW6]
    clear hW6
    have HS5 : Hid (∀ w', Only (fun _ => False) W6 w' → Only (fun _ => False) W6 w' ∧ w'.cell? ⟨q, 0, none⟩ = some (.slice al L.length cl) ∧ w'.cell? ⟨q, 1, none⟩ = some (.int .i64 rk) ∧ w'.cell? ⟨q, 2, none⟩ = some (.int .i64 cb) ∧ w'.cell? ⟨q, 3, none⟩ = some (.int .i64 rp) ∧ w'.cell? ⟨w5.heap.size, 0, none⟩ = some (.slice bl L.length dl) ∧ w'.cell? ⟨w5.heap.size, 1, none⟩ = some (.int .i64 rk) ∧ w'.cell? ⟨w5.heap.size, 2, none⟩ = some (.int .i64 cb) ∧ w'.cell? ⟨w5.heap.size, 3, none⟩ = some (.int .i64 rp) ∧ w'.cell? ⟨w1.heap.size, 0, none⟩ = some (.int .i64 g) ∧ w'.cell? ⟨w1.heap.size, 1, none⟩ = some (.int .i64 un) ∧ w'.cell? ⟨w1.heap.size, 2, none⟩ = some (.int .i64 am) ∧ w'.cell? ⟨w1.heap.size, 3, none⟩ = some (.bool fl) ∧ w'.cell? ⟨w.heap.size, 0, none⟩ = some (.int .i64 g) ∧ w'.cell? ⟨w.heap.size, 1, none⟩ = some (.int .i64 un) ∧ w'.cell? ⟨w.heap.size, 2, none⟩ = some (.int .i64 am) ∧ w'.cell? ⟨w.heap.size, 3, none⟩ = some (.bool fl)) := Lib.hid (fun w' ho => by
      obtain ⟨r0, r1, r2, r3⟩ := (HX6.out.only ho).all
      obtain ⟨v0, v1, v2, v3⟩ := (HY6.out.only ho).all
      have hI := HI6.out.only ho (fun f => f)
      have hg := HG2.out.only (K6.out.trans ho) (fun f => f)
      exact ⟨ho, r0, r1, r2, r3, v0, v1, v2, v3, (hI 0 _ rfl).1, (hI 1 _ rfl).1, (hI 2 _ rfl).1, (hI 3 _ rfl).1, (hg 0 _ rfl).1, (hg 1 _ rfl).1, (hg 2 _ rfl).1, (hg 3 _ rfl).1⟩)
    have HSM := Lib.hid (fun w' (ho : Only (fun _ => False) W6 w') => lsame_yes al bl L.length cl dl L w' (HX6.out.only ho).2.1 (HY6.out.only ho).2.1 HLN.out)
    have HNG := Lib.hid (fun (W W' : World) (ho : Only (fun _ => False) (W.alloc (.cells #[.int .i64 g, .int .i64 un, .int .i64 am, .bool fl, .int .i64 g, .int .i64 un, .int .i64 am, .bool fl] 72)) W') => two_new W W' ⟨g, un, am, fl⟩ _ ho)
    have HNR := Lib.hid (fun (W W' : World) (ho : Only (fun _ => False) (W.alloc (.cells #[.int .i64 g, .int .i64 un, .int .i64 am, .bool fl, .int .i64 g, .int .i64 un, .int .i64 am, .bool fl] 75)) W') => two_new W W' ⟨g, un, am, fl⟩ _ ho)
    have hai : ∀ x ∈ [(⟨g, un, am, fl⟩ : Gr), ⟨g, un, am, fl⟩], InI x.a := fun x hx => by
      simp at hx
      subst hx
      exact ham
    have HHA := Lib.hid (fun (W : World) => held_any (some ⟨W.heap.size, 0, none⟩) 2 2 [⟨g, un, am, fl⟩, ⟨g, un, am, fl⟩] (W.alloc (.cells #[.int .i64 g, .int .i64 un, .int .i64 am, .bool fl, .int .i64 g, .int .i64 un, .int .i64 am, .bool fl] 72)) (HNG.out W _ (Only.refl _ _)) hai (by omega))
    have HHB := Lib.hid (fun (W : World) => held_any (some ⟨W.heap.size, 0, none⟩) 2 2 [⟨g, un, am, fl⟩, ⟨g, un, am, fl⟩] ((W.alloc (.cells #[.int .i64 g, .int .i64 un, .int .i64 am, .bool fl, .int .i64 g, .int .i64 un, .int .i64 am, .bool fl] 72)).alloc (.cells #[.int .i64 g, .int .i64 un, .int .i64 am, .bool fl, .int .i64 g, .int .i64 un, .int .i64 am, .bool fl] 75)) (HNG.out W _ ((Only.refl _ _).alloc _)) hai (by omega))
    have HHC := Lib.hid (fun (W : World) => held_any (some ⟨W.heap.size + 1, 0, none⟩) 2 2 [⟨g, un, am, fl⟩, ⟨g, un, am, fl⟩] ((W.alloc (.cells #[.int .i64 g, .int .i64 un, .int .i64 am, .bool fl, .int .i64 g, .int .i64 un, .int .i64 am, .bool fl] 75)).alloc (.cells #[.int .i64 g, .int .i64 un, .int .i64 am, .bool fl, .int .i64 g, .int .i64 un, .int .i64 am, .bool fl] 72)) ((by have h := HNG.out (W.alloc (.cells #[.int .i64 g, .int .i64 un, .int .i64 am, .bool fl, .int .i64 g, .int .i64 un, .int .i64 am, .bool fl] 75)) _ (Only.refl _ _); rwa [size_alloc] at h)) hai (by omega))
    have HRA := Lib.hid (fun (W : World) => rheld_any (some ⟨W.heap.size, 0, none⟩) 2 2 [⟨g, un, am, fl⟩, ⟨g, un, am, fl⟩] (W.alloc (.cells #[.int .i64 g, .int .i64 un, .int .i64 am, .bool fl, .int .i64 g, .int .i64 un, .int .i64 am, .bool fl] 75)) (HNR.out W _ (Only.refl _ _)) hai (by omega))
    have HRB := Lib.hid (fun (W w9 : World) (ho : Only (fun _ => False) ((W.alloc (.cells #[.int .i64 g, .int .i64 un, .int .i64 am, .bool fl, .int .i64 g, .int .i64 un, .int .i64 am, .bool fl] 72)).alloc (.cells #[.int .i64 g, .int .i64 un, .int .i64 am, .bool fl, .int .i64 g, .int .i64 un, .int .i64 am, .bool fl] 75)) w9) => rheld_any (some ⟨W.heap.size + 1, 0, none⟩) 2 2 [⟨g, un, am, fl⟩, ⟨g, un, am, fl⟩] w9 ((by have h := HNR.out (W.alloc (.cells #[.int .i64 g, .int .i64 un, .int .i64 am, .bool fl, .int .i64 g, .int .i64 un, .int .i64 am, .bool fl] 72)) _ ho; rwa [size_alloc] at h)) hai (by omega))
    have HRC := Lib.hid (fun (W w9 : World) (ho : Only (fun _ => False) ((W.alloc (.cells #[.int .i64 g, .int .i64 un, .int .i64 am, .bool fl, .int .i64 g, .int .i64 un, .int .i64 am, .bool fl] 75)).alloc (.cells #[.int .i64 g, .int .i64 un, .int .i64 am, .bool fl, .int .i64 g, .int .i64 un, .int .i64 am, .bool fl] 72)) w9) => rheld_any (some ⟨W.heap.size, 0, none⟩) 2 2 [⟨g, un, am, fl⟩, ⟨g, un, am, fl⟩] w9 (HNR.out W _ (((Only.refl _ _).alloc _).trans ho)) hai (by omega))
    generalize intOr (([⟨g, un, am, fl⟩, ⟨g, un, am, fl⟩] : List Gr).map Gr.a).sum = hv at *
    have e1 : (re == re) = true := by simp
    have e2 : (lf == lf) = true := by simp
    have e3 : (cb == cb) = true := by simp
    have e4 : (rk == rk) = true := by simp
    have e5 : (rp == rp) = true := by simp
    have e6 : (hv == hv) = true := by simp
    have HOF := Lib.hid (fun w' (ho : Only (fun _ => False) W6 w') => HOW.out.trans (K6.out.trans ho))
    clear HSE HRS HS HNZ HNZ2 hai j0 j1 j2 HNG HNR
    refine wp_region_noPanic ?_
    refine wp_region_held_drew (S := (fun w' => Only (fun _ => False) W6 w' ∧ w'.cell? ⟨q, 0, none⟩ = some (.slice al L.length cl) ∧ w'.cell? ⟨q, 1, none⟩ = some (.int .i64 rk) ∧ w'.cell? ⟨q, 2, none⟩ = some (.int .i64 cb) ∧ w'.cell? ⟨q, 3, none⟩ = some (.int .i64 rp) ∧ w'.cell? ⟨w5.heap.size, 0, none⟩ = some (.slice bl L.length dl) ∧ w'.cell? ⟨w5.heap.size, 1, none⟩ = some (.int .i64 rk) ∧ w'.cell? ⟨w5.heap.size, 2, none⟩ = some (.int .i64 cb) ∧ w'.cell? ⟨w5.heap.size, 3, none⟩ = some (.int .i64 rp) ∧ w'.cell? ⟨w1.heap.size, 0, none⟩ = some (.int .i64 g) ∧ w'.cell? ⟨w1.heap.size, 1, none⟩ = some (.int .i64 un) ∧ w'.cell? ⟨w1.heap.size, 2, none⟩ = some (.int .i64 am) ∧ w'.cell? ⟨w1.heap.size, 3, none⟩ = some (.bool fl) ∧ w'.cell? ⟨w.heap.size, 0, none⟩ = some (.int .i64 g) ∧ w'.cell? ⟨w.heap.size, 1, none⟩ = some (.int .i64 un) ∧ w'.cell? ⟨w.heap.size, 2, none⟩ = some (.int .i64 am) ∧ w'.cell? ⟨w.heap.size, 3, none⟩ = some (.bool fl))) (by kernel_rfl) (HS5.out _ (Only.refl _ _).drew) (fun hHeld => ?_)
    have hot := Lib.hid ((Only.refl (fun _ => False) W6).drew)
    refine wpAnyH_ready (rs := [0]) (by kernel_rfl) (by simp) ?_
    refine AllReadyH.cons rfl (fun K hK => ?_) AllReadyH.nil
    try simp only [List.getElem_toArray, List.getElem_cons_zero]
    go_simp
    go_at_call 43
    first
    | (with_reducible refine (grants_any _).mono ?_)
    rintro _ wn ⟨rfl, ho⟩
    have hot := Lib.hid (hot.out.trans ho)
    try dsimp only
    refine hK.out _ _ (HS5.out _ hot.out) (fun hHeld22 => ?_)
    clear hK K
    try simp only [List.getElem_toArray, List.getElem_cons_zero, Act.put, List.setIfInBounds_toArray, List.set_cons_zero, List.set_cons_succ]
    refine wpAnyH_take (i := 1) (v := ?_) rfl (by kernel_rfl) (by kernel_rfl) (by kernel_rfl) (fun _ _ _ h => h) (Or.inl ⟨by rfl, ?_⟩) (by assumption) ?_
    rotate_left 1
    · intro w' hSw
      try dsimp only at hSw
      go_simp
      try with_reducible rfl
    try simp only [List.getElem_toArray, List.getElem_cons_zero, List.getElem_cons_succ, Act.put, List.setIfInBounds_toArray, List.set_cons_zero, List.set_cons_succ]
    refine wpAnyH_take (i := 2) (v := ?_) rfl (by kernel_rfl) (by kernel_rfl) (by kernel_rfl) (fun _ _ _ h => h) (Or.inl ⟨by rfl, ?_⟩) (by assumption) ?_
    rotate_left 1
    · intro w' hSw
      try dsimp only at hSw
      go_simp
      try with_reducible rfl
    try simp only [List.getElem_toArray, List.getElem_cons_zero, List.getElem_cons_succ, Act.put, List.setIfInBounds_toArray, List.set_cons_zero, List.set_cons_succ]
    refine wpAnyH_take (i := 3) (v := ?_) rfl (by kernel_rfl) (by kernel_rfl) (by kernel_rfl) (fun _ _ _ h => h) (Or.inl ⟨by rfl, ?_⟩) (by assumption) ?_
    rotate_left 1
    · intro w' hSw
      try dsimp only at hSw
      go_simp
      try with_reducible rfl
    try simp only [List.getElem_toArray, List.getElem_cons_zero, List.getElem_cons_succ, Act.put, List.setIfInBounds_toArray, List.set_cons_zero, List.set_cons_succ]
    refine wpAnyH_take (i := 4) (v := ?_) rfl (by kernel_rfl) (by kernel_rfl) (by kernel_rfl) (fun _ _ _ h => h) (Or.inl ⟨by rfl, ?_⟩) (by assumption) ?_
    rotate_left 1
    · intro w' hSw
      try dsimp only at hSw
      go_simp
      try with_reducible rfl
    try simp only [List.getElem_toArray, List.getElem_cons_zero, List.getElem_cons_succ, Act.put, List.setIfInBounds_toArray, List.set_cons_zero, List.set_cons_succ]
    refine wpAnyH_take (i := 5) (v := ?_) rfl (by kernel_rfl) (by kernel_rfl) (by kernel_rfl) (fun _ _ _ h => h) (Or.inl ⟨by rfl, ?_⟩) (by assumption) ?_
    rotate_left 1
    · intro w' hSw
      try dsimp only at hSw
      go_simp
      try with_reducible rfl
    try simp only [List.getElem_toArray, List.getElem_cons_zero, List.getElem_cons_succ, Act.put, List.setIfInBounds_toArray, List.set_cons_zero, List.set_cons_succ]
    refine wpAnyH_take (i := 6) (v := ?_) rfl (by kernel_rfl) (by kernel_rfl) (by kernel_rfl) (fun _ _ _ h => h) (Or.inl ⟨by rfl, ?_⟩) (by assumption) ?_
    rotate_left 1
    · intro w' hSw
      try dsimp only at hSw
      go_simp
      try with_reducible rfl
    try simp only [List.getElem_toArray, List.getElem_cons_zero, List.getElem_cons_succ, Act.put, List.setIfInBounds_toArray, List.set_cons_zero, List.set_cons_succ]
    refine wpAnyH_take (i := 7) (v := ?_) rfl (by kernel_rfl) (by kernel_rfl) (by kernel_rfl) (fun _ _ _ h => h) (Or.inl ⟨by rfl, ?_⟩) (by assumption) ?_
    rotate_left 1
    · intro w' hSw
      try dsimp only at hSw
      go_simp
      try with_reducible rfl
    try simp only [List.getElem_toArray, List.getElem_cons_zero, List.getElem_cons_succ, Act.put, List.setIfInBounds_toArray, List.set_cons_zero, List.set_cons_succ]
    refine wpAnyH_take (i := 8) (v := ?_) rfl (by kernel_rfl) (by kernel_rfl) (by kernel_rfl) (fun _ _ _ h => h) (Or.inl ⟨by rfl, ?_⟩) (by assumption) ?_
    rotate_left 1
    · intro w' hSw
      try dsimp only at hSw
      go_simp
      try with_reducible rfl
    try simp only [List.getElem_toArray, List.getElem_cons_zero, List.getElem_cons_succ, Act.put, List.setIfInBounds_toArray, List.set_cons_zero, List.set_cons_succ]
    refine wpAnyH_take (i := 9) (v := ?_) rfl (by kernel_rfl) (by kernel_rfl) (by kernel_rfl) (fun _ _ _ h => h) (Or.inl ⟨by rfl, ?_⟩) (by assumption) ?_
    rotate_left 1
    · intro w' hSw
      try dsimp only at hSw
      go_simp
      try with_reducible rfl
    try simp only [List.getElem_toArray, List.getElem_cons_zero, List.getElem_cons_succ, Act.put, List.setIfInBounds_toArray, List.set_cons_zero, List.set_cons_succ]
    refine wpAnyH_take (i := 10) (v := ?_) rfl (by kernel_rfl) (by kernel_rfl) (by kernel_rfl) (fun _ _ _ h => h) (Or.inl ⟨by rfl, ?_⟩) (by assumption) ?_
    rotate_left 1
    · intro w' hSw
      try dsimp only at hSw
      go_simp
      try with_reducible rfl
    try simp only [List.getElem_toArray, List.getElem_cons_zero, List.getElem_cons_succ, Act.put, List.setIfInBounds_toArray, List.set_cons_zero, List.set_cons_succ]
    refine wpAnyH_take (i := 11) (v := ?_) rfl (by kernel_rfl) (by kernel_rfl) (by kernel_rfl) (fun _ _ _ h => h) (Or.inl ⟨by rfl, ?_⟩) (by assumption) ?_
    rotate_left 1
    · intro w' hSw
      try dsimp only at hSw
      go_simp
      try with_reducible rfl
    try simp only [List.getElem_toArray, List.getElem_cons_zero, List.getElem_cons_succ, Act.put, List.setIfInBounds_toArray, List.set_cons_zero, List.set_cons_succ]
    refine wpAnyH_take (i := 12) (v := ?_) rfl (by kernel_rfl) (by kernel_rfl) (by kernel_rfl) (fun _ _ _ h => h) (Or.inl ⟨by rfl, ?_⟩) (by assumption) ?_
    rotate_left 1
    · intro w' hSw
      try dsimp only at hSw
      go_simp
      try with_reducible rfl
    try simp only [List.getElem_toArray, List.getElem_cons_zero, List.getElem_cons_succ, Act.put, List.setIfInBounds_toArray, List.set_cons_zero, List.set_cons_succ]
    refine wpAnyH_take (i := 13) (v := ?_) rfl (by kernel_rfl) (by kernel_rfl) (by kernel_rfl) (fun _ _ _ h => h) (Or.inl ⟨by rfl, ?_⟩) (by assumption) ?_
    rotate_left 1
    · intro w' hSw
      try dsimp only at hSw
      go_simp
      try with_reducible rfl
    try simp only [List.getElem_toArray, List.getElem_cons_zero, List.getElem_cons_succ, Act.put, List.setIfInBounds_toArray, List.set_cons_zero, List.set_cons_succ]
    refine wpAnyH_take (i := 14) (v := ?_) rfl (by kernel_rfl) (by kernel_rfl) (by kernel_rfl) (fun _ _ _ h => h) (Or.inl ⟨by rfl, ?_⟩) (by assumption) ?_
    rotate_left 1
    · intro w' hSw
      try dsimp only at hSw
      go_simp
      try with_reducible rfl
    try simp only [List.getElem_toArray, List.getElem_cons_zero, List.getElem_cons_succ, Act.put, List.setIfInBounds_toArray, List.set_cons_zero, List.set_cons_succ]
    refine wpAnyH_take (i := 15) (v := ?_) rfl (by kernel_rfl) (by kernel_rfl) (by kernel_rfl) (fun _ _ _ h => h) (Or.inl ⟨by rfl, ?_⟩) (by assumption) ?_
    rotate_left 1
    · intro w' hSw
      try dsimp only at hSw
      go_simp
      try with_reducible rfl
    try simp only [List.getElem_toArray, List.getElem_cons_zero, List.getElem_cons_succ, Act.put, List.setIfInBounds_toArray, List.set_cons_zero, List.set_cons_succ]
    refine wpAnyH_take (i := 16) (v := ?_) rfl (by kernel_rfl) (by kernel_rfl) (by kernel_rfl) (fun _ _ _ h => h) (Or.inl ⟨by rfl, ?_⟩) (by assumption) ?_
    rotate_left 1
    · intro w' hSw
      try dsimp only at hSw
      go_simp
      try with_reducible rfl
    try simp only [List.getElem_toArray, List.getElem_cons_zero, List.getElem_cons_succ, Act.put, List.setIfInBounds_toArray, List.set_cons_zero, List.set_cons_succ]
    refine wpAnyH_take (i := 17) (v := ?_) rfl (by kernel_rfl) (by kernel_rfl) (by kernel_rfl) (fun _ _ _ h => h) (Or.inl ⟨by rfl, ?_⟩) (by assumption) ?_
    rotate_left 1
    · intro w' hSw
      try dsimp only at hSw
      go_simp
      try with_reducible rfl
    try simp only [List.getElem_toArray, List.getElem_cons_zero, List.getElem_cons_succ, Act.put, List.setIfInBounds_toArray, List.set_cons_zero, List.set_cons_succ]
    refine wpAnyH_take (i := 18) (v := ?_) rfl (by kernel_rfl) (by kernel_rfl) (by kernel_rfl) (fun _ _ _ h => h) (Or.inl ⟨by rfl, ?_⟩) (by assumption) ?_
    rotate_left 1
    · intro w' hSw
      try dsimp only at hSw
      go_simp
      try with_reducible rfl
    try simp only [List.getElem_toArray, List.getElem_cons_zero, List.getElem_cons_succ, Act.put, List.setIfInBounds_toArray, List.set_cons_zero, List.set_cons_succ]
    refine wpAnyH_take (i := 19) (v := ?_) rfl (by kernel_rfl) (by kernel_rfl) (by kernel_rfl) (fun _ _ _ h => h) (Or.inl ⟨by rfl, ?_⟩) (by assumption) ?_
    rotate_left 1
    · intro w' hSw
      try dsimp only at hSw
      go_simp
      try with_reducible rfl
    try simp only [List.getElem_toArray, List.getElem_cons_zero, List.getElem_cons_succ, Act.put, List.setIfInBounds_toArray, List.set_cons_zero, List.set_cons_succ]
    refine wpAnyH_take (i := 20) (v := ?_) rfl (by kernel_rfl) (by kernel_rfl) (by kernel_rfl) (fun _ _ _ h => h) (Or.inl ⟨by rfl, ?_⟩) (by assumption) ?_
    rotate_left 1
    · intro w' hSw
      try dsimp only at hSw
      go_simp
      try with_reducible rfl
    try simp only [List.getElem_toArray, List.getElem_cons_zero, List.getElem_cons_succ, Act.put, List.setIfInBounds_toArray, List.set_cons_zero, List.set_cons_succ]
    refine wpAnyH_take (i := 21) (v := ?_) rfl (by kernel_rfl) (by kernel_rfl) (by kernel_rfl) (fun _ _ _ h => h) (Or.inl ⟨by rfl, ?_⟩) (by assumption) ?_
    rotate_left 1
    · intro w' hSw
      try dsimp only at hSw
      go_simp
      try with_reducible rfl
    try simp only [List.getElem_toArray, List.getElem_cons_zero, List.getElem_cons_succ, Act.put, List.setIfInBounds_toArray, List.set_cons_zero, List.set_cons_succ]
    refine wpAnyH_take (i := 22) (v := ?_) rfl (by kernel_rfl) (by kernel_rfl) (by kernel_rfl) (fun _ _ _ h => h) (Or.inl ⟨by rfl, ?_⟩) (by assumption) ?_
    rotate_left 1
    · intro w' hSw
      try dsimp only at hSw
      go_simp
      try with_reducible rfl
    try simp only [List.getElem_toArray, List.getElem_cons_zero, List.getElem_cons_succ, Act.put, List.setIfInBounds_toArray, List.set_cons_zero, List.set_cons_succ]
    refine wpAnyH_take (i := 23) (v := ?_) rfl (by kernel_rfl) (by kernel_rfl) (by kernel_rfl) (fun _ _ _ h => h) (Or.inl ⟨by rfl, ?_⟩) (by assumption) ?_
    rotate_left 1
    · intro w' hSw
      try dsimp only at hSw
      go_simp
      try with_reducible rfl
    try simp only [List.getElem_toArray, List.getElem_cons_zero, List.getElem_cons_succ, Act.put, List.setIfInBounds_toArray, List.set_cons_zero, List.set_cons_succ]
    refine wpAnyH_take (i := 24) (v := ?_) rfl (by kernel_rfl) (by kernel_rfl) (by kernel_rfl) (fun _ _ _ h => h) (Or.inl ⟨by rfl, ?_⟩) (by assumption) ?_
    rotate_left 1
    · intro w' hSw
      try dsimp only at hSw
      go_simp
      try with_reducible rfl
    try simp only [List.getElem_toArray, List.getElem_cons_zero, List.getElem_cons_succ, Act.put, List.setIfInBounds_toArray, List.set_cons_zero, List.set_cons_succ]
    refine wpAnyH_take (i := 25) (v := ?_) rfl (by kernel_rfl) (by kernel_rfl) (by kernel_rfl) (fun _ _ _ h => h) (Or.inl ⟨by rfl, ?_⟩) (by assumption) ?_
    rotate_left 1
    · intro w' hSw
      try dsimp only at hSw
      go_simp
      try with_reducible rfl
    try simp only [List.getElem_toArray, List.getElem_cons_zero, List.getElem_cons_succ, Act.put, List.setIfInBounds_toArray, List.set_cons_zero, List.set_cons_succ]
    refine wpAnyH_take (i := 26) (v := ?_) rfl (by kernel_rfl) (by kernel_rfl) (by kernel_rfl) (fun _ _ _ h => h) (Or.inl ⟨by rfl, ?_⟩) (by assumption) ?_
    rotate_left 1
    · intro w' hSw
      try dsimp only at hSw
      go_simp
      try with_reducible rfl
    try simp only [List.getElem_toArray, List.getElem_cons_zero, List.getElem_cons_succ, Act.put, List.setIfInBounds_toArray, List.set_cons_zero, List.set_cons_succ]
    refine wpAnyH_take (i := 27) (v := ?_) rfl (by kernel_rfl) (by kernel_rfl) (by kernel_rfl) (fun _ _ _ h => h) (Or.inl ⟨by rfl, ?_⟩) (by assumption) ?_
    rotate_left 1
    · intro w' hSw
      try dsimp only at hSw
      go_simp
      try with_reducible rfl
    try simp only [List.getElem_toArray, List.getElem_cons_zero, List.getElem_cons_succ, Act.put, List.setIfInBounds_toArray, List.set_cons_zero, List.set_cons_succ]
    refine wpAnyH_take (i := 28) (v := ?_) rfl (by kernel_rfl) (by kernel_rfl) (by kernel_rfl) (fun _ _ _ h => h) (Or.inl ⟨by rfl, ?_⟩) (by assumption) ?_
    rotate_left 1
    · intro w' hSw
      try dsimp only at hSw
      go_simp
      try with_reducible rfl
    try simp only [List.getElem_toArray, List.getElem_cons_zero, List.getElem_cons_succ, Act.put, List.setIfInBounds_toArray, List.set_cons_zero, List.set_cons_succ]
    refine wpAnyH_take (i := 29) (v := ?_) rfl (by kernel_rfl) (by kernel_rfl) (by kernel_rfl) (fun _ _ _ h => h) (Or.inl ⟨by rfl, ?_⟩) (by assumption) ?_
    rotate_left 1
    · intro w' hSw
      try dsimp only at hSw
      go_simp
      try with_reducible rfl
    try simp only [List.getElem_toArray, List.getElem_cons_zero, List.getElem_cons_succ, Act.put, List.setIfInBounds_toArray, List.set_cons_zero, List.set_cons_succ]
    refine wpAnyH_take (i := 30) (v := ?_) rfl (by kernel_rfl) (by kernel_rfl) (by kernel_rfl) (fun _ _ _ h => h) (Or.inl ⟨by rfl, ?_⟩) (by assumption) ?_
    rotate_left 1
    · intro w' hSw
      try dsimp only at hSw
      go_simp
      try with_reducible rfl
    try simp only [List.getElem_toArray, List.getElem_cons_zero, List.getElem_cons_succ, Act.put, List.setIfInBounds_toArray, List.set_cons_zero, List.set_cons_succ]
    refine wpAnyH_take (i := 31) (v := ?_) rfl (by kernel_rfl) (by kernel_rfl) (by kernel_rfl) (fun _ _ _ h => h) (Or.inl ⟨by rfl, ?_⟩) (by assumption) ?_
    rotate_left 1
    · intro w' hSw
      try dsimp only at hSw
      go_simp
      try with_reducible rfl
    try simp only [List.getElem_toArray, List.getElem_cons_zero, List.getElem_cons_succ, Act.put, List.setIfInBounds_toArray, List.set_cons_zero, List.set_cons_succ]
    refine wpAnyH_take (i := 32) (v := ?_) rfl (by kernel_rfl) (by kernel_rfl) (by kernel_rfl) (fun _ _ _ h => h) (Or.inl ⟨by rfl, ?_⟩) (by assumption) ?_
    rotate_left 1
    · intro w' hSw
      try dsimp only at hSw
      go_simp
      try with_reducible rfl
    try simp only [List.getElem_toArray, List.getElem_cons_zero, List.getElem_cons_succ, Act.put, List.setIfInBounds_toArray, List.set_cons_zero, List.set_cons_succ]
    refine wpAnyH_take (i := 33) (v := ?_) rfl (by kernel_rfl) (by kernel_rfl) (by kernel_rfl) (fun _ _ _ h => h) (Or.inl ⟨by rfl, ?_⟩) (by assumption) ?_
    rotate_left 1
    · intro w' hSw
      try dsimp only at hSw
      go_simp
      try with_reducible rfl
    try simp only [List.getElem_toArray, List.getElem_cons_zero, List.getElem_cons_succ, Act.put, List.setIfInBounds_toArray, List.set_cons_zero, List.set_cons_succ]
    refine wpAnyH_take (i := 34) (v := ?_) rfl (by kernel_rfl) (by kernel_rfl) (by kernel_rfl) (fun _ _ _ h => h) (Or.inl ⟨by rfl, ?_⟩) (by assumption) ?_
    rotate_left 1
    · intro w' hSw
      try dsimp only at hSw
      go_simp
      try with_reducible rfl
    try simp only [List.getElem_toArray, List.getElem_cons_zero, List.getElem_cons_succ, Act.put, List.setIfInBounds_toArray, List.set_cons_zero, List.set_cons_succ]
    refine wpAnyH_take (i := 35) (v := ?_) rfl (by kernel_rfl) (by kernel_rfl) (by kernel_rfl) (fun _ _ _ h => h) (Or.inl ⟨by rfl, ?_⟩) (by assumption) ?_
    rotate_left 1
    · intro w' hSw
      try dsimp only at hSw
      go_simp
      try with_reducible rfl
    try simp only [List.getElem_toArray, List.getElem_cons_zero, List.getElem_cons_succ, Act.put, List.setIfInBounds_toArray, List.set_cons_zero, List.set_cons_succ]
    refine wpAnyH_take (i := 36) (v := ?_) rfl (by kernel_rfl) (by kernel_rfl) (by kernel_rfl) (fun _ _ _ h => h) (Or.inl ⟨by rfl, ?_⟩) (by assumption) ?_
    rotate_left 1
    · intro w' hSw
      try dsimp only at hSw
      go_simp
      try with_reducible rfl
    try simp only [List.getElem_toArray, List.getElem_cons_zero, List.getElem_cons_succ, Act.put, List.setIfInBounds_toArray, List.set_cons_zero, List.set_cons_succ]
    refine wpAnyH_ready (rs := [37]) (by kernel_rfl) (by simp) ?_
    refine AllReadyH.cons rfl (fun K hK => ?_) AllReadyH.nil
    try simp only [List.getElem_toArray, List.getElem_cons_zero, List.getElem_cons_succ]
    go_simp
    go_at_call 24
    first
    | (with_reducible refine (HSM.out _ hot.out).mono ?_)
    rintro _ wn ⟨rfl, ho⟩
    have hot := Lib.hid (hot.out.trans ho)
    try dsimp only
    refine hK.out _ _ (HS5.out _ hot.out) (fun hHeld23 => ?_)
    clear hK K
    try simp only [List.getElem_toArray, List.getElem_cons_zero, List.getElem_cons_succ, Act.put, List.setIfInBounds_toArray, List.set_cons_zero, List.set_cons_succ]
    refine wpAnyH_take (i := 38) (v := ?_) rfl (by kernel_rfl) (by kernel_rfl) (by kernel_rfl) (fun _ _ _ h => h) (Or.inl ⟨by rfl, ?_⟩) (by assumption) ?_
    rotate_left 1
    · intro w' hSw
      try dsimp only at hSw
      go_simp
      try with_reducible rfl
    try simp only [List.getElem_toArray, List.getElem_cons_zero, List.getElem_cons_succ, Act.put, List.setIfInBounds_toArray, List.set_cons_zero, List.set_cons_succ]
    refine wpAnyH_take (i := 39) (v := ?_) rfl (by kernel_rfl) (by kernel_rfl) (by kernel_rfl) (fun _ _ _ h => h) (Or.inl ⟨by rfl, ?_⟩) (by assumption) ?_
    rotate_left 1
    · intro w' hSw
      try dsimp only at hSw
      go_simp
      try with_reducible rfl
    try simp only [List.getElem_toArray, List.getElem_cons_zero, List.getElem_cons_succ, Act.put, List.setIfInBounds_toArray, List.set_cons_zero, List.set_cons_succ]
    refine wpAnyH_take (i := 40) (v := ?_) rfl (by kernel_rfl) (by kernel_rfl) (by kernel_rfl) (fun _ _ _ h => h) (Or.inl ⟨by rfl, ?_⟩) (by assumption) ?_
    rotate_left 1
    · intro w' hSw
      try dsimp only at hSw
      go_simp
      try with_reducible rfl
    try simp only [List.getElem_toArray, List.getElem_cons_zero, List.getElem_cons_succ, Act.put, List.setIfInBounds_toArray, List.set_cons_zero, List.set_cons_succ]
    refine wpAnyH_take (i := 41) (v := ?_) rfl (by kernel_rfl) (by kernel_rfl) (by kernel_rfl) (fun _ _ _ h => h) (Or.inl ⟨by rfl, ?_⟩) (by assumption) ?_
    rotate_left 1
    · intro w' hSw
      try dsimp only at hSw
      go_simp
      try with_reducible rfl
    try simp only [List.getElem_toArray, List.getElem_cons_zero, List.getElem_cons_succ, Act.put, List.setIfInBounds_toArray, List.set_cons_zero, List.set_cons_succ]
    refine wpAnyH_take (i := 44) (v := ?_) rfl (by kernel_rfl) (by kernel_rfl) (by kernel_rfl) (fun _ _ _ h => h) (Or.inl ⟨by rfl, ?_⟩) (by assumption) ?_
    rotate_left 1
    · intro w' hSw
      try dsimp only at hSw
      go_simp
      try with_reducible rfl
    try simp only [List.getElem_toArray, List.getElem_cons_zero, List.getElem_cons_succ, Act.put, List.setIfInBounds_toArray, List.set_cons_zero, List.set_cons_succ]
    refine wpAnyH_take (i := 45) (v := ?_) rfl (by kernel_rfl) (by kernel_rfl) (by kernel_rfl) (fun _ _ _ h => h) (Or.inl ⟨by rfl, ?_⟩) (by assumption) ?_
    rotate_left 1
    · intro w' hSw
      try dsimp only at hSw
      go_simp
      try with_reducible rfl
    try simp only [List.getElem_toArray, List.getElem_cons_zero, List.getElem_cons_succ, Act.put, List.setIfInBounds_toArray, List.set_cons_zero, List.set_cons_succ]
    refine wpAnyH_ready (rs := [42, 46]) (by kernel_rfl) (by simp) ?_
    refine AllReadyH.cons rfl (fun K hK => ?_) (AllReadyH.cons rfl (fun K hK => ?_) AllReadyH.nil)
    · try simp only [List.getElem_toArray, List.getElem_cons_zero, List.getElem_cons_succ]
      go_simp
      refine hK.out _ _ (HS5.out _ (hot.out.alloc _)) (fun hHeld21 => ?_)
      clear hK K
      have hot := Lib.hid (show Only (fun _ => False) W6 _ from hHeld21.1)
      try simp only [List.getElem_toArray, List.getElem_cons_zero, List.getElem_cons_succ, Act.put, List.setIfInBounds_toArray, List.set_cons_zero, List.set_cons_succ]
      refine wpAnyH_ready (rs := [43, 46]) (by kernel_rfl) (by simp) ?_
      refine AllReadyH.cons rfl (fun K hK => ?_) (AllReadyH.cons rfl (fun K hK => ?_) AllReadyH.nil)
      · try simp only [List.getElem_toArray, List.getElem_cons_zero, List.getElem_cons_succ]
        go_simp
        go_at_call 47
        first
        | (with_reducible refine (HHA.out _).mono ?_)
        | (with_reducible refine (HHB.out _).mono ?_)
        | (with_reducible refine (HHC.out _).mono ?_)
        rintro _ wn ⟨rfl, ho⟩
        have hot := Lib.hid (hot.out.trans ho)
        try dsimp only
        refine hK.out _ _ (HS5.out _ hot.out) (fun hHeld11 => ?_)
        clear hK K
        try simp only [List.getElem_toArray, List.getElem_cons_zero, List.getElem_cons_succ, Act.put, List.setIfInBounds_toArray, List.set_cons_zero, List.set_cons_succ]
        refine wpAnyH_ready (rs := [46]) (by kernel_rfl) (by simp) ?_
        refine AllReadyH.cons rfl (fun K hK => ?_) AllReadyH.nil
        try simp only [List.getElem_toArray, List.getElem_cons_zero, List.getElem_cons_succ]
        go_simp
        refine hK.out _ _ (HS5.out _ (hot.out.alloc _)) (fun hHeld12 => ?_)
        clear hK K
        have hot := Lib.hid (show Only (fun _ => False) W6 _ from hHeld12.1)
        try simp only [List.getElem_toArray, List.getElem_cons_zero, List.getElem_cons_succ, Act.put, List.setIfInBounds_toArray, List.set_cons_zero, List.set_cons_succ]
        refine wpAnyH_ready (rs := [47]) (by kernel_rfl) (by simp) ?_
        refine AllReadyH.cons rfl (fun K hK => ?_) AllReadyH.nil
        try simp only [List.getElem_toArray, List.getElem_cons_zero, List.getElem_cons_succ]
        go_simp
        go_at_call 48
        first
        | (with_reducible refine (HRA.out _).mono ?_)
        | (with_reducible refine (HRB.out _ _ ho).mono ?_)
        | (with_reducible refine (HRC.out _ _ ho).mono ?_)
        rintro _ wn ⟨rfl, ho⟩
        have hot := Lib.hid (hot.out.trans ho)
        try dsimp only
        refine hK.out _ _ (HS5.out _ hot.out) (fun hHeld13 => ?_)
        clear hK K
        try simp only [List.getElem_toArray, List.getElem_cons_zero, List.getElem_cons_succ, Act.put, List.setIfInBounds_toArray, List.set_cons_zero, List.set_cons_succ]
        refine wpAnyH_take (i := 48) (v := ?_) rfl (by kernel_rfl) (by kernel_rfl) (by kernel_rfl) (fun _ _ _ h => h) (Or.inl ⟨by rfl, ?_⟩) (by assumption) ?_
        rotate_left 1
        · intro w' hSw
          try dsimp only at hSw
          go_simp
          try with_reducible rfl
        try simp only [List.getElem_toArray, List.getElem_cons_zero, List.getElem_cons_succ, Act.put, List.setIfInBounds_toArray, List.set_cons_zero, List.set_cons_succ]
        refine wpAnyH_take (i := 49) (v := ?_) rfl (by kernel_rfl) (by kernel_rfl) (by kernel_rfl) (fun _ _ _ h => h) (Or.inl ⟨by rfl, ?_⟩) (by assumption) ?_
        rotate_left 1
        · intro w' hSw
          try dsimp only at hSw
          go_simp
          try with_reducible rfl
        try simp only [List.getElem_toArray, List.getElem_cons_zero, List.getElem_cons_succ, Act.put, List.setIfInBounds_toArray, List.set_cons_zero, List.set_cons_succ]
        refine wpAnyH_take (i := 50) (v := ?_) rfl (by kernel_rfl) (by kernel_rfl) (by kernel_rfl) (fun _ _ _ h => h) (Or.inl ⟨by rfl, ?_⟩) (by assumption) ?_
        rotate_left 1
        · intro w' hSw
          try dsimp only at hSw
          go_simp
          try with_reducible rfl
        try simp only [List.getElem_toArray, List.getElem_cons_zero, List.getElem_cons_succ, Act.put, List.setIfInBounds_toArray, List.set_cons_zero, List.set_cons_succ]
        refine wpAnyH_done (by kernel_rfl) ?_ _
        refine NoPanic.normal ?_
        have KE := Lib.hid (HOF.out _ hot.out)
        clear hot
        go_wp2_with fail
        go_ret
        exact ⟨rfl, KE.out⟩
      · try simp only [List.getElem_toArray, List.getElem_cons_zero, List.getElem_cons_succ]
        go_simp
        refine hK.out _ _ (HS5.out _ (hot.out.alloc _)) (fun hHeld14 => ?_)
        clear hK K
        have hot := Lib.hid (show Only (fun _ => False) W6 _ from hHeld14.1)
        try simp only [List.getElem_toArray, List.getElem_cons_zero, List.getElem_cons_succ, Act.put, List.setIfInBounds_toArray, List.set_cons_zero, List.set_cons_succ]
        refine wpAnyH_ready (rs := [43]) (by kernel_rfl) (by simp) ?_
        refine AllReadyH.cons rfl (fun K hK => ?_) AllReadyH.nil
        try simp only [List.getElem_toArray, List.getElem_cons_zero, List.getElem_cons_succ]
        go_simp
        go_at_call 47
        first
        | (with_reducible refine (HHA.out _).mono ?_)
        | (with_reducible refine (HHB.out _).mono ?_)
        | (with_reducible refine (HHC.out _).mono ?_)
        rintro _ wn ⟨rfl, ho⟩
        have hot := Lib.hid (hot.out.trans ho)
        try dsimp only
        refine hK.out _ _ (HS5.out _ hot.out) (fun hHeld15 => ?_)
        clear hK K
        try simp only [List.getElem_toArray, List.getElem_cons_zero, List.getElem_cons_succ, Act.put, List.setIfInBounds_toArray, List.set_cons_zero, List.set_cons_succ]
        refine wpAnyH_ready (rs := [47]) (by kernel_rfl) (by simp) ?_
        refine AllReadyH.cons rfl (fun K hK => ?_) AllReadyH.nil
        try simp only [List.getElem_toArray, List.getElem_cons_zero, List.getElem_cons_succ]
        go_simp
        go_at_call 48
        first
        | (with_reducible refine (HRA.out _).mono ?_)
        | (with_reducible refine (HRB.out _ _ ho).mono ?_)
        | (with_reducible refine (HRC.out _ _ ho).mono ?_)
        rintro _ wn ⟨rfl, ho⟩
        have hot := Lib.hid (hot.out.trans ho)
        try dsimp only
        refine hK.out _ _ (HS5.out _ hot.out) (fun hHeld16 => ?_)
        clear hK K
        try simp only [List.getElem_toArray, List.getElem_cons_zero, List.getElem_cons_succ, Act.put, List.setIfInBounds_toArray, List.set_cons_zero, List.set_cons_succ]
        refine wpAnyH_take (i := 48) (v := ?_) rfl (by kernel_rfl) (by kernel_rfl) (by kernel_rfl) (fun _ _ _ h => h) (Or.inl ⟨by rfl, ?_⟩) (by assumption) ?_
        rotate_left 1
        · intro w' hSw
          try dsimp only at hSw
          go_simp
          try with_reducible rfl
        try simp only [List.getElem_toArray, List.getElem_cons_zero, List.getElem_cons_succ, Act.put, List.setIfInBounds_toArray, List.set_cons_zero, List.set_cons_succ]
        refine wpAnyH_take (i := 49) (v := ?_) rfl (by kernel_rfl) (by kernel_rfl) (by kernel_rfl) (fun _ _ _ h => h) (Or.inl ⟨by rfl, ?_⟩) (by assumption) ?_
        rotate_left 1
        · intro w' hSw
          try dsimp only at hSw
          go_simp
          try with_reducible rfl
        try simp only [List.getElem_toArray, List.getElem_cons_zero, List.getElem_cons_succ, Act.put, List.setIfInBounds_toArray, List.set_cons_zero, List.set_cons_succ]
        refine wpAnyH_take (i := 50) (v := ?_) rfl (by kernel_rfl) (by kernel_rfl) (by kernel_rfl) (fun _ _ _ h => h) (Or.inl ⟨by rfl, ?_⟩) (by assumption) ?_
        rotate_left 1
        · intro w' hSw
          try dsimp only at hSw
          go_simp
          try with_reducible rfl
        try simp only [List.getElem_toArray, List.getElem_cons_zero, List.getElem_cons_succ, Act.put, List.setIfInBounds_toArray, List.set_cons_zero, List.set_cons_succ]
        refine wpAnyH_done (by kernel_rfl) ?_ _
        refine NoPanic.normal ?_
        have KE := Lib.hid (HOF.out _ hot.out)
        clear hot
        go_wp2_with fail
        go_ret
        exact ⟨rfl, KE.out⟩
    · try simp only [List.getElem_toArray, List.getElem_cons_zero, List.getElem_cons_succ]
      go_simp
      refine hK.out _ _ (HS5.out _ (hot.out.alloc _)) (fun hHeld17 => ?_)
      clear hK K
      have hot := Lib.hid (show Only (fun _ => False) W6 _ from hHeld17.1)
      try simp only [List.getElem_toArray, List.getElem_cons_zero, List.getElem_cons_succ, Act.put, List.setIfInBounds_toArray, List.set_cons_zero, List.set_cons_succ]
      refine wpAnyH_ready (rs := [42]) (by kernel_rfl) (by simp) ?_
      refine AllReadyH.cons rfl (fun K hK => ?_) AllReadyH.nil
      try simp only [List.getElem_toArray, List.getElem_cons_zero, List.getElem_cons_succ]
      go_simp
      refine hK.out _ _ (HS5.out _ (hot.out.alloc _)) (fun hHeld18 => ?_)
      clear hK K
      have hot := Lib.hid (show Only (fun _ => False) W6 _ from hHeld18.1)
      try simp only [List.getElem_toArray, List.getElem_cons_zero, List.getElem_cons_succ, Act.put, List.setIfInBounds_toArray, List.set_cons_zero, List.set_cons_succ]
      refine wpAnyH_ready (rs := [43]) (by kernel_rfl) (by simp) ?_
      refine AllReadyH.cons rfl (fun K hK => ?_) AllReadyH.nil
      try simp only [List.getElem_toArray, List.getElem_cons_zero, List.getElem_cons_succ]
      go_simp
      go_at_call 47
      first
      | (with_reducible refine (HHA.out _).mono ?_)
      | (with_reducible refine (HHB.out _).mono ?_)
      | (with_reducible refine (HHC.out _).mono ?_)
      rintro _ wn ⟨rfl, ho⟩
      have hot := Lib.hid (hot.out.trans ho)
      try dsimp only
      refine hK.out _ _ (HS5.out _ hot.out) (fun hHeld19 => ?_)
      clear hK K
      try simp only [List.getElem_toArray, List.getElem_cons_zero, List.getElem_cons_succ, Act.put, List.setIfInBounds_toArray, List.set_cons_zero, List.set_cons_succ]
      refine wpAnyH_ready (rs := [47]) (by kernel_rfl) (by simp) ?_
      refine AllReadyH.cons rfl (fun K hK => ?_) AllReadyH.nil
      try simp only [List.getElem_toArray, List.getElem_cons_zero, List.getElem_cons_succ]
      go_simp
      go_at_call 48
      first
      | (with_reducible refine (HRA.out _).mono ?_)
      | (with_reducible refine (HRB.out _ _ ho).mono ?_)
      | (with_reducible refine (HRC.out _ _ ho).mono ?_)
      rintro _ wn ⟨rfl, ho⟩
      have hot := Lib.hid (hot.out.trans ho)
      try dsimp only
      refine hK.out _ _ (HS5.out _ hot.out) (fun hHeld20 => ?_)
      clear hK K
      try simp only [List.getElem_toArray, List.getElem_cons_zero, List.getElem_cons_succ, Act.put, List.setIfInBounds_toArray, List.set_cons_zero, List.set_cons_succ]
      refine wpAnyH_take (i := 48) (v := ?_) rfl (by kernel_rfl) (by kernel_rfl) (by kernel_rfl) (fun _ _ _ h => h) (Or.inl ⟨by rfl, ?_⟩) (by assumption) ?_
      rotate_left 1
      · intro w' hSw
        try dsimp only at hSw
        go_simp
        try with_reducible rfl
      try simp only [List.getElem_toArray, List.getElem_cons_zero, List.getElem_cons_succ, Act.put, List.setIfInBounds_toArray, List.set_cons_zero, List.set_cons_succ]
      refine wpAnyH_take (i := 49) (v := ?_) rfl (by kernel_rfl) (by kernel_rfl) (by kernel_rfl) (fun _ _ _ h => h) (Or.inl ⟨by rfl, ?_⟩) (by assumption) ?_
      rotate_left 1
      · intro w' hSw
        try dsimp only at hSw
        go_simp
        try with_reducible rfl
      try simp only [List.getElem_toArray, List.getElem_cons_zero, List.getElem_cons_succ, Act.put, List.setIfInBounds_toArray, List.set_cons_zero, List.set_cons_succ]
      refine wpAnyH_take (i := 50) (v := ?_) rfl (by kernel_rfl) (by kernel_rfl) (by kernel_rfl) (fun _ _ _ h => h) (Or.inl ⟨by rfl, ?_⟩) (by assumption) ?_
      rotate_left 1
      · intro w' hSw
        try dsimp only at hSw
        go_simp
        try with_reducible rfl
      try simp only [List.getElem_toArray, List.getElem_cons_zero, List.getElem_cons_succ, Act.put, List.setIfInBounds_toArray, List.set_cons_zero, List.set_cons_succ]
      refine wpAnyH_done (by kernel_rfl) ?_ _
      refine NoPanic.normal ?_
      have KE := Lib.hid (HOF.out _ hot.out)
      clear hot
      go_wp2_with fail
      go_ret
      exact ⟨rfl, KE.out⟩
theorem gsettles_walk (g un am : Int) (fl : Bool) (D F T G1 M1 B1 G2 M2 B2 : Int) (a1 a2 : Option Addr) (n1 n2 c1 c2 : Nat) (t1 t2 : List Tr) (now pos u : Int) (w : World) (h1 : TiersR w a1 n1 c1 t1) (h2 : TiersR w a2 n2 c2 t2) (hx : InI now) (ham : InI am) :
    Calls Try.prog 12 #[.agg #[.int .i64 g, .int .i64 un, .int .i64 am, .bool fl], .agg #[.int .i64 D, .int .i64 F, .int .i64 T, .int .i64 G1, .int .i64 M1, .int .i64 B1, .slice a1 n1 c1, .int .i64 G2, .int .i64 M2, .int .i64 B2, .slice a2 n2 c2], .agg #[.int .i64 now, .int .i64 pos, .int .i64 u]] w fun e w' => e = .returned (.bool true) ∧ Below w.heap.size w w' :=
  (gsettles_any g un am fl D F T G1 M1 B1 G2 M2 B2 a1 a2 n1 n2 c1 c2 t1 t2 now pos u w h1 h2 (by unfold InI at hx; omega) ham).mono fun _ _ ⟨h1, h2⟩ => ⟨h1, h2.none⟩
end Go.Proofs.Ytonacdjaimokeaa.tirw
