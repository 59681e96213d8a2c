/- GrantOrder's walk. -/
import Derived.Test.YtghajamcjcflaaaGrK
import Derived.Test.YtghajamcjcflaaaGrE
import Derived.Deep.RegionHeld3
import Derived.Deep.CutRange
namespace Go.Proofs.Ytghajamcjcflaaa.tirw
open Go.RowKit mem tirm intm bigm bigw
set_option linter.unusedVariables false

theorem ReadsT.far {S : Nat → Prop} {w w' : World} {a : Option Addr} {len lo : Nat} {ts : List Tr} (h : ReadsT w a len ts) (hl : ∀ y, a = some y → lo ≤ y.block) (ho : Only S w w') (hs : ∀ x, lo ≤ x → x < w.heap.size → ¬ S x) : ReadsT w' a len ts := by
  obtain ⟨e1, e2, e3, h0 | ⟨b, off, rfl, hc⟩⟩ := h
  · exact ⟨e1, e2, e3, .inl h0⟩
  · by_cases hz : len = 0
    · exact ⟨e1, e2, e3, .inl hz⟩
    · have hb : b < w.heap.size := World.block_lt_of_cell? w _ (hc 0 (by omega)).1
      have hn : ¬ S b := hs b (hl _ rfl) hb
      exact ⟨e1, e2, e3, .inr ⟨b, off, rfl, fun i hi => ⟨ho.cell' (hc i hi).1 hn, ho.cell' (hc i hi).2 hn⟩⟩⟩
/-- what Many answers of two plans -/
def TwoAt (p0 p1 : Pl) (cr j0 j1 : Int) (w : World) (e : Ending) (w' : World) : Prop :=
  ∃ (ag : Option Addr) (nn cg : Nat) (er : Int), e = .returned (.tuple #[.slice ag nn cg, .int .i64 er]) ∧ (er ≠ 0 ∧ nn = 0 ∨ er = 0 ∧ nn = 2 ∧ pE p0 cr j0 ≠ 1 ∧ pE p1 (cr - (gr1 p0 cr j0).a) j1 ≠ 1 ∧ (pE p0 cr j0 = 0 ∨ pE p1 (cr - (gr1 p0 cr j0).a) j1 = 0) ∧ ReadsG w' ag 2 [gr1 p0 cr j0, gr1 p1 (cr - (gr1 p0 cr j0).a) j1]) ∧ Only (fun _ => False) w w'
theorem two_many (p0 p1 : Pl) (cr j0 j1 : Int) (w : World) (g h : Nat) (cp cw : Nat) (hp : PlanO w g 0 p0 ∧ PlanO w g 11 p1) (hcp : 2 ≤ cp) (ht : (ReadsT w p0.a1 p0.n1 p0.t1 ∧ ReadsT w p0.a2 p0.n2 p0.t2) ∧ ReadsT w p1.a1 p1.n1 p1.t1 ∧ ReadsT w p1.a2 p1.n2 p1.t2) (hw : w.cell? ⟨h, 0, none⟩ = some (.int .i64 j0) ∧ w.cell? ⟨h, 1, none⟩ = some (.int .i64 j1)) (hcr : InI cr) (h0 : InI j0) (h1 : InI j1) :
    Calls Try.prog 16 #[.slice (some ⟨g, 0, none⟩) 2 cp, .int .i64 cr, .slice (some ⟨h, 0, none⟩) 2 cw] w (TwoAt p0 p1 cr j0 j1 w) := by
  have hm0 : mCr [p0, p1] [j0, j1] cr 0 = cr := rfl
  have hg0 : mGr [p0, p1] [j0, j1] cr 0 = gr1 p0 cr j0 := rfl
  have he0 : mEr [p0, p1] [j0, j1] cr 0 = pE p0 cr j0 := rfl
  have hg1 : mGr [p0, p1] [j0, j1] cr 1 = gr1 p1 (cr - (gr1 p0 cr j0).a) j1 := rfl
  have he1 : mEr [p0, p1] [j0, j1] cr 1 = pE p1 (cr - (gr1 p0 cr j0).a) j1 := rfl
  refine (many_any (some ⟨g, 0, none⟩) 2 cp [p0, p1] cr (some ⟨h, 0, none⟩) 2 cw [j0, j1] w ⟨rfl, by omega, .inr ⟨g, 0, rfl, fun i hi => ?_⟩⟩ hcp (fun i hi => ?_) ⟨rfl, by unfold maxLen; omega, fun c hc => ?_, .inr ⟨h, 0, rfl, fun i hi => ?_⟩⟩ hcr).mono ?_
  · rcases (show i = 0 ∨ i = 1 by omega) with rfl | rfl
    · exact hp.1
    · exact hp.2
  · rcases (show i = 0 ∨ i = 1 by omega) with rfl | rfl
    · exact ht.1
    · exact ht.2
  · simp at hc
    rcases hc with rfl | rfl
    · unfold InI at h0; exact h0
    · unfold InI at h1; exact h1
  · rcases (show i = 0 ∨ i = 1 by omega) with rfl | rfl
    · exact hw.1
    · exact hw.2
  · intro e w' h
    rcases h with ⟨_, rfl, ho⟩ | ⟨_, _, rfl, ho⟩ | ⟨⟨_, hn⟩, ha, ⟨g', rfl, hr, _⟩, ho⟩
    · exact ⟨none, 0, 0, 1, rfl, .inl ⟨by decide, rfl⟩, ho⟩
    · exact ⟨none, 0, 0, 9, rfl, .inl ⟨by decide, rfl⟩, ho⟩
    · have n0 := hn 0 (by show 0 < 2; omega)
      have n1 := hn 1 (by show 1 < 2; omega)
      rw [he0] at n0
      rw [he1] at n1
      have ha2 : pE p0 cr j0 = 0 ∨ pE p1 (cr - (gr1 p0 cr j0).a) j1 = 0 := by
        unfold mAny at ha
        rw [List.any_eq_true] at ha
        obtain ⟨k, hk, e⟩ := ha
        have hk2 : k < 2 := List.mem_range.1 hk
        rcases (show k = 0 ∨ k = 1 by omega) with rfl | rfl
        · left; rw [he0] at e; simpa using e
        · right; rw [he1] at e; simpa using e
      have hr2 : (List.range ([p0, p1] : List Pl).length).map (mGr [p0, p1] [j0, j1] cr) = [gr1 p0 cr j0, gr1 p1 (cr - (gr1 p0 cr j0).a) j1] := rfl
      rw [hr2] at hr
      exact ⟨_, 2, 2, 0, rfl, .inr ⟨rfl, rfl, n0, n1, ha2, hr⟩, ho⟩
theorem gr_ok (p : Pl) (c u : Int) (hc : InI c) (h : pE p c u ≠ 1) : (pE p c u = 0 ∧ gr1 p c u = mkG p.D p.F p.T p.G1 p.M1 p.B1 p.G2 p.M2 p.B2 p.t1 p.t2 c u ∨ pE p c u = 9 ∧ gr1 p c u = ⟨p.G1, 0, 0, true⟩) ∧ InI (gr1 p c u).g ∧ InI (gr1 p c u).u ∧ InI (gr1 p c u).a ∧ 0 ≤ c ∧ 0 ≤ (gr1 p c u).a ∧ (gr1 p c u).a ≤ c := by
  obtain ⟨D, F, T, G1, M1, B1, G2, M2, B2, a1, a2, n1, n2, c1, c2, t1, t2⟩ := p
  unfold gr1
  unfold pE at h ⊢
  dsimp only at h ⊢
  have hno : ¬ MkNo D F T G1 M1 B1 G2 M2 B2 t1 t2 c u := fun e => h (by unfold mkE; rw [if_pos e])
  have hf : ¬ FitNo D F T G1 M1 B1 G2 M2 B2 t1 t2 c u := fun e => hno (.inl e)
  obtain ⟨_, n, k, e1, e2, f1, f2, f3, f4, f5, hcan, _⟩ := fit_facts hf
  have hg := ((tchk_ok G1 M1 B1 t1).1 (pchk_ok hcan.2.2).1).1
  have h0 : 0 ≤ c := Int.not_lt.1 fun e => hf (.inr e)
  unfold InI at hc ⊢
  by_cases hz : fitU D F T G1 M1 B1 G2 M2 B2 t1 t2 c u = 0
  · have hE : mkE D F T G1 M1 B1 G2 M2 B2 t1 t2 c u = 9 := by unfold mkE; rw [if_neg hno, if_pos hz]
    rw [hE, if_pos rfl]
    refine ⟨.inr ⟨rfl, rfl⟩, ?_⟩
    dsimp only
    omega
  · have hE : mkE D F T G1 M1 B1 G2 M2 B2 t1 t2 c u = 0 := by unfold mkE; rw [if_neg hno, if_neg hz]
    have hG : mkG D F T G1 M1 B1 G2 M2 B2 t1 t2 c u = ⟨G1, n, k, decide (n < u)⟩ := by unfold mkG; rw [if_neg hno, if_neg hz, e1, e2]
    rw [hE, if_neg (by decide), hG]
    refine ⟨.inl ⟨rfl, rfl⟩, ?_⟩
    dsimp only
    omega
set_option maxRecDepth 100000 in
set_option maxHeartbeats 20000000 in
theorem gorder_any (D F T G1 M1 B1 G2 M2 B2 E H I K1 N1 C1 K2 N2 C2 : Int) (a1 a2 b1 b2 : Option Addr) (n1 n2 c1 c2 m1 m2 d1 d2 : Nat) (t1 t2 v1 v2 : List Tr) (cr j0 j1 : Int) (w : World) (h1 : TiersR w a1 n1 c1 t1) (h2 : TiersR w a2 n2 c2 t2) (h3 : TiersR w b1 m1 d1 v1) (h4 : TiersR w b2 m2 d2 v2) (hcr : InI cr) (hj0 : InI j0) (hj1 : InI j1) :
    Calls Try.prog 5 #[.agg #[.int .i64 D, .int .i64 F, .int .i64 T, .int .i64 G1, .int .i64 M1, .int .i64 B1, .slice a1 n1 c1, .int .i64 G2, .int .i64 M2, .int .i64 B2, .slice a2 n2 c2, .int .i64 E, .int .i64 H, .int .i64 I, .int .i64 K1, .int .i64 N1, .int .i64 C1, .slice b1 m1 d1, .int .i64 K2, .int .i64 N2, .int .i64 C2, .slice b2 m2 d2], .int .i64 cr, .agg #[.int .i64 j0, .int .i64 j1]] w fun e w' => e = .returned (.bool true) ∧ Only (fun _ => False) w w' := by
  obtain ⟨W0, hW0⟩ : ∃ W0, W0 = (w.alloc (.cells #[.int .i64 D, .int .i64 F, .int .i64 T, .int .i64 G1, .int .i64 M1, .int .i64 B1, .slice a1 n1 c1, .int .i64 G2, .int .i64 M2, .int .i64 B2, .slice a2 n2 c2, .int .i64 E, .int .i64 H, .int .i64 I, .int .i64 K1, .int .i64 N1, .int .i64 C1, .slice b1 m1 d1, .int .i64 K2, .int .i64 N2, .int .i64 C2, .slice b2 m2 d2] 55)).alloc (.cells #[.int .i64 j0, .int .i64 j1] 56) := ⟨_, rfl⟩
  have HO0 : Hid (Only (fun _ => False) w W0 ∧ W0.heap.size = w.heap.size + 2) := Lib.hid (by rw [hW0]; exact ⟨((Only.refl _ w).alloc _).alloc _, by simp⟩)
  have HP : Hid (BoxV W0 w.heap.size [.int .i64 D, .int .i64 F, .int .i64 T, .int .i64 G1, .int .i64 M1, .int .i64 B1, .slice a1 n1 c1, .int .i64 G2, .int .i64 M2, .int .i64 B2, .slice a2 n2 c2, .int .i64 E, .int .i64 H, .int .i64 I, .int .i64 K1, .int .i64 N1, .int .i64 C1, .slice b1 m1 d1, .int .i64 K2, .int .i64 N2, .int .i64 C2, .slice b2 m2 d2]) := Lib.hid (by rw [hW0]; exact (BoxV.new w [.int .i64 D, .int .i64 F, .int .i64 T, .int .i64 G1, .int .i64 M1, .int .i64 B1, .slice a1 n1 c1, .int .i64 G2, .int .i64 M2, .int .i64 B2, .slice a2 n2 c2, .int .i64 E, .int .i64 H, .int .i64 I, .int .i64 K1, .int .i64 N1, .int .i64 C1, .slice b1 m1 d1, .int .i64 K2, .int .i64 N2, .int .i64 C2, .slice b2 m2 d2] _ _ rfl).only ((Only.refl (fun _ => False) _).alloc _) (fun f => f))
  have HA : Hid (BoxV W0 (w.heap.size + 1) [.int .i64 j0, .int .i64 j1]) := Lib.hid (by rw [hW0]; exact BoxV.new _ [.int .i64 j0, .int .i64 j1] _ _ (by simp))
  have HTA := Lib.hid (fun w' (ho : Only (fun _ => False) W0 w') => gtame_any D F T G1 M1 B1 G2 M2 B2 a1 a2 n1 n2 c1 c2 t1 t2 w' (h1.only (HO0.out.1.trans ho)) (h2.only (HO0.out.1.trans ho)))
  have HTB := Lib.hid (fun w' (ho : Only (fun _ => False) W0 w') => gtame_any E H I K1 N1 C1 K2 N2 C2 b1 b2 m1 m2 d1 d2 v1 v2 w' (h3.only (HO0.out.1.trans ho)) (h4.only (HO0.out.1.trans ho)))
  clear h1 h2 h3 h4
  generalize t1.take (min n1 9) = s1 at *
  generalize t2.take (min n2 9) = s2 at *
  generalize v1.take (min m1 9) = r1 at *
  generalize v2.take (min m2 9) = r2 at *
  have HJ := Lib.hid (And.intro hcr (And.intro hj0 hj1))
  have k02 : (0 : Int) < 2 := by decide
  have k12 : (1 : Int) < 2 := by decide
  clear hcr hj0 hj1
  go_enter Try.func5, Try.ntmps5
  go_upto_region 1 with fail
  rw [← hW0]
  clear hW0
  have HS1 : Hid (∀ w', Only (fun _ => False) W0 w' → Only (fun _ => False) W0 w' ∧ w'.cell? ⟨w.heap.size, 0, none⟩ = some (.int .i64 D) ∧ w'.cell? ⟨w.heap.size, 1, none⟩ = some (.int .i64 F) ∧ w'.cell? ⟨w.heap.size, 2, none⟩ = some (.int .i64 T) ∧ w'.cell? ⟨w.heap.size, 3, none⟩ = some (.int .i64 G1) ∧ w'.cell? ⟨w.heap.size, 4, none⟩ = some (.int .i64 M1) ∧ w'.cell? ⟨w.heap.size, 5, none⟩ = some (.int .i64 B1) ∧ w'.cell? ⟨w.heap.size, 6, none⟩ = some (.slice a1 n1 c1) ∧ w'.cell? ⟨w.heap.size, 7, none⟩ = some (.int .i64 G2) ∧ w'.cell? ⟨w.heap.size, 8, none⟩ = some (.int .i64 M2) ∧ w'.cell? ⟨w.heap.size, 9, none⟩ = some (.int .i64 B2) ∧ w'.cell? ⟨w.heap.size, 10, none⟩ = some (.slice a2 n2 c2) ∧ w'.cell? ⟨w.heap.size, 11, none⟩ = some (.int .i64 E) ∧ w'.cell? ⟨w.heap.size, 12, none⟩ = some (.int .i64 H) ∧ w'.cell? ⟨w.heap.size, 13, none⟩ = some (.int .i64 I) ∧ w'.cell? ⟨w.heap.size, 14, none⟩ = some (.int .i64 K1) ∧ w'.cell? ⟨w.heap.size, 15, none⟩ = some (.int .i64 N1) ∧ w'.cell? ⟨w.heap.size, 16, none⟩ = some (.int .i64 C1) ∧ w'.cell? ⟨w.heap.size, 17, none⟩ = some (.slice b1 m1 d1) ∧ w'.cell? ⟨w.heap.size, 18, none⟩ = some (.int .i64 K2) ∧ w'.cell? ⟨w.heap.size, 19, none⟩ = some (.int .i64 N2) ∧ w'.cell? ⟨w.heap.size, 20, none⟩ = some (.int .i64 C2) ∧ w'.cell? ⟨w.heap.size, 21, none⟩ = some (.slice b2 m2 d2)) := Lib.hid (fun w' ho => by
    have hB := HP.out.only ho (fun f => f)
    exact ⟨ho, (hB 0 _ rfl).1, (hB 1 _ rfl).1, (hB 2 _ rfl).1, (hB 3 _ rfl).1, (hB 4 _ rfl).1, (hB 5 _ rfl).1, (hB 6 _ rfl).1, (hB 7 _ rfl).1, (hB 8 _ rfl).1, (hB 9 _ rfl).1, (hB 10 _ rfl).1, (hB 11 _ rfl).1, (hB 12 _ rfl).1, (hB 13 _ rfl).1, (hB 14 _ rfl).1, (hB 15 _ rfl).1, (hB 16 _ rfl).1, (hB 17 _ rfl).1, (hB 18 _ rfl).1, (hB 19 _ rfl).1, (hB 20 _ rfl).1, (hB 21 _ rfl).1⟩)
  go_cut [7, 8] from 16 to 21 (fun v7 v8 wx => ∃ (x1 x2 : Nat) (a3 a4 : Option Addr) (q3 q4 : Nat) (b3 b4 : Option Addr) (q5 q6 : Nat), v7 = .pointer (some ⟨x1, 0, none⟩) ∧ v8 = .pointer (some ⟨x2, 0, none⟩) ∧ Hid (BoxV wx x1 (plV D F T G1 M1 B1 G2 M2 B2 a3 a4 s1.length s2.length q3 q4)) ∧ Hid (BoxV wx x2 (plV E H I K1 N1 C1 K2 N2 C2 b3 b4 r1.length r2.length q5 q6)) ∧ Hid (ReadsT wx a3 s1.length s1) ∧ Hid (ReadsT wx a4 s2.length s2) ∧ Hid (ReadsT wx b3 r1.length r1) ∧ Hid (ReadsT wx b4 r2.length r2) ∧ Hid (Only (fun _ => False) W0 wx))
  case first =>
    refine wp_region_noPanic ?_
    refine wp_region_held_drew (S := (fun w' => Only (fun _ => False) W0 w' ∧ w'.cell? ⟨w.heap.size, 0, none⟩ = some (.int .i64 D) ∧ w'.cell? ⟨w.heap.size, 1, none⟩ = some (.int .i64 F) ∧ w'.cell? ⟨w.heap.size, 2, none⟩ = some (.int .i64 T) ∧ w'.cell? ⟨w.heap.size, 3, none⟩ = some (.int .i64 G1) ∧ w'.cell? ⟨w.heap.size, 4, none⟩ = some (.int .i64 M1) ∧ w'.cell? ⟨w.heap.size, 5, none⟩ = some (.int .i64 B1) ∧ w'.cell? ⟨w.heap.size, 6, none⟩ = some (.slice a1 n1 c1) ∧ w'.cell? ⟨w.heap.size, 7, none⟩ = some (.int .i64 G2) ∧ w'.cell? ⟨w.heap.size, 8, none⟩ = some (.int .i64 M2) ∧ w'.cell? ⟨w.heap.size, 9, none⟩ = some (.int .i64 B2) ∧ w'.cell? ⟨w.heap.size, 10, none⟩ = some (.slice a2 n2 c2) ∧ w'.cell? ⟨w.heap.size, 11, none⟩ = some (.int .i64 E) ∧ w'.cell? ⟨w.heap.size, 12, none⟩ = some (.int .i64 H) ∧ w'.cell? ⟨w.heap.size, 13, none⟩ = some (.int .i64 I) ∧ w'.cell? ⟨w.heap.size, 14, none⟩ = some (.int .i64 K1) ∧ w'.cell? ⟨w.heap.size, 15, none⟩ = some (.int .i64 N1) ∧ w'.cell? ⟨w.heap.size, 16, none⟩ = some (.int .i64 C1) ∧ w'.cell? ⟨w.heap.size, 17, none⟩ = some (.slice b1 m1 d1) ∧ w'.cell? ⟨w.heap.size, 18, none⟩ = some (.int .i64 K2) ∧ w'.cell? ⟨w.heap.size, 19, none⟩ = some (.int .i64 N2) ∧ w'.cell? ⟨w.heap.size, 20, none⟩ = some (.int .i64 C2) ∧ w'.cell? ⟨w.heap.size, 21, none⟩ = some (.slice b2 m2 d2))) (by kernel_rfl) (HS1.out _ (Only.refl _ _).drew) (fun hHeld => ?_)
    have hot := Lib.hid ((Only.refl (fun _ => False) W0).drew)
    have sz0 : W0.heap.size ≤ W0.drew.heap.size := hot.out.size
    generalize W0.drew = u0 at *
    refine wpAnyH_take (i := 0) (v := ?_) rfl (by kernel_rfl) (by kernel_rfl) (by kernel_rfl) (fun _ _ _ h => h) (Or.inl ⟨by rfl, ?_⟩) (by assumption) ?_
    rotate_left 1
    · intro w' hSw
      try dsimp only at hSw
      go_simp
      try with_reducible rfl
    try simp only [List.getElem_toArray, List.getElem_cons_zero, Act.put, List.setIfInBounds_toArray, List.set_cons_zero, List.set_cons_succ]
    refine wpAnyH_take (i := 1) (v := ?_) rfl (by kernel_rfl) (by kernel_rfl) (by kernel_rfl) (fun _ _ _ h => h) (Or.inl ⟨by rfl, ?_⟩) (by assumption) ?_
    rotate_left 1
    · intro w' hSw
      try dsimp only at hSw
      go_simp
      try with_reducible rfl
    try simp only [List.getElem_toArray, List.getElem_cons_zero, List.getElem_cons_succ, Act.put, List.setIfInBounds_toArray, List.set_cons_zero, List.set_cons_succ]
    refine wpAnyH_take (i := 3) (v := ?_) rfl (by kernel_rfl) (by kernel_rfl) (by kernel_rfl) (fun _ _ _ h => h) (Or.inl ⟨by rfl, ?_⟩) (by assumption) ?_
    rotate_left 1
    · intro w' hSw
      try dsimp only at hSw
      go_simp
      try with_reducible rfl
    try simp only [List.getElem_toArray, List.getElem_cons_zero, List.getElem_cons_succ, Act.put, List.setIfInBounds_toArray, List.set_cons_zero, List.set_cons_succ]
    refine wpAnyH_take (i := 4) (v := ?_) rfl (by kernel_rfl) (by kernel_rfl) (by kernel_rfl) (fun _ _ _ h => h) (Or.inl ⟨by rfl, ?_⟩) (by assumption) ?_
    rotate_left 1
    · intro w' hSw
      try dsimp only at hSw
      go_simp
      try with_reducible rfl
    try simp only [List.getElem_toArray, List.getElem_cons_zero, List.getElem_cons_succ, Act.put, List.setIfInBounds_toArray, List.set_cons_zero, List.set_cons_succ]
    refine wpAnyH_ready (rs := [2, 6, 7]) (by kernel_rfl) (by simp) ?_
    refine AllReadyH.cons rfl (fun K hK => ?_) (AllReadyH.cons rfl (fun K hK => ?_) (AllReadyH.cons rfl (fun K hK => ?_) AllReadyH.nil))
    · try simp only [List.getElem_toArray, List.getElem_cons_zero, List.getElem_cons_succ]
      go_simp
      go_at_call 14
      with_reducible refine (HTA.out _ hot.out).mono ?_
      rintro _ u1 ⟨a3, a4, q3, q4, rfl, hr1, hr2, ho, hb1, hb2⟩
      have sz1 : u0.heap.size ≤ u1.heap.size := ho.size
      have RA1 := Lib.hid hr1
      have RA2 := Lib.hid hr2
      have LA1 := Lib.hid hb1
      have LA2 := Lib.hid hb2
      have OA := Lib.hid (Only.refl (fun _ => False) u1)
      replace hot := Lib.hid (hot.out.trans ho)
      clear ho hr1 hr2 hb1 hb2
      try dsimp only
      refine hK.out _ _ (HS1.out _ hot.out) (fun hHeld1 => ?_)
      clear hK K
      try simp only [List.getElem_toArray, List.getElem_cons_zero, List.getElem_cons_succ, Act.put, List.setIfInBounds_toArray, List.set_cons_zero, List.set_cons_succ]
      refine wpAnyH_ready (rs := [5, 6, 7]) (by kernel_rfl) (by simp) ?_
      refine AllReadyH.cons rfl (fun K hK => ?_) (AllReadyH.cons rfl (fun K hK => ?_) (AllReadyH.cons rfl (fun K hK => ?_) AllReadyH.nil))
      · try simp only [List.getElem_toArray, List.getElem_cons_zero, List.getElem_cons_succ]
        go_simp
        go_at_call 14
        with_reducible refine (HTB.out _ hot.out).mono ?_
        rintro _ u2 ⟨b3, b4, q5, q6, rfl, hr1, hr2, ho, hb1, hb2⟩
        have sz2 : u1.heap.size ≤ u2.heap.size := ho.size
        have RB1 := Lib.hid hr1
        have RB2 := Lib.hid hr2
        have LB1 := Lib.hid hb1
        have LB2 := Lib.hid hb2
        have OB := Lib.hid (Only.refl (fun _ => False) u2)
        replace OA := Lib.hid (OA.out.trans ho)
        replace hot := Lib.hid (hot.out.trans ho)
        clear ho hr1 hr2 hb1 hb2
        try dsimp only
        refine hK.out _ _ (HS1.out _ hot.out) (fun hHeld2 => ?_)
        clear hK K
        try simp only [List.getElem_toArray, List.getElem_cons_zero, List.getElem_cons_succ, Act.put, List.setIfInBounds_toArray, List.set_cons_zero, List.set_cons_succ]
        refine wpAnyH_ready (rs := [6, 7]) (by kernel_rfl) (by simp) ?_
        refine AllReadyH.cons rfl (fun K hK => ?_) (AllReadyH.cons rfl (fun K hK => ?_) AllReadyH.nil)
        · try simp only [List.getElem_toArray, List.getElem_cons_zero, List.getElem_cons_succ]
          go_simp
          obtain ⟨u3, hu3⟩ : ∃ x, x = u2.alloc (.cells #[.int .i64 0, .int .i64 0, .int .i64 0, .int .i64 0, .int .i64 0, .int .i64 0, .slice none 0 0, .int .i64 0, .int .i64 0, .int .i64 0, .slice none 0 0] 37) := ⟨_, rfl⟩
          rw [← hu3]
          have Z1 : Hid (BoxV u3 u2.heap.size zerosP) := Lib.hid (by rw [hu3]; exact BoxV.new u2 zerosP _ _ rfl)
          have sz3 : u2.heap.size + 1 ≤ u3.heap.size ∧ u3.heap.size ≤ u2.heap.size + 1 := by rw [hu3]; simp
          have ho : Only (fun _ => False) u2 u3 := by rw [hu3]; exact (Only.refl _ _).alloc _
          have O1 := Lib.hid (Only.refl (fun _ => False) u3)
          replace OA := Lib.hid (OA.out.trans ho)
          replace OB := Lib.hid (OB.out.trans ho)
          replace hot := Lib.hid (hot.out.trans ho)
          clear ho hu3
          refine hK.out _ _ (HS1.out _ hot.out) (fun hHeld3 => ?_)
          clear hK K
          try simp only [List.getElem_toArray, List.getElem_cons_zero, List.getElem_cons_succ, Act.put, List.setIfInBounds_toArray, List.set_cons_zero, List.set_cons_succ]
          refine wpAnyH_ready (rs := [7]) (by kernel_rfl) (by simp) ?_
          refine AllReadyH.cons rfl (fun K hK => ?_) AllReadyH.nil
          try simp only [List.getElem_toArray, List.getElem_cons_zero, List.getElem_cons_succ]
          go_simp
          obtain ⟨u4, hu4⟩ : ∃ x, x = u3.alloc (.cells #[.int .i64 0, .int .i64 0, .int .i64 0, .int .i64 0, .int .i64 0, .int .i64 0, .slice none 0 0, .int .i64 0, .int .i64 0, .int .i64 0, .slice none 0 0] 37) := ⟨_, rfl⟩
          rw [← hu4]
          have Z2 : Hid (BoxV u4 u3.heap.size zerosP) := Lib.hid (by rw [hu4]; exact BoxV.new u3 zerosP _ _ rfl)
          have sz4 : u3.heap.size + 1 ≤ u4.heap.size ∧ u4.heap.size ≤ u3.heap.size + 1 := by rw [hu4]; simp
          have ho : Only (fun _ => False) u3 u4 := by rw [hu4]; exact (Only.refl _ _).alloc _
          have O2 := Lib.hid (Only.refl (fun _ => False) u4)
          replace OA := Lib.hid (OA.out.trans ho)
          replace OB := Lib.hid (OB.out.trans ho)
          replace O1 := Lib.hid (O1.out.trans ho)
          replace hot := Lib.hid (hot.out.trans ho)
          clear ho hu4
          refine hK.out _ _ (HS1.out _ hot.out) (fun hHeld4 => ?_)
          clear hK K
          try simp only [List.getElem_toArray, List.getElem_cons_zero, List.getElem_cons_succ, Act.put, List.setIfInBounds_toArray, List.set_cons_zero, List.set_cons_succ]
          refine wpAnyH_ready (rs := [8]) (by kernel_rfl) (by simp) ?_
          refine AllReadyH.cons rfl (fun K hK => ?_) AllReadyH.nil
          try simp only [List.getElem_toArray, List.getElem_cons_zero, List.getElem_cons_succ]
          go_simp
          have hz : BoxV u4 (u2.heap.size) (plV 0 0 0 0 0 0 0 0 0 none none 0 0 0 0) := Z1.out.only O1.out (fun f => f)
          obtain ⟨⟨z0, z1, z2, z3, z4, z5, z6, z7, z8, z9, z10⟩, y0, y1, y2, y3, y4, y5, y6, y7, y8, y9, y10⟩ := hz.all
          obtain ⟨u5, hp, hk, hW⟩ := plan_put hz rfl D F T G1 M1 B1 G2 M2 B2 a3 a4 s1.length s2.length q3 q4
          go_simp
          rw [← hW]
          have KW1 := Lib.hid hk
          have HP1 := Lib.hid hp
          have hot1 : Hid (Only (fun _ => False) W0 u5) := Lib.hid (hot.out.then hk (fun i hi e => by have e' : i = u2.heap.size := e; omega))
          have sz5 : u4.heap.size ≤ u5.heap.size := hk.size
          clear hz hp hk hW z0 z1 z2 z3 z4 z5 z6 z7 z8 z9 z10 y0 y1 y2 y3 y4 y5 y6 y7 y8 y9 y10
          refine hK.out _ _ (HS1.out _ hot1.out) (fun hHeld5 => ?_)
          clear hK K
          try simp only [List.getElem_toArray, List.getElem_cons_zero, List.getElem_cons_succ, Act.put, List.setIfInBounds_toArray, List.set_cons_zero, List.set_cons_succ]
          refine wpAnyH_ready (rs := [9]) (by kernel_rfl) (by simp) ?_
          refine AllReadyH.cons rfl (fun K hK => ?_) AllReadyH.nil
          try simp only [List.getElem_toArray, List.getElem_cons_zero, List.getElem_cons_succ]
          go_simp
          have hz : BoxV u5 (u3.heap.size) (plV 0 0 0 0 0 0 0 0 0 none none 0 0 0 0) := (Z2.out.only O2.out (fun f => f)).only KW1.out (fun e => by have e' : u3.heap.size = u2.heap.size := e; omega)
          obtain ⟨⟨z0, z1, z2, z3, z4, z5, z6, z7, z8, z9, z10⟩, y0, y1, y2, y3, y4, y5, y6, y7, y8, y9, y10⟩ := hz.all
          obtain ⟨u6, hp, hk, hW⟩ := plan_put hz rfl E H I K1 N1 C1 K2 N2 C2 b3 b4 r1.length r2.length q5 q6
          go_simp
          rw [← hW]
          have KW2 := Lib.hid hk
          have HP2 := Lib.hid hp
          have hot2 : Hid (Only (fun _ => False) W0 u6) := Lib.hid (hot1.out.then hk (fun i hi e => by have e' : i = u3.heap.size := e; omega))
          have sz6 : u5.heap.size ≤ u6.heap.size := hk.size
          clear hz hp hk hW z0 z1 z2 z3 z4 z5 z6 z7 z8 z9 z10 y0 y1 y2 y3 y4 y5 y6 y7 y8 y9 y10
          refine hK.out _ _ (HS1.out _ hot2.out) (fun hHeld6 => ?_)
          clear hK K
          try simp only [List.getElem_toArray, List.getElem_cons_zero, List.getElem_cons_succ, Act.put, List.setIfInBounds_toArray, List.set_cons_zero, List.set_cons_succ]
          refine wpAnyH_done (by kernel_rfl) ?_ _
          refine NoPanic.normal ?_
          go_wp2_with fail
          go_meet
          exact ⟨u2.heap.size, u3.heap.size, a3, a4, q3, q4, b3, b4, q5, q6, rfl, rfl, Lib.hid (HP1.out.only KW2.out (fun e => by have e' : u2.heap.size = u3.heap.size := e; omega)), HP2, Lib.hid (RA1.out.far (S := fun x => x = u2.heap.size ∨ x = u3.heap.size) LA1.out (((OA.out.mono (fun _ _ f => f.elim)).then KW1.out (fun i _ e => .inl e)).then KW2.out (fun i _ e => .inr e)) (fun x h1 h2 e => by rcases e with e | e <;> omega)), Lib.hid (RA2.out.far (S := fun x => x = u2.heap.size ∨ x = u3.heap.size) LA2.out (((OA.out.mono (fun _ _ f => f.elim)).then KW1.out (fun i _ e => .inl e)).then KW2.out (fun i _ e => .inr e)) (fun x h1 h2 e => by rcases e with e | e <;> omega)), Lib.hid (RB1.out.far (S := fun x => x = u2.heap.size ∨ x = u3.heap.size) LB1.out (((OB.out.mono (fun _ _ f => f.elim)).then KW1.out (fun i _ e => .inl e)).then KW2.out (fun i _ e => .inr e)) (fun x h1 h2 e => by rcases e with e | e <;> omega)), Lib.hid (RB2.out.far (S := fun x => x = u2.heap.size ∨ x = u3.heap.size) LB2.out (((OB.out.mono (fun _ _ f => f.elim)).then KW1.out (fun i _ e => .inl e)).then KW2.out (fun i _ e => .inr e)) (fun x h1 h2 e => by rcases e with e | e <;> omega)), hot2⟩

        · try simp only [List.getElem_toArray, List.getElem_cons_zero, List.getElem_cons_succ]
          go_simp
          obtain ⟨u7, hu7⟩ : ∃ x, x = u2.alloc (.cells #[.int .i64 0, .int .i64 0, .int .i64 0, .int .i64 0, .int .i64 0, .int .i64 0, .slice none 0 0, .int .i64 0, .int .i64 0, .int .i64 0, .slice none 0 0] 37) := ⟨_, rfl⟩
          rw [← hu7]
          have Z2 : Hid (BoxV u7 u2.heap.size zerosP) := Lib.hid (by rw [hu7]; exact BoxV.new u2 zerosP _ _ rfl)
          have sz7 : u2.heap.size + 1 ≤ u7.heap.size ∧ u7.heap.size ≤ u2.heap.size + 1 := by rw [hu7]; simp
          have ho : Only (fun _ => False) u2 u7 := by rw [hu7]; exact (Only.refl _ _).alloc _
          have O2 := Lib.hid (Only.refl (fun _ => False) u7)
          replace OA := Lib.hid (OA.out.trans ho)
          replace OB := Lib.hid (OB.out.trans ho)
          replace hot := Lib.hid (hot.out.trans ho)
          clear ho hu7
          refine hK.out _ _ (HS1.out _ hot.out) (fun hHeld7 => ?_)
          clear hK K
          try simp only [List.getElem_toArray, List.getElem_cons_zero, List.getElem_cons_succ, Act.put, List.setIfInBounds_toArray, List.set_cons_zero, List.set_cons_succ]
          refine wpAnyH_ready (rs := [6]) (by kernel_rfl) (by simp) ?_
          refine AllReadyH.cons rfl (fun K hK => ?_) AllReadyH.nil
          try simp only [List.getElem_toArray, List.getElem_cons_zero, List.getElem_cons_succ]
          go_simp
          obtain ⟨u8, hu8⟩ : ∃ x, x = u7.alloc (.cells #[.int .i64 0, .int .i64 0, .int .i64 0, .int .i64 0, .int .i64 0, .int .i64 0, .slice none 0 0, .int .i64 0, .int .i64 0, .int .i64 0, .slice none 0 0] 37) := ⟨_, rfl⟩
          rw [← hu8]
          have Z1 : Hid (BoxV u8 u7.heap.size zerosP) := Lib.hid (by rw [hu8]; exact BoxV.new u7 zerosP _ _ rfl)
          have sz8 : u7.heap.size + 1 ≤ u8.heap.size ∧ u8.heap.size ≤ u7.heap.size + 1 := by rw [hu8]; simp
          have ho : Only (fun _ => False) u7 u8 := by rw [hu8]; exact (Only.refl _ _).alloc _
          have O1 := Lib.hid (Only.refl (fun _ => False) u8)
          replace OA := Lib.hid (OA.out.trans ho)
          replace OB := Lib.hid (OB.out.trans ho)
          replace O2 := Lib.hid (O2.out.trans ho)
          replace hot := Lib.hid (hot.out.trans ho)
          clear ho hu8
          refine hK.out _ _ (HS1.out _ hot.out) (fun hHeld8 => ?_)
          clear hK K
          try simp only [List.getElem_toArray, List.getElem_cons_zero, List.getElem_cons_succ, Act.put, List.setIfInBounds_toArray, List.set_cons_zero, List.set_cons_succ]
          refine wpAnyH_ready (rs := [8]) (by kernel_rfl) (by simp) ?_
          refine AllReadyH.cons rfl (fun K hK => ?_) AllReadyH.nil
          try simp only [List.getElem_toArray, List.getElem_cons_zero, List.getElem_cons_succ]
          go_simp
          have hz : BoxV u8 (u7.heap.size) (plV 0 0 0 0 0 0 0 0 0 none none 0 0 0 0) := Z1.out.only O1.out (fun f => f)
          obtain ⟨⟨z0, z1, z2, z3, z4, z5, z6, z7, z8, z9, z10⟩, y0, y1, y2, y3, y4, y5, y6, y7, y8, y9, y10⟩ := hz.all
          obtain ⟨u9, hp, hk, hW⟩ := plan_put hz rfl D F T G1 M1 B1 G2 M2 B2 a3 a4 s1.length s2.length q3 q4
          go_simp
          rw [← hW]
          have KW1 := Lib.hid hk
          have HP1 := Lib.hid hp
          have hot1 : Hid (Only (fun _ => False) W0 u9) := Lib.hid (hot.out.then hk (fun i hi e => by have e' : i = u7.heap.size := e; omega))
          have sz9 : u8.heap.size ≤ u9.heap.size := hk.size
          clear hz hp hk hW z0 z1 z2 z3 z4 z5 z6 z7 z8 z9 z10 y0 y1 y2 y3 y4 y5 y6 y7 y8 y9 y10
          refine hK.out _ _ (HS1.out _ hot1.out) (fun hHeld9 => ?_)
          clear hK K
          try simp only [List.getElem_toArray, List.getElem_cons_zero, List.getElem_cons_succ, Act.put, List.setIfInBounds_toArray, List.set_cons_zero, List.set_cons_succ]
          refine wpAnyH_ready (rs := [9]) (by kernel_rfl) (by simp) ?_
          refine AllReadyH.cons rfl (fun K hK => ?_) AllReadyH.nil
          try simp only [List.getElem_toArray, List.getElem_cons_zero, List.getElem_cons_succ]
          go_simp
          have hz : BoxV u9 (u2.heap.size) (plV 0 0 0 0 0 0 0 0 0 none none 0 0 0 0) := (Z2.out.only O2.out (fun f => f)).only KW1.out (fun e => by have e' : u2.heap.size = u7.heap.size := e; omega)
          obtain ⟨⟨z0, z1, z2, z3, z4, z5, z6, z7, z8, z9, z10⟩, y0, y1, y2, y3, y4, y5, y6, y7, y8, y9, y10⟩ := hz.all
          obtain ⟨u10, hp, hk, hW⟩ := plan_put hz rfl E H I K1 N1 C1 K2 N2 C2 b3 b4 r1.length r2.length q5 q6
          go_simp
          rw [← hW]
          have KW2 := Lib.hid hk
          have HP2 := Lib.hid hp
          have hot2 : Hid (Only (fun _ => False) W0 u10) := Lib.hid (hot1.out.then hk (fun i hi e => by have e' : i = u2.heap.size := e; omega))
          have sz10 : u9.heap.size ≤ u10.heap.size := hk.size
          clear hz hp hk hW z0 z1 z2 z3 z4 z5 z6 z7 z8 z9 z10 y0 y1 y2 y3 y4 y5 y6 y7 y8 y9 y10
          refine hK.out _ _ (HS1.out _ hot2.out) (fun hHeld10 => ?_)
          clear hK K
          try simp only [List.getElem_toArray, List.getElem_cons_zero, List.getElem_cons_succ, Act.put, List.setIfInBounds_toArray, List.set_cons_zero, List.set_cons_succ]
          refine wpAnyH_done (by kernel_rfl) ?_ _
          refine NoPanic.normal ?_
          go_wp2_with fail
          go_meet
          exact ⟨u7.heap.size, u2.heap.size, a3, a4, q3, q4, b3, b4, q5, q6, rfl, rfl, Lib.hid (HP1.out.only KW2.out (fun e => by have e' : u7.heap.size = u2.heap.size := e; omega)), HP2, Lib.hid (RA1.out.far (S := fun x => x = u7.heap.size ∨ x = u2.heap.size) LA1.out (((OA.out.mono (fun _ _ f => f.elim)).then KW1.out (fun i _ e => .inl e)).then KW2.out (fun i _ e => .inr e)) (fun x h1 h2 e => by rcases e with e | e <;> omega)), Lib.hid (RA2.out.far (S := fun x => x = u7.heap.size ∨ x = u2.heap.size) LA2.out (((OA.out.mono (fun _ _ f => f.elim)).then KW1.out (fun i _ e => .inl e)).then KW2.out (fun i _ e => .inr e)) (fun x h1 h2 e => by rcases e with e | e <;> omega)), Lib.hid (RB1.out.far (S := fun x => x = u7.heap.size ∨ x = u2.heap.size) LB1.out (((OB.out.mono (fun _ _ f => f.elim)).then KW1.out (fun i _ e => .inl e)).then KW2.out (fun i _ e => .inr e)) (fun x h1 h2 e => by rcases e with e | e <;> omega)), Lib.hid (RB2.out.far (S := fun x => x = u7.heap.size ∨ x = u2.heap.size) LB2.out (((OB.out.mono (fun _ _ f => f.elim)).then KW1.out (fun i _ e => .inl e)).then KW2.out (fun i _ e => .inr e)) (fun x h1 h2 e => by rcases e with e | e <;> omega)), hot2⟩

      · try simp only [List.getElem_toArray, List.getElem_cons_zero, List.getElem_cons_succ]
        go_simp
        obtain ⟨u11, hu11⟩ : ∃ x, x = u1.alloc (.cells #[.int .i64 0, .int .i64 0, .int .i64 0, .int .i64 0, .int .i64 0, .int .i64 0, .slice none 0 0, .int .i64 0, .int .i64 0, .int .i64 0, .slice none 0 0] 37) := ⟨_, rfl⟩
        rw [← hu11]
        have Z1 : Hid (BoxV u11 u1.heap.size zerosP) := Lib.hid (by rw [hu11]; exact BoxV.new u1 zerosP _ _ rfl)
        have sz11 : u1.heap.size + 1 ≤ u11.heap.size ∧ u11.heap.size ≤ u1.heap.size + 1 := by rw [hu11]; simp
        have ho : Only (fun _ => False) u1 u11 := by rw [hu11]; exact (Only.refl _ _).alloc _
        have O1 := Lib.hid (Only.refl (fun _ => False) u11)
        replace OA := Lib.hid (OA.out.trans ho)
        replace hot := Lib.hid (hot.out.trans ho)
        clear ho hu11
        refine hK.out _ _ (HS1.out _ hot.out) (fun hHeld11 => ?_)
        clear hK K
        try simp only [List.getElem_toArray, List.getElem_cons_zero, List.getElem_cons_succ, Act.put, List.setIfInBounds_toArray, List.set_cons_zero, List.set_cons_succ]
        refine wpAnyH_ready (rs := [5, 7]) (by kernel_rfl) (by simp) ?_
        refine AllReadyH.cons rfl (fun K hK => ?_) (AllReadyH.cons rfl (fun K hK => ?_) AllReadyH.nil)
        · try simp only [List.getElem_toArray, List.getElem_cons_zero, List.getElem_cons_succ]
          go_simp
          go_at_call 14
          with_reducible refine (HTB.out _ hot.out).mono ?_
          rintro _ u12 ⟨b3, b4, q5, q6, rfl, hr1, hr2, ho, hb1, hb2⟩
          have sz12 : u11.heap.size ≤ u12.heap.size := ho.size
          have RB1 := Lib.hid hr1
          have RB2 := Lib.hid hr2
          have LB1 := Lib.hid hb1
          have LB2 := Lib.hid hb2
          have OB := Lib.hid (Only.refl (fun _ => False) u12)
          replace OA := Lib.hid (OA.out.trans ho)
          replace O1 := Lib.hid (O1.out.trans ho)
          replace hot := Lib.hid (hot.out.trans ho)
          clear ho hr1 hr2 hb1 hb2
          try dsimp only
          refine hK.out _ _ (HS1.out _ hot.out) (fun hHeld12 => ?_)
          clear hK K
          try simp only [List.getElem_toArray, List.getElem_cons_zero, List.getElem_cons_succ, Act.put, List.setIfInBounds_toArray, List.set_cons_zero, List.set_cons_succ]
          refine wpAnyH_ready (rs := [7]) (by kernel_rfl) (by simp) ?_
          refine AllReadyH.cons rfl (fun K hK => ?_) AllReadyH.nil
          try simp only [List.getElem_toArray, List.getElem_cons_zero, List.getElem_cons_succ]
          go_simp
          obtain ⟨u13, hu13⟩ : ∃ x, x = u12.alloc (.cells #[.int .i64 0, .int .i64 0, .int .i64 0, .int .i64 0, .int .i64 0, .int .i64 0, .slice none 0 0, .int .i64 0, .int .i64 0, .int .i64 0, .slice none 0 0] 37) := ⟨_, rfl⟩
          rw [← hu13]
          have Z2 : Hid (BoxV u13 u12.heap.size zerosP) := Lib.hid (by rw [hu13]; exact BoxV.new u12 zerosP _ _ rfl)
          have sz13 : u12.heap.size + 1 ≤ u13.heap.size ∧ u13.heap.size ≤ u12.heap.size + 1 := by rw [hu13]; simp
          have ho : Only (fun _ => False) u12 u13 := by rw [hu13]; exact (Only.refl _ _).alloc _
          have O2 := Lib.hid (Only.refl (fun _ => False) u13)
          replace OA := Lib.hid (OA.out.trans ho)
          replace O1 := Lib.hid (O1.out.trans ho)
          replace OB := Lib.hid (OB.out.trans ho)
          replace hot := Lib.hid (hot.out.trans ho)
          clear ho hu13
          refine hK.out _ _ (HS1.out _ hot.out) (fun hHeld13 => ?_)
          clear hK K
          try simp only [List.getElem_toArray, List.getElem_cons_zero, List.getElem_cons_succ, Act.put, List.setIfInBounds_toArray, List.set_cons_zero, List.set_cons_succ]
          refine wpAnyH_ready (rs := [8]) (by kernel_rfl) (by simp) ?_
          refine AllReadyH.cons rfl (fun K hK => ?_) AllReadyH.nil
          try simp only [List.getElem_toArray, List.getElem_cons_zero, List.getElem_cons_succ]
          go_simp
          have hz : BoxV u13 (u1.heap.size) (plV 0 0 0 0 0 0 0 0 0 none none 0 0 0 0) := Z1.out.only O1.out (fun f => f)
          obtain ⟨⟨z0, z1, z2, z3, z4, z5, z6, z7, z8, z9, z10⟩, y0, y1, y2, y3, y4, y5, y6, y7, y8, y9, y10⟩ := hz.all
          obtain ⟨u14, hp, hk, hW⟩ := plan_put hz rfl D F T G1 M1 B1 G2 M2 B2 a3 a4 s1.length s2.length q3 q4
          go_simp
          rw [← hW]
          have KW1 := Lib.hid hk
          have HP1 := Lib.hid hp
          have hot1 : Hid (Only (fun _ => False) W0 u14) := Lib.hid (hot.out.then hk (fun i hi e => by have e' : i = u1.heap.size := e; omega))
          have sz14 : u13.heap.size ≤ u14.heap.size := hk.size
          clear hz hp hk hW z0 z1 z2 z3 z4 z5 z6 z7 z8 z9 z10 y0 y1 y2 y3 y4 y5 y6 y7 y8 y9 y10
          refine hK.out _ _ (HS1.out _ hot1.out) (fun hHeld14 => ?_)
          clear hK K
          try simp only [List.getElem_toArray, List.getElem_cons_zero, List.getElem_cons_succ, Act.put, List.setIfInBounds_toArray, List.set_cons_zero, List.set_cons_succ]
          refine wpAnyH_ready (rs := [9]) (by kernel_rfl) (by simp) ?_
          refine AllReadyH.cons rfl (fun K hK => ?_) AllReadyH.nil
          try simp only [List.getElem_toArray, List.getElem_cons_zero, List.getElem_cons_succ]
          go_simp
          have hz : BoxV u14 (u12.heap.size) (plV 0 0 0 0 0 0 0 0 0 none none 0 0 0 0) := (Z2.out.only O2.out (fun f => f)).only KW1.out (fun e => by have e' : u12.heap.size = u1.heap.size := e; omega)
          obtain ⟨⟨z0, z1, z2, z3, z4, z5, z6, z7, z8, z9, z10⟩, y0, y1, y2, y3, y4, y5, y6, y7, y8, y9, y10⟩ := hz.all
          obtain ⟨u15, hp, hk, hW⟩ := plan_put hz rfl E H I K1 N1 C1 K2 N2 C2 b3 b4 r1.length r2.length q5 q6
          go_simp
          rw [← hW]
          have KW2 := Lib.hid hk
          have HP2 := Lib.hid hp
          have hot2 : Hid (Only (fun _ => False) W0 u15) := Lib.hid (hot1.out.then hk (fun i hi e => by have e' : i = u12.heap.size := e; omega))
          have sz15 : u14.heap.size ≤ u15.heap.size := hk.size
          clear hz hp hk hW z0 z1 z2 z3 z4 z5 z6 z7 z8 z9 z10 y0 y1 y2 y3 y4 y5 y6 y7 y8 y9 y10
          refine hK.out _ _ (HS1.out _ hot2.out) (fun hHeld15 => ?_)
          clear hK K
          try simp only [List.getElem_toArray, List.getElem_cons_zero, List.getElem_cons_succ, Act.put, List.setIfInBounds_toArray, List.set_cons_zero, List.set_cons_succ]
          refine wpAnyH_done (by kernel_rfl) ?_ _
          refine NoPanic.normal ?_
          go_wp2_with fail
          go_meet
          exact ⟨u1.heap.size, u12.heap.size, a3, a4, q3, q4, b3, b4, q5, q6, rfl, rfl, Lib.hid (HP1.out.only KW2.out (fun e => by have e' : u1.heap.size = u12.heap.size := e; omega)), HP2, Lib.hid (RA1.out.far (S := fun x => x = u1.heap.size ∨ x = u12.heap.size) LA1.out (((OA.out.mono (fun _ _ f => f.elim)).then KW1.out (fun i _ e => .inl e)).then KW2.out (fun i _ e => .inr e)) (fun x h1 h2 e => by rcases e with e | e <;> omega)), Lib.hid (RA2.out.far (S := fun x => x = u1.heap.size ∨ x = u12.heap.size) LA2.out (((OA.out.mono (fun _ _ f => f.elim)).then KW1.out (fun i _ e => .inl e)).then KW2.out (fun i _ e => .inr e)) (fun x h1 h2 e => by rcases e with e | e <;> omega)), Lib.hid (RB1.out.far (S := fun x => x = u1.heap.size ∨ x = u12.heap.size) LB1.out (((OB.out.mono (fun _ _ f => f.elim)).then KW1.out (fun i _ e => .inl e)).then KW2.out (fun i _ e => .inr e)) (fun x h1 h2 e => by rcases e with e | e <;> omega)), Lib.hid (RB2.out.far (S := fun x => x = u1.heap.size ∨ x = u12.heap.size) LB2.out (((OB.out.mono (fun _ _ f => f.elim)).then KW1.out (fun i _ e => .inl e)).then KW2.out (fun i _ e => .inr e)) (fun x h1 h2 e => by rcases e with e | e <;> omega)), hot2⟩

        · try simp only [List.getElem_toArray, List.getElem_cons_zero, List.getElem_cons_succ]
          go_simp
          obtain ⟨u16, hu16⟩ : ∃ x, x = u11.alloc (.cells #[.int .i64 0, .int .i64 0, .int .i64 0, .int .i64 0, .int .i64 0, .int .i64 0, .slice none 0 0, .int .i64 0, .int .i64 0, .int .i64 0, .slice none 0 0] 37) := ⟨_, rfl⟩
          rw [← hu16]
          have Z2 : Hid (BoxV u16 u11.heap.size zerosP) := Lib.hid (by rw [hu16]; exact BoxV.new u11 zerosP _ _ rfl)
          have sz16 : u11.heap.size + 1 ≤ u16.heap.size ∧ u16.heap.size ≤ u11.heap.size + 1 := by rw [hu16]; simp
          have ho : Only (fun _ => False) u11 u16 := by rw [hu16]; exact (Only.refl _ _).alloc _
          have O2 := Lib.hid (Only.refl (fun _ => False) u16)
          replace OA := Lib.hid (OA.out.trans ho)
          replace O1 := Lib.hid (O1.out.trans ho)
          replace hot := Lib.hid (hot.out.trans ho)
          clear ho hu16
          refine hK.out _ _ (HS1.out _ hot.out) (fun hHeld16 => ?_)
          clear hK K
          try simp only [List.getElem_toArray, List.getElem_cons_zero, List.getElem_cons_succ, Act.put, List.setIfInBounds_toArray, List.set_cons_zero, List.set_cons_succ]
          refine wpAnyH_ready (rs := [5]) (by kernel_rfl) (by simp) ?_
          refine AllReadyH.cons rfl (fun K hK => ?_) AllReadyH.nil
          try simp only [List.getElem_toArray, List.getElem_cons_zero, List.getElem_cons_succ]
          go_simp
          go_at_call 14
          with_reducible refine (HTB.out _ hot.out).mono ?_
          rintro _ u17 ⟨b3, b4, q5, q6, rfl, hr1, hr2, ho, hb1, hb2⟩
          have sz17 : u16.heap.size ≤ u17.heap.size := ho.size
          have RB1 := Lib.hid hr1
          have RB2 := Lib.hid hr2
          have LB1 := Lib.hid hb1
          have LB2 := Lib.hid hb2
          have OB := Lib.hid (Only.refl (fun _ => False) u17)
          replace OA := Lib.hid (OA.out.trans ho)
          replace O1 := Lib.hid (O1.out.trans ho)
          replace O2 := Lib.hid (O2.out.trans ho)
          replace hot := Lib.hid (hot.out.trans ho)
          clear ho hr1 hr2 hb1 hb2
          try dsimp only
          refine hK.out _ _ (HS1.out _ hot.out) (fun hHeld17 => ?_)
          clear hK K
          try simp only [List.getElem_toArray, List.getElem_cons_zero, List.getElem_cons_succ, Act.put, List.setIfInBounds_toArray, List.set_cons_zero, List.set_cons_succ]
          refine wpAnyH_ready (rs := [8]) (by kernel_rfl) (by simp) ?_
          refine AllReadyH.cons rfl (fun K hK => ?_) AllReadyH.nil
          try simp only [List.getElem_toArray, List.getElem_cons_zero, List.getElem_cons_succ]
          go_simp
          have hz : BoxV u17 (u1.heap.size) (plV 0 0 0 0 0 0 0 0 0 none none 0 0 0 0) := Z1.out.only O1.out (fun f => f)
          obtain ⟨⟨z0, z1, z2, z3, z4, z5, z6, z7, z8, z9, z10⟩, y0, y1, y2, y3, y4, y5, y6, y7, y8, y9, y10⟩ := hz.all
          obtain ⟨u18, hp, hk, hW⟩ := plan_put hz rfl D F T G1 M1 B1 G2 M2 B2 a3 a4 s1.length s2.length q3 q4
          go_simp
          rw [← hW]
          have KW1 := Lib.hid hk
          have HP1 := Lib.hid hp
          have hot1 : Hid (Only (fun _ => False) W0 u18) := Lib.hid (hot.out.then hk (fun i hi e => by have e' : i = u1.heap.size := e; omega))
          have sz18 : u17.heap.size ≤ u18.heap.size := hk.size
          clear hz hp hk hW z0 z1 z2 z3 z4 z5 z6 z7 z8 z9 z10 y0 y1 y2 y3 y4 y5 y6 y7 y8 y9 y10
          refine hK.out _ _ (HS1.out _ hot1.out) (fun hHeld18 => ?_)
          clear hK K
          try simp only [List.getElem_toArray, List.getElem_cons_zero, List.getElem_cons_succ, Act.put, List.setIfInBounds_toArray, List.set_cons_zero, List.set_cons_succ]
          refine wpAnyH_ready (rs := [9]) (by kernel_rfl) (by simp) ?_
          refine AllReadyH.cons rfl (fun K hK => ?_) AllReadyH.nil
          try simp only [List.getElem_toArray, List.getElem_cons_zero, List.getElem_cons_succ]
          go_simp
          have hz : BoxV u18 (u11.heap.size) (plV 0 0 0 0 0 0 0 0 0 none none 0 0 0 0) := (Z2.out.only O2.out (fun f => f)).only KW1.out (fun e => by have e' : u11.heap.size = u1.heap.size := e; omega)
          obtain ⟨⟨z0, z1, z2, z3, z4, z5, z6, z7, z8, z9, z10⟩, y0, y1, y2, y3, y4, y5, y6, y7, y8, y9, y10⟩ := hz.all
          obtain ⟨u19, hp, hk, hW⟩ := plan_put hz rfl E H I K1 N1 C1 K2 N2 C2 b3 b4 r1.length r2.length q5 q6
          go_simp
          rw [← hW]
          have KW2 := Lib.hid hk
          have HP2 := Lib.hid hp
          have hot2 : Hid (Only (fun _ => False) W0 u19) := Lib.hid (hot1.out.then hk (fun i hi e => by have e' : i = u11.heap.size := e; omega))
          have sz19 : u18.heap.size ≤ u19.heap.size := hk.size
          clear hz hp hk hW z0 z1 z2 z3 z4 z5 z6 z7 z8 z9 z10 y0 y1 y2 y3 y4 y5 y6 y7 y8 y9 y10
          refine hK.out _ _ (HS1.out _ hot2.out) (fun hHeld19 => ?_)
          clear hK K
          try simp only [List.getElem_toArray, List.getElem_cons_zero, List.getElem_cons_succ, Act.put, List.setIfInBounds_toArray, List.set_cons_zero, List.set_cons_succ]
          refine wpAnyH_done (by kernel_rfl) ?_ _
          refine NoPanic.normal ?_
          go_wp2_with fail
          go_meet
          exact ⟨u1.heap.size, u11.heap.size, a3, a4, q3, q4, b3, b4, q5, q6, rfl, rfl, Lib.hid (HP1.out.only KW2.out (fun e => by have e' : u1.heap.size = u11.heap.size := e; omega)), HP2, Lib.hid (RA1.out.far (S := fun x => x = u1.heap.size ∨ x = u11.heap.size) LA1.out (((OA.out.mono (fun _ _ f => f.elim)).then KW1.out (fun i _ e => .inl e)).then KW2.out (fun i _ e => .inr e)) (fun x h1 h2 e => by rcases e with e | e <;> omega)), Lib.hid (RA2.out.far (S := fun x => x = u1.heap.size ∨ x = u11.heap.size) LA2.out (((OA.out.mono (fun _ _ f => f.elim)).then KW1.out (fun i _ e => .inl e)).then KW2.out (fun i _ e => .inr e)) (fun x h1 h2 e => by rcases e with e | e <;> omega)), Lib.hid (RB1.out.far (S := fun x => x = u1.heap.size ∨ x = u11.heap.size) LB1.out (((OB.out.mono (fun _ _ f => f.elim)).then KW1.out (fun i _ e => .inl e)).then KW2.out (fun i _ e => .inr e)) (fun x h1 h2 e => by rcases e with e | e <;> omega)), Lib.hid (RB2.out.far (S := fun x => x = u1.heap.size ∨ x = u11.heap.size) LB2.out (((OB.out.mono (fun _ _ f => f.elim)).then KW1.out (fun i _ e => .inl e)).then KW2.out (fun i _ e => .inr e)) (fun x h1 h2 e => by rcases e with e | e <;> omega)), hot2⟩

      · try simp only [List.getElem_toArray, List.getElem_cons_zero, List.getElem_cons_succ]
        go_simp
        obtain ⟨u20, hu20⟩ : ∃ x, x = u1.alloc (.cells #[.int .i64 0, .int .i64 0, .int .i64 0, .int .i64 0, .int .i64 0, .int .i64 0, .slice none 0 0, .int .i64 0, .int .i64 0, .int .i64 0, .slice none 0 0] 37) := ⟨_, rfl⟩
        rw [← hu20]
        have Z2 : Hid (BoxV u20 u1.heap.size zerosP) := Lib.hid (by rw [hu20]; exact BoxV.new u1 zerosP _ _ rfl)
        have sz20 : u1.heap.size + 1 ≤ u20.heap.size ∧ u20.heap.size ≤ u1.heap.size + 1 := by rw [hu20]; simp
        have ho : Only (fun _ => False) u1 u20 := by rw [hu20]; exact (Only.refl _ _).alloc _
        have O2 := Lib.hid (Only.refl (fun _ => False) u20)
        replace OA := Lib.hid (OA.out.trans ho)
        replace hot := Lib.hid (hot.out.trans ho)
        clear ho hu20
        refine hK.out _ _ (HS1.out _ hot.out) (fun hHeld20 => ?_)
        clear hK K
        try simp only [List.getElem_toArray, List.getElem_cons_zero, List.getElem_cons_succ, Act.put, List.setIfInBounds_toArray, List.set_cons_zero, List.set_cons_succ]
        refine wpAnyH_ready (rs := [5, 6]) (by kernel_rfl) (by simp) ?_
        refine AllReadyH.cons rfl (fun K hK => ?_) (AllReadyH.cons rfl (fun K hK => ?_) AllReadyH.nil)
        · try simp only [List.getElem_toArray, List.getElem_cons_zero, List.getElem_cons_succ]
          go_simp
          go_at_call 14
          with_reducible refine (HTB.out _ hot.out).mono ?_
          rintro _ u21 ⟨b3, b4, q5, q6, rfl, hr1, hr2, ho, hb1, hb2⟩
          have sz21 : u20.heap.size ≤ u21.heap.size := ho.size
          have RB1 := Lib.hid hr1
          have RB2 := Lib.hid hr2
          have LB1 := Lib.hid hb1
          have LB2 := Lib.hid hb2
          have OB := Lib.hid (Only.refl (fun _ => False) u21)
          replace OA := Lib.hid (OA.out.trans ho)
          replace O2 := Lib.hid (O2.out.trans ho)
          replace hot := Lib.hid (hot.out.trans ho)
          clear ho hr1 hr2 hb1 hb2
          try dsimp only
          refine hK.out _ _ (HS1.out _ hot.out) (fun hHeld21 => ?_)
          clear hK K
          try simp only [List.getElem_toArray, List.getElem_cons_zero, List.getElem_cons_succ, Act.put, List.setIfInBounds_toArray, List.set_cons_zero, List.set_cons_succ]
          refine wpAnyH_ready (rs := [6]) (by kernel_rfl) (by simp) ?_
          refine AllReadyH.cons rfl (fun K hK => ?_) AllReadyH.nil
          try simp only [List.getElem_toArray, List.getElem_cons_zero, List.getElem_cons_succ]
          go_simp
          obtain ⟨u22, hu22⟩ : ∃ x, x = u21.alloc (.cells #[.int .i64 0, .int .i64 0, .int .i64 0, .int .i64 0, .int .i64 0, .int .i64 0, .slice none 0 0, .int .i64 0, .int .i64 0, .int .i64 0, .slice none 0 0] 37) := ⟨_, rfl⟩
          rw [← hu22]
          have Z1 : Hid (BoxV u22 u21.heap.size zerosP) := Lib.hid (by rw [hu22]; exact BoxV.new u21 zerosP _ _ rfl)
          have sz22 : u21.heap.size + 1 ≤ u22.heap.size ∧ u22.heap.size ≤ u21.heap.size + 1 := by rw [hu22]; simp
          have ho : Only (fun _ => False) u21 u22 := by rw [hu22]; exact (Only.refl _ _).alloc _
          have O1 := Lib.hid (Only.refl (fun _ => False) u22)
          replace OA := Lib.hid (OA.out.trans ho)
          replace O2 := Lib.hid (O2.out.trans ho)
          replace OB := Lib.hid (OB.out.trans ho)
          replace hot := Lib.hid (hot.out.trans ho)
          clear ho hu22
          refine hK.out _ _ (HS1.out _ hot.out) (fun hHeld22 => ?_)
          clear hK K
          try simp only [List.getElem_toArray, List.getElem_cons_zero, List.getElem_cons_succ, Act.put, List.setIfInBounds_toArray, List.set_cons_zero, List.set_cons_succ]
          refine wpAnyH_ready (rs := [8]) (by kernel_rfl) (by simp) ?_
          refine AllReadyH.cons rfl (fun K hK => ?_) AllReadyH.nil
          try simp only [List.getElem_toArray, List.getElem_cons_zero, List.getElem_cons_succ]
          go_simp
          have hz : BoxV u22 (u21.heap.size) (plV 0 0 0 0 0 0 0 0 0 none none 0 0 0 0) := Z1.out.only O1.out (fun f => f)
          obtain ⟨⟨z0, z1, z2, z3, z4, z5, z6, z7, z8, z9, z10⟩, y0, y1, y2, y3, y4, y5, y6, y7, y8, y9, y10⟩ := hz.all
          obtain ⟨u23, hp, hk, hW⟩ := plan_put hz rfl D F T G1 M1 B1 G2 M2 B2 a3 a4 s1.length s2.length q3 q4
          go_simp
          rw [← hW]
          have KW1 := Lib.hid hk
          have HP1 := Lib.hid hp
          have hot1 : Hid (Only (fun _ => False) W0 u23) := Lib.hid (hot.out.then hk (fun i hi e => by have e' : i = u21.heap.size := e; omega))
          have sz23 : u22.heap.size ≤ u23.heap.size := hk.size
          clear hz hp hk hW z0 z1 z2 z3 z4 z5 z6 z7 z8 z9 z10 y0 y1 y2 y3 y4 y5 y6 y7 y8 y9 y10
          refine hK.out _ _ (HS1.out _ hot1.out) (fun hHeld23 => ?_)
          clear hK K
          try simp only [List.getElem_toArray, List.getElem_cons_zero, List.getElem_cons_succ, Act.put, List.setIfInBounds_toArray, List.set_cons_zero, List.set_cons_succ]
          refine wpAnyH_ready (rs := [9]) (by kernel_rfl) (by simp) ?_
          refine AllReadyH.cons rfl (fun K hK => ?_) AllReadyH.nil
          try simp only [List.getElem_toArray, List.getElem_cons_zero, List.getElem_cons_succ]
          go_simp
          have hz : BoxV u23 (u1.heap.size) (plV 0 0 0 0 0 0 0 0 0 none none 0 0 0 0) := (Z2.out.only O2.out (fun f => f)).only KW1.out (fun e => by have e' : u1.heap.size = u21.heap.size := e; omega)
          obtain ⟨⟨z0, z1, z2, z3, z4, z5, z6, z7, z8, z9, z10⟩, y0, y1, y2, y3, y4, y5, y6, y7, y8, y9, y10⟩ := hz.all
          obtain ⟨u24, hp, hk, hW⟩ := plan_put hz rfl E H I K1 N1 C1 K2 N2 C2 b3 b4 r1.length r2.length q5 q6
          go_simp
          rw [← hW]
          have KW2 := Lib.hid hk
          have HP2 := Lib.hid hp
          have hot2 : Hid (Only (fun _ => False) W0 u24) := Lib.hid (hot1.out.then hk (fun i hi e => by have e' : i = u1.heap.size := e; omega))
          have sz24 : u23.heap.size ≤ u24.heap.size := hk.size
          clear hz hp hk hW z0 z1 z2 z3 z4 z5 z6 z7 z8 z9 z10 y0 y1 y2 y3 y4 y5 y6 y7 y8 y9 y10
          refine hK.out _ _ (HS1.out _ hot2.out) (fun hHeld24 => ?_)
          clear hK K
          try simp only [List.getElem_toArray, List.getElem_cons_zero, List.getElem_cons_succ, Act.put, List.setIfInBounds_toArray, List.set_cons_zero, List.set_cons_succ]
          refine wpAnyH_done (by kernel_rfl) ?_ _
          refine NoPanic.normal ?_
          go_wp2_with fail
          go_meet
          exact ⟨u21.heap.size, u1.heap.size, a3, a4, q3, q4, b3, b4, q5, q6, rfl, rfl, Lib.hid (HP1.out.only KW2.out (fun e => by have e' : u21.heap.size = u1.heap.size := e; omega)), HP2, Lib.hid (RA1.out.far (S := fun x => x = u21.heap.size ∨ x = u1.heap.size) LA1.out (((OA.out.mono (fun _ _ f => f.elim)).then KW1.out (fun i _ e => .inl e)).then KW2.out (fun i _ e => .inr e)) (fun x h1 h2 e => by rcases e with e | e <;> omega)), Lib.hid (RA2.out.far (S := fun x => x = u21.heap.size ∨ x = u1.heap.size) LA2.out (((OA.out.mono (fun _ _ f => f.elim)).then KW1.out (fun i _ e => .inl e)).then KW2.out (fun i _ e => .inr e)) (fun x h1 h2 e => by rcases e with e | e <;> omega)), Lib.hid (RB1.out.far (S := fun x => x = u21.heap.size ∨ x = u1.heap.size) LB1.out (((OB.out.mono (fun _ _ f => f.elim)).then KW1.out (fun i _ e => .inl e)).then KW2.out (fun i _ e => .inr e)) (fun x h1 h2 e => by rcases e with e | e <;> omega)), Lib.hid (RB2.out.far (S := fun x => x = u21.heap.size ∨ x = u1.heap.size) LB2.out (((OB.out.mono (fun _ _ f => f.elim)).then KW1.out (fun i _ e => .inl e)).then KW2.out (fun i _ e => .inr e)) (fun x h1 h2 e => by rcases e with e | e <;> omega)), hot2⟩

        · try simp only [List.getElem_toArray, List.getElem_cons_zero, List.getElem_cons_succ]
          go_simp
          obtain ⟨u25, hu25⟩ : ∃ x, x = u20.alloc (.cells #[.int .i64 0, .int .i64 0, .int .i64 0, .int .i64 0, .int .i64 0, .int .i64 0, .slice none 0 0, .int .i64 0, .int .i64 0, .int .i64 0, .slice none 0 0] 37) := ⟨_, rfl⟩
          rw [← hu25]
          have Z1 : Hid (BoxV u25 u20.heap.size zerosP) := Lib.hid (by rw [hu25]; exact BoxV.new u20 zerosP _ _ rfl)
          have sz25 : u20.heap.size + 1 ≤ u25.heap.size ∧ u25.heap.size ≤ u20.heap.size + 1 := by rw [hu25]; simp
          have ho : Only (fun _ => False) u20 u25 := by rw [hu25]; exact (Only.refl _ _).alloc _
          have O1 := Lib.hid (Only.refl (fun _ => False) u25)
          replace OA := Lib.hid (OA.out.trans ho)
          replace O2 := Lib.hid (O2.out.trans ho)
          replace hot := Lib.hid (hot.out.trans ho)
          clear ho hu25
          refine hK.out _ _ (HS1.out _ hot.out) (fun hHeld25 => ?_)
          clear hK K
          try simp only [List.getElem_toArray, List.getElem_cons_zero, List.getElem_cons_succ, Act.put, List.setIfInBounds_toArray, List.set_cons_zero, List.set_cons_succ]
          refine wpAnyH_ready (rs := [5]) (by kernel_rfl) (by simp) ?_
          refine AllReadyH.cons rfl (fun K hK => ?_) AllReadyH.nil
          try simp only [List.getElem_toArray, List.getElem_cons_zero, List.getElem_cons_succ]
          go_simp
          go_at_call 14
          with_reducible refine (HTB.out _ hot.out).mono ?_
          rintro _ u26 ⟨b3, b4, q5, q6, rfl, hr1, hr2, ho, hb1, hb2⟩
          have sz26 : u25.heap.size ≤ u26.heap.size := ho.size
          have RB1 := Lib.hid hr1
          have RB2 := Lib.hid hr2
          have LB1 := Lib.hid hb1
          have LB2 := Lib.hid hb2
          have OB := Lib.hid (Only.refl (fun _ => False) u26)
          replace OA := Lib.hid (OA.out.trans ho)
          replace O2 := Lib.hid (O2.out.trans ho)
          replace O1 := Lib.hid (O1.out.trans ho)
          replace hot := Lib.hid (hot.out.trans ho)
          clear ho hr1 hr2 hb1 hb2
          try dsimp only
          refine hK.out _ _ (HS1.out _ hot.out) (fun hHeld26 => ?_)
          clear hK K
          try simp only [List.getElem_toArray, List.getElem_cons_zero, List.getElem_cons_succ, Act.put, List.setIfInBounds_toArray, List.set_cons_zero, List.set_cons_succ]
          refine wpAnyH_ready (rs := [8]) (by kernel_rfl) (by simp) ?_
          refine AllReadyH.cons rfl (fun K hK => ?_) AllReadyH.nil
          try simp only [List.getElem_toArray, List.getElem_cons_zero, List.getElem_cons_succ]
          go_simp
          have hz : BoxV u26 (u20.heap.size) (plV 0 0 0 0 0 0 0 0 0 none none 0 0 0 0) := Z1.out.only O1.out (fun f => f)
          obtain ⟨⟨z0, z1, z2, z3, z4, z5, z6, z7, z8, z9, z10⟩, y0, y1, y2, y3, y4, y5, y6, y7, y8, y9, y10⟩ := hz.all
          obtain ⟨u27, hp, hk, hW⟩ := plan_put hz rfl D F T G1 M1 B1 G2 M2 B2 a3 a4 s1.length s2.length q3 q4
          go_simp
          rw [← hW]
          have KW1 := Lib.hid hk
          have HP1 := Lib.hid hp
          have hot1 : Hid (Only (fun _ => False) W0 u27) := Lib.hid (hot.out.then hk (fun i hi e => by have e' : i = u20.heap.size := e; omega))
          have sz27 : u26.heap.size ≤ u27.heap.size := hk.size
          clear hz hp hk hW z0 z1 z2 z3 z4 z5 z6 z7 z8 z9 z10 y0 y1 y2 y3 y4 y5 y6 y7 y8 y9 y10
          refine hK.out _ _ (HS1.out _ hot1.out) (fun hHeld27 => ?_)
          clear hK K
          try simp only [List.getElem_toArray, List.getElem_cons_zero, List.getElem_cons_succ, Act.put, List.setIfInBounds_toArray, List.set_cons_zero, List.set_cons_succ]
          refine wpAnyH_ready (rs := [9]) (by kernel_rfl) (by simp) ?_
          refine AllReadyH.cons rfl (fun K hK => ?_) AllReadyH.nil
          try simp only [List.getElem_toArray, List.getElem_cons_zero, List.getElem_cons_succ]
          go_simp
          have hz : BoxV u27 (u1.heap.size) (plV 0 0 0 0 0 0 0 0 0 none none 0 0 0 0) := (Z2.out.only O2.out (fun f => f)).only KW1.out (fun e => by have e' : u1.heap.size = u20.heap.size := e; omega)
          obtain ⟨⟨z0, z1, z2, z3, z4, z5, z6, z7, z8, z9, z10⟩, y0, y1, y2, y3, y4, y5, y6, y7, y8, y9, y10⟩ := hz.all
          obtain ⟨u28, hp, hk, hW⟩ := plan_put hz rfl E H I K1 N1 C1 K2 N2 C2 b3 b4 r1.length r2.length q5 q6
          go_simp
          rw [← hW]
          have KW2 := Lib.hid hk
          have HP2 := Lib.hid hp
          have hot2 : Hid (Only (fun _ => False) W0 u28) := Lib.hid (hot1.out.then hk (fun i hi e => by have e' : i = u1.heap.size := e; omega))
          have sz28 : u27.heap.size ≤ u28.heap.size := hk.size
          clear hz hp hk hW z0 z1 z2 z3 z4 z5 z6 z7 z8 z9 z10 y0 y1 y2 y3 y4 y5 y6 y7 y8 y9 y10
          refine hK.out _ _ (HS1.out _ hot2.out) (fun hHeld28 => ?_)
          clear hK K
          try simp only [List.getElem_toArray, List.getElem_cons_zero, List.getElem_cons_succ, Act.put, List.setIfInBounds_toArray, List.set_cons_zero, List.set_cons_succ]
          refine wpAnyH_done (by kernel_rfl) ?_ _
          refine NoPanic.normal ?_
          go_wp2_with fail
          go_meet
          exact ⟨u20.heap.size, u1.heap.size, a3, a4, q3, q4, b3, b4, q5, q6, rfl, rfl, Lib.hid (HP1.out.only KW2.out (fun e => by have e' : u20.heap.size = u1.heap.size := e; omega)), HP2, Lib.hid (RA1.out.far (S := fun x => x = u20.heap.size ∨ x = u1.heap.size) LA1.out (((OA.out.mono (fun _ _ f => f.elim)).then KW1.out (fun i _ e => .inl e)).then KW2.out (fun i _ e => .inr e)) (fun x h1 h2 e => by rcases e with e | e <;> omega)), Lib.hid (RA2.out.far (S := fun x => x = u20.heap.size ∨ x = u1.heap.size) LA2.out (((OA.out.mono (fun _ _ f => f.elim)).then KW1.out (fun i _ e => .inl e)).then KW2.out (fun i _ e => .inr e)) (fun x h1 h2 e => by rcases e with e | e <;> omega)), Lib.hid (RB1.out.far (S := fun x => x = u20.heap.size ∨ x = u1.heap.size) LB1.out (((OB.out.mono (fun _ _ f => f.elim)).then KW1.out (fun i _ e => .inl e)).then KW2.out (fun i _ e => .inr e)) (fun x h1 h2 e => by rcases e with e | e <;> omega)), Lib.hid (RB2.out.far (S := fun x => x = u20.heap.size ∨ x = u1.heap.size) LB2.out (((OB.out.mono (fun _ _ f => f.elim)).then KW1.out (fun i _ e => .inl e)).then KW2.out (fun i _ e => .inr e)) (fun x h1 h2 e => by rcases e with e | e <;> omega)), hot2⟩

    · try simp only [List.getElem_toArray, List.getElem_cons_zero, List.getElem_cons_succ]
      go_simp
      obtain ⟨u29, hu29⟩ : ∃ x, x = u0.alloc (.cells #[.int .i64 0, .int .i64 0, .int .i64 0, .int .i64 0, .int .i64 0, .int .i64 0, .slice none 0 0, .int .i64 0, .int .i64 0, .int .i64 0, .slice none 0 0] 37) := ⟨_, rfl⟩
      rw [← hu29]
      have Z1 : Hid (BoxV u29 u0.heap.size zerosP) := Lib.hid (by rw [hu29]; exact BoxV.new u0 zerosP _ _ rfl)
      have sz29 : u0.heap.size + 1 ≤ u29.heap.size ∧ u29.heap.size ≤ u0.heap.size + 1 := by rw [hu29]; simp
      have ho : Only (fun _ => False) u0 u29 := by rw [hu29]; exact (Only.refl _ _).alloc _
      have O1 := Lib.hid (Only.refl (fun _ => False) u29)
      replace hot := Lib.hid (hot.out.trans ho)
      clear ho hu29
      refine hK.out _ _ (HS1.out _ hot.out) (fun hHeld29 => ?_)
      clear hK K
      try simp only [List.getElem_toArray, List.getElem_cons_zero, List.getElem_cons_succ, Act.put, List.setIfInBounds_toArray, List.set_cons_zero, List.set_cons_succ]
      refine wpAnyH_ready (rs := [2, 7]) (by kernel_rfl) (by simp) ?_
      refine AllReadyH.cons rfl (fun K hK => ?_) (AllReadyH.cons rfl (fun K hK => ?_) AllReadyH.nil)
      · try simp only [List.getElem_toArray, List.getElem_cons_zero, List.getElem_cons_succ]
        go_simp
        go_at_call 14
        with_reducible refine (HTA.out _ hot.out).mono ?_
        rintro _ u30 ⟨a3, a4, q3, q4, rfl, hr1, hr2, ho, hb1, hb2⟩
        have sz30 : u29.heap.size ≤ u30.heap.size := ho.size
        have RA1 := Lib.hid hr1
        have RA2 := Lib.hid hr2
        have LA1 := Lib.hid hb1
        have LA2 := Lib.hid hb2
        have OA := Lib.hid (Only.refl (fun _ => False) u30)
        replace O1 := Lib.hid (O1.out.trans ho)
        replace hot := Lib.hid (hot.out.trans ho)
        clear ho hr1 hr2 hb1 hb2
        try dsimp only
        refine hK.out _ _ (HS1.out _ hot.out) (fun hHeld30 => ?_)
        clear hK K
        try simp only [List.getElem_toArray, List.getElem_cons_zero, List.getElem_cons_succ, Act.put, List.setIfInBounds_toArray, List.set_cons_zero, List.set_cons_succ]
        refine wpAnyH_ready (rs := [5, 7]) (by kernel_rfl) (by simp) ?_
        refine AllReadyH.cons rfl (fun K hK => ?_) (AllReadyH.cons rfl (fun K hK => ?_) AllReadyH.nil)
        · try simp only [List.getElem_toArray, List.getElem_cons_zero, List.getElem_cons_succ]
          go_simp
          go_at_call 14
          with_reducible refine (HTB.out _ hot.out).mono ?_
          rintro _ u31 ⟨b3, b4, q5, q6, rfl, hr1, hr2, ho, hb1, hb2⟩
          have sz31 : u30.heap.size ≤ u31.heap.size := ho.size
          have RB1 := Lib.hid hr1
          have RB2 := Lib.hid hr2
          have LB1 := Lib.hid hb1
          have LB2 := Lib.hid hb2
          have OB := Lib.hid (Only.refl (fun _ => False) u31)
          replace O1 := Lib.hid (O1.out.trans ho)
          replace OA := Lib.hid (OA.out.trans ho)
          replace hot := Lib.hid (hot.out.trans ho)
          clear ho hr1 hr2 hb1 hb2
          try dsimp only
          refine hK.out _ _ (HS1.out _ hot.out) (fun hHeld31 => ?_)
          clear hK K
          try simp only [List.getElem_toArray, List.getElem_cons_zero, List.getElem_cons_succ, Act.put, List.setIfInBounds_toArray, List.set_cons_zero, List.set_cons_succ]
          refine wpAnyH_ready (rs := [7]) (by kernel_rfl) (by simp) ?_
          refine AllReadyH.cons rfl (fun K hK => ?_) AllReadyH.nil
          try simp only [List.getElem_toArray, List.getElem_cons_zero, List.getElem_cons_succ]
          go_simp
          obtain ⟨u32, hu32⟩ : ∃ x, x = u31.alloc (.cells #[.int .i64 0, .int .i64 0, .int .i64 0, .int .i64 0, .int .i64 0, .int .i64 0, .slice none 0 0, .int .i64 0, .int .i64 0, .int .i64 0, .slice none 0 0] 37) := ⟨_, rfl⟩
          rw [← hu32]
          have Z2 : Hid (BoxV u32 u31.heap.size zerosP) := Lib.hid (by rw [hu32]; exact BoxV.new u31 zerosP _ _ rfl)
          have sz32 : u31.heap.size + 1 ≤ u32.heap.size ∧ u32.heap.size ≤ u31.heap.size + 1 := by rw [hu32]; simp
          have ho : Only (fun _ => False) u31 u32 := by rw [hu32]; exact (Only.refl _ _).alloc _
          have O2 := Lib.hid (Only.refl (fun _ => False) u32)
          replace O1 := Lib.hid (O1.out.trans ho)
          replace OA := Lib.hid (OA.out.trans ho)
          replace OB := Lib.hid (OB.out.trans ho)
          replace hot := Lib.hid (hot.out.trans ho)
          clear ho hu32
          refine hK.out _ _ (HS1.out _ hot.out) (fun hHeld32 => ?_)
          clear hK K
          try simp only [List.getElem_toArray, List.getElem_cons_zero, List.getElem_cons_succ, Act.put, List.setIfInBounds_toArray, List.set_cons_zero, List.set_cons_succ]
          refine wpAnyH_ready (rs := [8]) (by kernel_rfl) (by simp) ?_
          refine AllReadyH.cons rfl (fun K hK => ?_) AllReadyH.nil
          try simp only [List.getElem_toArray, List.getElem_cons_zero, List.getElem_cons_succ]
          go_simp
          have hz : BoxV u32 (u0.heap.size) (plV 0 0 0 0 0 0 0 0 0 none none 0 0 0 0) := Z1.out.only O1.out (fun f => f)
          obtain ⟨⟨z0, z1, z2, z3, z4, z5, z6, z7, z8, z9, z10⟩, y0, y1, y2, y3, y4, y5, y6, y7, y8, y9, y10⟩ := hz.all
          obtain ⟨u33, hp, hk, hW⟩ := plan_put hz rfl D F T G1 M1 B1 G2 M2 B2 a3 a4 s1.length s2.length q3 q4
          go_simp
          rw [← hW]
          have KW1 := Lib.hid hk
          have HP1 := Lib.hid hp
          have hot1 : Hid (Only (fun _ => False) W0 u33) := Lib.hid (hot.out.then hk (fun i hi e => by have e' : i = u0.heap.size := e; omega))
          have sz33 : u32.heap.size ≤ u33.heap.size := hk.size
          clear hz hp hk hW z0 z1 z2 z3 z4 z5 z6 z7 z8 z9 z10 y0 y1 y2 y3 y4 y5 y6 y7 y8 y9 y10
          refine hK.out _ _ (HS1.out _ hot1.out) (fun hHeld33 => ?_)
          clear hK K
          try simp only [List.getElem_toArray, List.getElem_cons_zero, List.getElem_cons_succ, Act.put, List.setIfInBounds_toArray, List.set_cons_zero, List.set_cons_succ]
          refine wpAnyH_ready (rs := [9]) (by kernel_rfl) (by simp) ?_
          refine AllReadyH.cons rfl (fun K hK => ?_) AllReadyH.nil
          try simp only [List.getElem_toArray, List.getElem_cons_zero, List.getElem_cons_succ]
          go_simp
          have hz : BoxV u33 (u31.heap.size) (plV 0 0 0 0 0 0 0 0 0 none none 0 0 0 0) := (Z2.out.only O2.out (fun f => f)).only KW1.out (fun e => by have e' : u31.heap.size = u0.heap.size := e; omega)
          obtain ⟨⟨z0, z1, z2, z3, z4, z5, z6, z7, z8, z9, z10⟩, y0, y1, y2, y3, y4, y5, y6, y7, y8, y9, y10⟩ := hz.all
          obtain ⟨u34, hp, hk, hW⟩ := plan_put hz rfl E H I K1 N1 C1 K2 N2 C2 b3 b4 r1.length r2.length q5 q6
          go_simp
          rw [← hW]
          have KW2 := Lib.hid hk
          have HP2 := Lib.hid hp
          have hot2 : Hid (Only (fun _ => False) W0 u34) := Lib.hid (hot1.out.then hk (fun i hi e => by have e' : i = u31.heap.size := e; omega))
          have sz34 : u33.heap.size ≤ u34.heap.size := hk.size
          clear hz hp hk hW z0 z1 z2 z3 z4 z5 z6 z7 z8 z9 z10 y0 y1 y2 y3 y4 y5 y6 y7 y8 y9 y10
          refine hK.out _ _ (HS1.out _ hot2.out) (fun hHeld34 => ?_)
          clear hK K
          try simp only [List.getElem_toArray, List.getElem_cons_zero, List.getElem_cons_succ, Act.put, List.setIfInBounds_toArray, List.set_cons_zero, List.set_cons_succ]
          refine wpAnyH_done (by kernel_rfl) ?_ _
          refine NoPanic.normal ?_
          go_wp2_with fail
          go_meet
          exact ⟨u0.heap.size, u31.heap.size, a3, a4, q3, q4, b3, b4, q5, q6, rfl, rfl, Lib.hid (HP1.out.only KW2.out (fun e => by have e' : u0.heap.size = u31.heap.size := e; omega)), HP2, Lib.hid (RA1.out.far (S := fun x => x = u0.heap.size ∨ x = u31.heap.size) LA1.out (((OA.out.mono (fun _ _ f => f.elim)).then KW1.out (fun i _ e => .inl e)).then KW2.out (fun i _ e => .inr e)) (fun x h1 h2 e => by rcases e with e | e <;> omega)), Lib.hid (RA2.out.far (S := fun x => x = u0.heap.size ∨ x = u31.heap.size) LA2.out (((OA.out.mono (fun _ _ f => f.elim)).then KW1.out (fun i _ e => .inl e)).then KW2.out (fun i _ e => .inr e)) (fun x h1 h2 e => by rcases e with e | e <;> omega)), Lib.hid (RB1.out.far (S := fun x => x = u0.heap.size ∨ x = u31.heap.size) LB1.out (((OB.out.mono (fun _ _ f => f.elim)).then KW1.out (fun i _ e => .inl e)).then KW2.out (fun i _ e => .inr e)) (fun x h1 h2 e => by rcases e with e | e <;> omega)), Lib.hid (RB2.out.far (S := fun x => x = u0.heap.size ∨ x = u31.heap.size) LB2.out (((OB.out.mono (fun _ _ f => f.elim)).then KW1.out (fun i _ e => .inl e)).then KW2.out (fun i _ e => .inr e)) (fun x h1 h2 e => by rcases e with e | e <;> omega)), hot2⟩

        · try simp only [List.getElem_toArray, List.getElem_cons_zero, List.getElem_cons_succ]
          go_simp
          obtain ⟨u35, hu35⟩ : ∃ x, x = u30.alloc (.cells #[.int .i64 0, .int .i64 0, .int .i64 0, .int .i64 0, .int .i64 0, .int .i64 0, .slice none 0 0, .int .i64 0, .int .i64 0, .int .i64 0, .slice none 0 0] 37) := ⟨_, rfl⟩
          rw [← hu35]
          have Z2 : Hid (BoxV u35 u30.heap.size zerosP) := Lib.hid (by rw [hu35]; exact BoxV.new u30 zerosP _ _ rfl)
          have sz35 : u30.heap.size + 1 ≤ u35.heap.size ∧ u35.heap.size ≤ u30.heap.size + 1 := by rw [hu35]; simp
          have ho : Only (fun _ => False) u30 u35 := by rw [hu35]; exact (Only.refl _ _).alloc _
          have O2 := Lib.hid (Only.refl (fun _ => False) u35)
          replace O1 := Lib.hid (O1.out.trans ho)
          replace OA := Lib.hid (OA.out.trans ho)
          replace hot := Lib.hid (hot.out.trans ho)
          clear ho hu35
          refine hK.out _ _ (HS1.out _ hot.out) (fun hHeld35 => ?_)
          clear hK K
          try simp only [List.getElem_toArray, List.getElem_cons_zero, List.getElem_cons_succ, Act.put, List.setIfInBounds_toArray, List.set_cons_zero, List.set_cons_succ]
          refine wpAnyH_ready (rs := [5]) (by kernel_rfl) (by simp) ?_
          refine AllReadyH.cons rfl (fun K hK => ?_) AllReadyH.nil
          try simp only [List.getElem_toArray, List.getElem_cons_zero, List.getElem_cons_succ]
          go_simp
          go_at_call 14
          with_reducible refine (HTB.out _ hot.out).mono ?_
          rintro _ u36 ⟨b3, b4, q5, q6, rfl, hr1, hr2, ho, hb1, hb2⟩
          have sz36 : u35.heap.size ≤ u36.heap.size := ho.size
          have RB1 := Lib.hid hr1
          have RB2 := Lib.hid hr2
          have LB1 := Lib.hid hb1
          have LB2 := Lib.hid hb2
          have OB := Lib.hid (Only.refl (fun _ => False) u36)
          replace O1 := Lib.hid (O1.out.trans ho)
          replace OA := Lib.hid (OA.out.trans ho)
          replace O2 := Lib.hid (O2.out.trans ho)
          replace hot := Lib.hid (hot.out.trans ho)
          clear ho hr1 hr2 hb1 hb2
          try dsimp only
          refine hK.out _ _ (HS1.out _ hot.out) (fun hHeld36 => ?_)
          clear hK K
          try simp only [List.getElem_toArray, List.getElem_cons_zero, List.getElem_cons_succ, Act.put, List.setIfInBounds_toArray, List.set_cons_zero, List.set_cons_succ]
          refine wpAnyH_ready (rs := [8]) (by kernel_rfl) (by simp) ?_
          refine AllReadyH.cons rfl (fun K hK => ?_) AllReadyH.nil
          try simp only [List.getElem_toArray, List.getElem_cons_zero, List.getElem_cons_succ]
          go_simp
          have hz : BoxV u36 (u0.heap.size) (plV 0 0 0 0 0 0 0 0 0 none none 0 0 0 0) := Z1.out.only O1.out (fun f => f)
          obtain ⟨⟨z0, z1, z2, z3, z4, z5, z6, z7, z8, z9, z10⟩, y0, y1, y2, y3, y4, y5, y6, y7, y8, y9, y10⟩ := hz.all
          obtain ⟨u37, hp, hk, hW⟩ := plan_put hz rfl D F T G1 M1 B1 G2 M2 B2 a3 a4 s1.length s2.length q3 q4
          go_simp
          rw [← hW]
          have KW1 := Lib.hid hk
          have HP1 := Lib.hid hp
          have hot1 : Hid (Only (fun _ => False) W0 u37) := Lib.hid (hot.out.then hk (fun i hi e => by have e' : i = u0.heap.size := e; omega))
          have sz37 : u36.heap.size ≤ u37.heap.size := hk.size
          clear hz hp hk hW z0 z1 z2 z3 z4 z5 z6 z7 z8 z9 z10 y0 y1 y2 y3 y4 y5 y6 y7 y8 y9 y10
          refine hK.out _ _ (HS1.out _ hot1.out) (fun hHeld37 => ?_)
          clear hK K
          try simp only [List.getElem_toArray, List.getElem_cons_zero, List.getElem_cons_succ, Act.put, List.setIfInBounds_toArray, List.set_cons_zero, List.set_cons_succ]
          refine wpAnyH_ready (rs := [9]) (by kernel_rfl) (by simp) ?_
          refine AllReadyH.cons rfl (fun K hK => ?_) AllReadyH.nil
          try simp only [List.getElem_toArray, List.getElem_cons_zero, List.getElem_cons_succ]
          go_simp
          have hz : BoxV u37 (u30.heap.size) (plV 0 0 0 0 0 0 0 0 0 none none 0 0 0 0) := (Z2.out.only O2.out (fun f => f)).only KW1.out (fun e => by have e' : u30.heap.size = u0.heap.size := e; omega)
          obtain ⟨⟨z0, z1, z2, z3, z4, z5, z6, z7, z8, z9, z10⟩, y0, y1, y2, y3, y4, y5, y6, y7, y8, y9, y10⟩ := hz.all
          obtain ⟨u38, hp, hk, hW⟩ := plan_put hz rfl E H I K1 N1 C1 K2 N2 C2 b3 b4 r1.length r2.length q5 q6
          go_simp
          rw [← hW]
          have KW2 := Lib.hid hk
          have HP2 := Lib.hid hp
          have hot2 : Hid (Only (fun _ => False) W0 u38) := Lib.hid (hot1.out.then hk (fun i hi e => by have e' : i = u30.heap.size := e; omega))
          have sz38 : u37.heap.size ≤ u38.heap.size := hk.size
          clear hz hp hk hW z0 z1 z2 z3 z4 z5 z6 z7 z8 z9 z10 y0 y1 y2 y3 y4 y5 y6 y7 y8 y9 y10
          refine hK.out _ _ (HS1.out _ hot2.out) (fun hHeld38 => ?_)
          clear hK K
          try simp only [List.getElem_toArray, List.getElem_cons_zero, List.getElem_cons_succ, Act.put, List.setIfInBounds_toArray, List.set_cons_zero, List.set_cons_succ]
          refine wpAnyH_done (by kernel_rfl) ?_ _
          refine NoPanic.normal ?_
          go_wp2_with fail
          go_meet
          exact ⟨u0.heap.size, u30.heap.size, a3, a4, q3, q4, b3, b4, q5, q6, rfl, rfl, Lib.hid (HP1.out.only KW2.out (fun e => by have e' : u0.heap.size = u30.heap.size := e; omega)), HP2, Lib.hid (RA1.out.far (S := fun x => x = u0.heap.size ∨ x = u30.heap.size) LA1.out (((OA.out.mono (fun _ _ f => f.elim)).then KW1.out (fun i _ e => .inl e)).then KW2.out (fun i _ e => .inr e)) (fun x h1 h2 e => by rcases e with e | e <;> omega)), Lib.hid (RA2.out.far (S := fun x => x = u0.heap.size ∨ x = u30.heap.size) LA2.out (((OA.out.mono (fun _ _ f => f.elim)).then KW1.out (fun i _ e => .inl e)).then KW2.out (fun i _ e => .inr e)) (fun x h1 h2 e => by rcases e with e | e <;> omega)), Lib.hid (RB1.out.far (S := fun x => x = u0.heap.size ∨ x = u30.heap.size) LB1.out (((OB.out.mono (fun _ _ f => f.elim)).then KW1.out (fun i _ e => .inl e)).then KW2.out (fun i _ e => .inr e)) (fun x h1 h2 e => by rcases e with e | e <;> omega)), Lib.hid (RB2.out.far (S := fun x => x = u0.heap.size ∨ x = u30.heap.size) LB2.out (((OB.out.mono (fun _ _ f => f.elim)).then KW1.out (fun i _ e => .inl e)).then KW2.out (fun i _ e => .inr e)) (fun x h1 h2 e => by rcases e with e | e <;> omega)), hot2⟩

      · try simp only [List.getElem_toArray, List.getElem_cons_zero, List.getElem_cons_succ]
        go_simp
        obtain ⟨u39, hu39⟩ : ∃ x, x = u29.alloc (.cells #[.int .i64 0, .int .i64 0, .int .i64 0, .int .i64 0, .int .i64 0, .int .i64 0, .slice none 0 0, .int .i64 0, .int .i64 0, .int .i64 0, .slice none 0 0] 37) := ⟨_, rfl⟩
        rw [← hu39]
        have Z2 : Hid (BoxV u39 u29.heap.size zerosP) := Lib.hid (by rw [hu39]; exact BoxV.new u29 zerosP _ _ rfl)
        have sz39 : u29.heap.size + 1 ≤ u39.heap.size ∧ u39.heap.size ≤ u29.heap.size + 1 := by rw [hu39]; simp
        have ho : Only (fun _ => False) u29 u39 := by rw [hu39]; exact (Only.refl _ _).alloc _
        have O2 := Lib.hid (Only.refl (fun _ => False) u39)
        replace O1 := Lib.hid (O1.out.trans ho)
        replace hot := Lib.hid (hot.out.trans ho)
        clear ho hu39
        refine hK.out _ _ (HS1.out _ hot.out) (fun hHeld39 => ?_)
        clear hK K
        try simp only [List.getElem_toArray, List.getElem_cons_zero, List.getElem_cons_succ, Act.put, List.setIfInBounds_toArray, List.set_cons_zero, List.set_cons_succ]
        refine wpAnyH_ready (rs := [2]) (by kernel_rfl) (by simp) ?_
        refine AllReadyH.cons rfl (fun K hK => ?_) AllReadyH.nil
        try simp only [List.getElem_toArray, List.getElem_cons_zero, List.getElem_cons_succ]
        go_simp
        go_at_call 14
        with_reducible refine (HTA.out _ hot.out).mono ?_
        rintro _ u40 ⟨a3, a4, q3, q4, rfl, hr1, hr2, ho, hb1, hb2⟩
        have sz40 : u39.heap.size ≤ u40.heap.size := ho.size
        have RA1 := Lib.hid hr1
        have RA2 := Lib.hid hr2
        have LA1 := Lib.hid hb1
        have LA2 := Lib.hid hb2
        have OA := Lib.hid (Only.refl (fun _ => False) u40)
        replace O1 := Lib.hid (O1.out.trans ho)
        replace O2 := Lib.hid (O2.out.trans ho)
        replace hot := Lib.hid (hot.out.trans ho)
        clear ho hr1 hr2 hb1 hb2
        try dsimp only
        refine hK.out _ _ (HS1.out _ hot.out) (fun hHeld40 => ?_)
        clear hK K
        try simp only [List.getElem_toArray, List.getElem_cons_zero, List.getElem_cons_succ, Act.put, List.setIfInBounds_toArray, List.set_cons_zero, List.set_cons_succ]
        refine wpAnyH_ready (rs := [5]) (by kernel_rfl) (by simp) ?_
        refine AllReadyH.cons rfl (fun K hK => ?_) AllReadyH.nil
        try simp only [List.getElem_toArray, List.getElem_cons_zero, List.getElem_cons_succ]
        go_simp
        go_at_call 14
        with_reducible refine (HTB.out _ hot.out).mono ?_
        rintro _ u41 ⟨b3, b4, q5, q6, rfl, hr1, hr2, ho, hb1, hb2⟩
        have sz41 : u40.heap.size ≤ u41.heap.size := ho.size
        have RB1 := Lib.hid hr1
        have RB2 := Lib.hid hr2
        have LB1 := Lib.hid hb1
        have LB2 := Lib.hid hb2
        have OB := Lib.hid (Only.refl (fun _ => False) u41)
        replace O1 := Lib.hid (O1.out.trans ho)
        replace O2 := Lib.hid (O2.out.trans ho)
        replace OA := Lib.hid (OA.out.trans ho)
        replace hot := Lib.hid (hot.out.trans ho)
        clear ho hr1 hr2 hb1 hb2
        try dsimp only
        refine hK.out _ _ (HS1.out _ hot.out) (fun hHeld41 => ?_)
        clear hK K
        try simp only [List.getElem_toArray, List.getElem_cons_zero, List.getElem_cons_succ, Act.put, List.setIfInBounds_toArray, List.set_cons_zero, List.set_cons_succ]
        refine wpAnyH_ready (rs := [8]) (by kernel_rfl) (by simp) ?_
        refine AllReadyH.cons rfl (fun K hK => ?_) AllReadyH.nil
        try simp only [List.getElem_toArray, List.getElem_cons_zero, List.getElem_cons_succ]
        go_simp
        have hz : BoxV u41 (u0.heap.size) (plV 0 0 0 0 0 0 0 0 0 none none 0 0 0 0) := Z1.out.only O1.out (fun f => f)
        obtain ⟨⟨z0, z1, z2, z3, z4, z5, z6, z7, z8, z9, z10⟩, y0, y1, y2, y3, y4, y5, y6, y7, y8, y9, y10⟩ := hz.all
        obtain ⟨u42, hp, hk, hW⟩ := plan_put hz rfl D F T G1 M1 B1 G2 M2 B2 a3 a4 s1.length s2.length q3 q4
        go_simp
        rw [← hW]
        have KW1 := Lib.hid hk
        have HP1 := Lib.hid hp
        have hot1 : Hid (Only (fun _ => False) W0 u42) := Lib.hid (hot.out.then hk (fun i hi e => by have e' : i = u0.heap.size := e; omega))
        have sz42 : u41.heap.size ≤ u42.heap.size := hk.size
        clear hz hp hk hW z0 z1 z2 z3 z4 z5 z6 z7 z8 z9 z10 y0 y1 y2 y3 y4 y5 y6 y7 y8 y9 y10
        refine hK.out _ _ (HS1.out _ hot1.out) (fun hHeld42 => ?_)
        clear hK K
        try simp only [List.getElem_toArray, List.getElem_cons_zero, List.getElem_cons_succ, Act.put, List.setIfInBounds_toArray, List.set_cons_zero, List.set_cons_succ]
        refine wpAnyH_ready (rs := [9]) (by kernel_rfl) (by simp) ?_
        refine AllReadyH.cons rfl (fun K hK => ?_) AllReadyH.nil
        try simp only [List.getElem_toArray, List.getElem_cons_zero, List.getElem_cons_succ]
        go_simp
        have hz : BoxV u42 (u29.heap.size) (plV 0 0 0 0 0 0 0 0 0 none none 0 0 0 0) := (Z2.out.only O2.out (fun f => f)).only KW1.out (fun e => by have e' : u29.heap.size = u0.heap.size := e; omega)
        obtain ⟨⟨z0, z1, z2, z3, z4, z5, z6, z7, z8, z9, z10⟩, y0, y1, y2, y3, y4, y5, y6, y7, y8, y9, y10⟩ := hz.all
        obtain ⟨u43, hp, hk, hW⟩ := plan_put hz rfl E H I K1 N1 C1 K2 N2 C2 b3 b4 r1.length r2.length q5 q6
        go_simp
        rw [← hW]
        have KW2 := Lib.hid hk
        have HP2 := Lib.hid hp
        have hot2 : Hid (Only (fun _ => False) W0 u43) := Lib.hid (hot1.out.then hk (fun i hi e => by have e' : i = u29.heap.size := e; omega))
        have sz43 : u42.heap.size ≤ u43.heap.size := hk.size
        clear hz hp hk hW z0 z1 z2 z3 z4 z5 z6 z7 z8 z9 z10 y0 y1 y2 y3 y4 y5 y6 y7 y8 y9 y10
        refine hK.out _ _ (HS1.out _ hot2.out) (fun hHeld43 => ?_)
        clear hK K
        try simp only [List.getElem_toArray, List.getElem_cons_zero, List.getElem_cons_succ, Act.put, List.setIfInBounds_toArray, List.set_cons_zero, List.set_cons_succ]
        refine wpAnyH_done (by kernel_rfl) ?_ _
        refine NoPanic.normal ?_
        go_wp2_with fail
        go_meet
        exact ⟨u0.heap.size, u29.heap.size, a3, a4, q3, q4, b3, b4, q5, q6, rfl, rfl, Lib.hid (HP1.out.only KW2.out (fun e => by have e' : u0.heap.size = u29.heap.size := e; omega)), HP2, Lib.hid (RA1.out.far (S := fun x => x = u0.heap.size ∨ x = u29.heap.size) LA1.out (((OA.out.mono (fun _ _ f => f.elim)).then KW1.out (fun i _ e => .inl e)).then KW2.out (fun i _ e => .inr e)) (fun x h1 h2 e => by rcases e with e | e <;> omega)), Lib.hid (RA2.out.far (S := fun x => x = u0.heap.size ∨ x = u29.heap.size) LA2.out (((OA.out.mono (fun _ _ f => f.elim)).then KW1.out (fun i _ e => .inl e)).then KW2.out (fun i _ e => .inr e)) (fun x h1 h2 e => by rcases e with e | e <;> omega)), Lib.hid (RB1.out.far (S := fun x => x = u0.heap.size ∨ x = u29.heap.size) LB1.out (((OB.out.mono (fun _ _ f => f.elim)).then KW1.out (fun i _ e => .inl e)).then KW2.out (fun i _ e => .inr e)) (fun x h1 h2 e => by rcases e with e | e <;> omega)), Lib.hid (RB2.out.far (S := fun x => x = u0.heap.size ∨ x = u29.heap.size) LB2.out (((OB.out.mono (fun _ _ f => f.elim)).then KW1.out (fun i _ e => .inl e)).then KW2.out (fun i _ e => .inr e)) (fun x h1 h2 e => by rcases e with e | e <;> omega)), hot2⟩

    · try simp only [List.getElem_toArray, List.getElem_cons_zero, List.getElem_cons_succ]
      go_simp
      obtain ⟨u44, hu44⟩ : ∃ x, x = u0.alloc (.cells #[.int .i64 0, .int .i64 0, .int .i64 0, .int .i64 0, .int .i64 0, .int .i64 0, .slice none 0 0, .int .i64 0, .int .i64 0, .int .i64 0, .slice none 0 0] 37) := ⟨_, rfl⟩
      rw [← hu44]
      have Z2 : Hid (BoxV u44 u0.heap.size zerosP) := Lib.hid (by rw [hu44]; exact BoxV.new u0 zerosP _ _ rfl)
      have sz44 : u0.heap.size + 1 ≤ u44.heap.size ∧ u44.heap.size ≤ u0.heap.size + 1 := by rw [hu44]; simp
      have ho : Only (fun _ => False) u0 u44 := by rw [hu44]; exact (Only.refl _ _).alloc _
      have O2 := Lib.hid (Only.refl (fun _ => False) u44)
      replace hot := Lib.hid (hot.out.trans ho)
      clear ho hu44
      refine hK.out _ _ (HS1.out _ hot.out) (fun hHeld44 => ?_)
      clear hK K
      try simp only [List.getElem_toArray, List.getElem_cons_zero, List.getElem_cons_succ, Act.put, List.setIfInBounds_toArray, List.set_cons_zero, List.set_cons_succ]
      refine wpAnyH_ready (rs := [2, 6]) (by kernel_rfl) (by simp) ?_
      refine AllReadyH.cons rfl (fun K hK => ?_) (AllReadyH.cons rfl (fun K hK => ?_) AllReadyH.nil)
      · try simp only [List.getElem_toArray, List.getElem_cons_zero, List.getElem_cons_succ]
        go_simp
        go_at_call 14
        with_reducible refine (HTA.out _ hot.out).mono ?_
        rintro _ u45 ⟨a3, a4, q3, q4, rfl, hr1, hr2, ho, hb1, hb2⟩
        have sz45 : u44.heap.size ≤ u45.heap.size := ho.size
        have RA1 := Lib.hid hr1
        have RA2 := Lib.hid hr2
        have LA1 := Lib.hid hb1
        have LA2 := Lib.hid hb2
        have OA := Lib.hid (Only.refl (fun _ => False) u45)
        replace O2 := Lib.hid (O2.out.trans ho)
        replace hot := Lib.hid (hot.out.trans ho)
        clear ho hr1 hr2 hb1 hb2
        try dsimp only
        refine hK.out _ _ (HS1.out _ hot.out) (fun hHeld45 => ?_)
        clear hK K
        try simp only [List.getElem_toArray, List.getElem_cons_zero, List.getElem_cons_succ, Act.put, List.setIfInBounds_toArray, List.set_cons_zero, List.set_cons_succ]
        refine wpAnyH_ready (rs := [5, 6]) (by kernel_rfl) (by simp) ?_
        refine AllReadyH.cons rfl (fun K hK => ?_) (AllReadyH.cons rfl (fun K hK => ?_) AllReadyH.nil)
        · try simp only [List.getElem_toArray, List.getElem_cons_zero, List.getElem_cons_succ]
          go_simp
          go_at_call 14
          with_reducible refine (HTB.out _ hot.out).mono ?_
          rintro _ u46 ⟨b3, b4, q5, q6, rfl, hr1, hr2, ho, hb1, hb2⟩
          have sz46 : u45.heap.size ≤ u46.heap.size := ho.size
          have RB1 := Lib.hid hr1
          have RB2 := Lib.hid hr2
          have LB1 := Lib.hid hb1
          have LB2 := Lib.hid hb2
          have OB := Lib.hid (Only.refl (fun _ => False) u46)
          replace O2 := Lib.hid (O2.out.trans ho)
          replace OA := Lib.hid (OA.out.trans ho)
          replace hot := Lib.hid (hot.out.trans ho)
          clear ho hr1 hr2 hb1 hb2
          try dsimp only
          refine hK.out _ _ (HS1.out _ hot.out) (fun hHeld46 => ?_)
          clear hK K
          try simp only [List.getElem_toArray, List.getElem_cons_zero, List.getElem_cons_succ, Act.put, List.setIfInBounds_toArray, List.set_cons_zero, List.set_cons_succ]
          refine wpAnyH_ready (rs := [6]) (by kernel_rfl) (by simp) ?_
          refine AllReadyH.cons rfl (fun K hK => ?_) AllReadyH.nil
          try simp only [List.getElem_toArray, List.getElem_cons_zero, List.getElem_cons_succ]
          go_simp
          obtain ⟨u47, hu47⟩ : ∃ x, x = u46.alloc (.cells #[.int .i64 0, .int .i64 0, .int .i64 0, .int .i64 0, .int .i64 0, .int .i64 0, .slice none 0 0, .int .i64 0, .int .i64 0, .int .i64 0, .slice none 0 0] 37) := ⟨_, rfl⟩
          rw [← hu47]
          have Z1 : Hid (BoxV u47 u46.heap.size zerosP) := Lib.hid (by rw [hu47]; exact BoxV.new u46 zerosP _ _ rfl)
          have sz47 : u46.heap.size + 1 ≤ u47.heap.size ∧ u47.heap.size ≤ u46.heap.size + 1 := by rw [hu47]; simp
          have ho : Only (fun _ => False) u46 u47 := by rw [hu47]; exact (Only.refl _ _).alloc _
          have O1 := Lib.hid (Only.refl (fun _ => False) u47)
          replace O2 := Lib.hid (O2.out.trans ho)
          replace OA := Lib.hid (OA.out.trans ho)
          replace OB := Lib.hid (OB.out.trans ho)
          replace hot := Lib.hid (hot.out.trans ho)
          clear ho hu47
          refine hK.out _ _ (HS1.out _ hot.out) (fun hHeld47 => ?_)
          clear hK K
          try simp only [List.getElem_toArray, List.getElem_cons_zero, List.getElem_cons_succ, Act.put, List.setIfInBounds_toArray, List.set_cons_zero, List.set_cons_succ]
          refine wpAnyH_ready (rs := [8]) (by kernel_rfl) (by simp) ?_
          refine AllReadyH.cons rfl (fun K hK => ?_) AllReadyH.nil
          try simp only [List.getElem_toArray, List.getElem_cons_zero, List.getElem_cons_succ]
          go_simp
          have hz : BoxV u47 (u46.heap.size) (plV 0 0 0 0 0 0 0 0 0 none none 0 0 0 0) := Z1.out.only O1.out (fun f => f)
          obtain ⟨⟨z0, z1, z2, z3, z4, z5, z6, z7, z8, z9, z10⟩, y0, y1, y2, y3, y4, y5, y6, y7, y8, y9, y10⟩ := hz.all
          obtain ⟨u48, hp, hk, hW⟩ := plan_put hz rfl D F T G1 M1 B1 G2 M2 B2 a3 a4 s1.length s2.length q3 q4
          go_simp
          rw [← hW]
          have KW1 := Lib.hid hk
          have HP1 := Lib.hid hp
          have hot1 : Hid (Only (fun _ => False) W0 u48) := Lib.hid (hot.out.then hk (fun i hi e => by have e' : i = u46.heap.size := e; omega))
          have sz48 : u47.heap.size ≤ u48.heap.size := hk.size
          clear hz hp hk hW z0 z1 z2 z3 z4 z5 z6 z7 z8 z9 z10 y0 y1 y2 y3 y4 y5 y6 y7 y8 y9 y10
          refine hK.out _ _ (HS1.out _ hot1.out) (fun hHeld48 => ?_)
          clear hK K
          try simp only [List.getElem_toArray, List.getElem_cons_zero, List.getElem_cons_succ, Act.put, List.setIfInBounds_toArray, List.set_cons_zero, List.set_cons_succ]
          refine wpAnyH_ready (rs := [9]) (by kernel_rfl) (by simp) ?_
          refine AllReadyH.cons rfl (fun K hK => ?_) AllReadyH.nil
          try simp only [List.getElem_toArray, List.getElem_cons_zero, List.getElem_cons_succ]
          go_simp
          have hz : BoxV u48 (u0.heap.size) (plV 0 0 0 0 0 0 0 0 0 none none 0 0 0 0) := (Z2.out.only O2.out (fun f => f)).only KW1.out (fun e => by have e' : u0.heap.size = u46.heap.size := e; omega)
          obtain ⟨⟨z0, z1, z2, z3, z4, z5, z6, z7, z8, z9, z10⟩, y0, y1, y2, y3, y4, y5, y6, y7, y8, y9, y10⟩ := hz.all
          obtain ⟨u49, hp, hk, hW⟩ := plan_put hz rfl E H I K1 N1 C1 K2 N2 C2 b3 b4 r1.length r2.length q5 q6
          go_simp
          rw [← hW]
          have KW2 := Lib.hid hk
          have HP2 := Lib.hid hp
          have hot2 : Hid (Only (fun _ => False) W0 u49) := Lib.hid (hot1.out.then hk (fun i hi e => by have e' : i = u0.heap.size := e; omega))
          have sz49 : u48.heap.size ≤ u49.heap.size := hk.size
          clear hz hp hk hW z0 z1 z2 z3 z4 z5 z6 z7 z8 z9 z10 y0 y1 y2 y3 y4 y5 y6 y7 y8 y9 y10
          refine hK.out _ _ (HS1.out _ hot2.out) (fun hHeld49 => ?_)
          clear hK K
          try simp only [List.getElem_toArray, List.getElem_cons_zero, List.getElem_cons_succ, Act.put, List.setIfInBounds_toArray, List.set_cons_zero, List.set_cons_succ]
          refine wpAnyH_done (by kernel_rfl) ?_ _
          refine NoPanic.normal ?_
          go_wp2_with fail
          go_meet
          exact ⟨u46.heap.size, u0.heap.size, a3, a4, q3, q4, b3, b4, q5, q6, rfl, rfl, Lib.hid (HP1.out.only KW2.out (fun e => by have e' : u46.heap.size = u0.heap.size := e; omega)), HP2, Lib.hid (RA1.out.far (S := fun x => x = u46.heap.size ∨ x = u0.heap.size) LA1.out (((OA.out.mono (fun _ _ f => f.elim)).then KW1.out (fun i _ e => .inl e)).then KW2.out (fun i _ e => .inr e)) (fun x h1 h2 e => by rcases e with e | e <;> omega)), Lib.hid (RA2.out.far (S := fun x => x = u46.heap.size ∨ x = u0.heap.size) LA2.out (((OA.out.mono (fun _ _ f => f.elim)).then KW1.out (fun i _ e => .inl e)).then KW2.out (fun i _ e => .inr e)) (fun x h1 h2 e => by rcases e with e | e <;> omega)), Lib.hid (RB1.out.far (S := fun x => x = u46.heap.size ∨ x = u0.heap.size) LB1.out (((OB.out.mono (fun _ _ f => f.elim)).then KW1.out (fun i _ e => .inl e)).then KW2.out (fun i _ e => .inr e)) (fun x h1 h2 e => by rcases e with e | e <;> omega)), Lib.hid (RB2.out.far (S := fun x => x = u46.heap.size ∨ x = u0.heap.size) LB2.out (((OB.out.mono (fun _ _ f => f.elim)).then KW1.out (fun i _ e => .inl e)).then KW2.out (fun i _ e => .inr e)) (fun x h1 h2 e => by rcases e with e | e <;> omega)), hot2⟩

        · try simp only [List.getElem_toArray, List.getElem_cons_zero, List.getElem_cons_succ]
          go_simp
          obtain ⟨u50, hu50⟩ : ∃ x, x = u45.alloc (.cells #[.int .i64 0, .int .i64 0, .int .i64 0, .int .i64 0, .int .i64 0, .int .i64 0, .slice none 0 0, .int .i64 0, .int .i64 0, .int .i64 0, .slice none 0 0] 37) := ⟨_, rfl⟩
          rw [← hu50]
          have Z1 : Hid (BoxV u50 u45.heap.size zerosP) := Lib.hid (by rw [hu50]; exact BoxV.new u45 zerosP _ _ rfl)
          have sz50 : u45.heap.size + 1 ≤ u50.heap.size ∧ u50.heap.size ≤ u45.heap.size + 1 := by rw [hu50]; simp
          have ho : Only (fun _ => False) u45 u50 := by rw [hu50]; exact (Only.refl _ _).alloc _
          have O1 := Lib.hid (Only.refl (fun _ => False) u50)
          replace O2 := Lib.hid (O2.out.trans ho)
          replace OA := Lib.hid (OA.out.trans ho)
          replace hot := Lib.hid (hot.out.trans ho)
          clear ho hu50
          refine hK.out _ _ (HS1.out _ hot.out) (fun hHeld50 => ?_)
          clear hK K
          try simp only [List.getElem_toArray, List.getElem_cons_zero, List.getElem_cons_succ, Act.put, List.setIfInBounds_toArray, List.set_cons_zero, List.set_cons_succ]
          refine wpAnyH_ready (rs := [5]) (by kernel_rfl) (by simp) ?_
          refine AllReadyH.cons rfl (fun K hK => ?_) AllReadyH.nil
          try simp only [List.getElem_toArray, List.getElem_cons_zero, List.getElem_cons_succ]
          go_simp
          go_at_call 14
          with_reducible refine (HTB.out _ hot.out).mono ?_
          rintro _ u51 ⟨b3, b4, q5, q6, rfl, hr1, hr2, ho, hb1, hb2⟩
          have sz51 : u50.heap.size ≤ u51.heap.size := ho.size
          have RB1 := Lib.hid hr1
          have RB2 := Lib.hid hr2
          have LB1 := Lib.hid hb1
          have LB2 := Lib.hid hb2
          have OB := Lib.hid (Only.refl (fun _ => False) u51)
          replace O2 := Lib.hid (O2.out.trans ho)
          replace OA := Lib.hid (OA.out.trans ho)
          replace O1 := Lib.hid (O1.out.trans ho)
          replace hot := Lib.hid (hot.out.trans ho)
          clear ho hr1 hr2 hb1 hb2
          try dsimp only
          refine hK.out _ _ (HS1.out _ hot.out) (fun hHeld51 => ?_)
          clear hK K
          try simp only [List.getElem_toArray, List.getElem_cons_zero, List.getElem_cons_succ, Act.put, List.setIfInBounds_toArray, List.set_cons_zero, List.set_cons_succ]
          refine wpAnyH_ready (rs := [8]) (by kernel_rfl) (by simp) ?_
          refine AllReadyH.cons rfl (fun K hK => ?_) AllReadyH.nil
          try simp only [List.getElem_toArray, List.getElem_cons_zero, List.getElem_cons_succ]
          go_simp
          have hz : BoxV u51 (u45.heap.size) (plV 0 0 0 0 0 0 0 0 0 none none 0 0 0 0) := Z1.out.only O1.out (fun f => f)
          obtain ⟨⟨z0, z1, z2, z3, z4, z5, z6, z7, z8, z9, z10⟩, y0, y1, y2, y3, y4, y5, y6, y7, y8, y9, y10⟩ := hz.all
          obtain ⟨u52, hp, hk, hW⟩ := plan_put hz rfl D F T G1 M1 B1 G2 M2 B2 a3 a4 s1.length s2.length q3 q4
          go_simp
          rw [← hW]
          have KW1 := Lib.hid hk
          have HP1 := Lib.hid hp
          have hot1 : Hid (Only (fun _ => False) W0 u52) := Lib.hid (hot.out.then hk (fun i hi e => by have e' : i = u45.heap.size := e; omega))
          have sz52 : u51.heap.size ≤ u52.heap.size := hk.size
          clear hz hp hk hW z0 z1 z2 z3 z4 z5 z6 z7 z8 z9 z10 y0 y1 y2 y3 y4 y5 y6 y7 y8 y9 y10
          refine hK.out _ _ (HS1.out _ hot1.out) (fun hHeld52 => ?_)
          clear hK K
          try simp only [List.getElem_toArray, List.getElem_cons_zero, List.getElem_cons_succ, Act.put, List.setIfInBounds_toArray, List.set_cons_zero, List.set_cons_succ]
          refine wpAnyH_ready (rs := [9]) (by kernel_rfl) (by simp) ?_
          refine AllReadyH.cons rfl (fun K hK => ?_) AllReadyH.nil
          try simp only [List.getElem_toArray, List.getElem_cons_zero, List.getElem_cons_succ]
          go_simp
          have hz : BoxV u52 (u0.heap.size) (plV 0 0 0 0 0 0 0 0 0 none none 0 0 0 0) := (Z2.out.only O2.out (fun f => f)).only KW1.out (fun e => by have e' : u0.heap.size = u45.heap.size := e; omega)
          obtain ⟨⟨z0, z1, z2, z3, z4, z5, z6, z7, z8, z9, z10⟩, y0, y1, y2, y3, y4, y5, y6, y7, y8, y9, y10⟩ := hz.all
          obtain ⟨u53, hp, hk, hW⟩ := plan_put hz rfl E H I K1 N1 C1 K2 N2 C2 b3 b4 r1.length r2.length q5 q6
          go_simp
          rw [← hW]
          have KW2 := Lib.hid hk
          have HP2 := Lib.hid hp
          have hot2 : Hid (Only (fun _ => False) W0 u53) := Lib.hid (hot1.out.then hk (fun i hi e => by have e' : i = u0.heap.size := e; omega))
          have sz53 : u52.heap.size ≤ u53.heap.size := hk.size
          clear hz hp hk hW z0 z1 z2 z3 z4 z5 z6 z7 z8 z9 z10 y0 y1 y2 y3 y4 y5 y6 y7 y8 y9 y10
          refine hK.out _ _ (HS1.out _ hot2.out) (fun hHeld53 => ?_)
          clear hK K
          try simp only [List.getElem_toArray, List.getElem_cons_zero, List.getElem_cons_succ, Act.put, List.setIfInBounds_toArray, List.set_cons_zero, List.set_cons_succ]
          refine wpAnyH_done (by kernel_rfl) ?_ _
          refine NoPanic.normal ?_
          go_wp2_with fail
          go_meet
          exact ⟨u45.heap.size, u0.heap.size, a3, a4, q3, q4, b3, b4, q5, q6, rfl, rfl, Lib.hid (HP1.out.only KW2.out (fun e => by have e' : u45.heap.size = u0.heap.size := e; omega)), HP2, Lib.hid (RA1.out.far (S := fun x => x = u45.heap.size ∨ x = u0.heap.size) LA1.out (((OA.out.mono (fun _ _ f => f.elim)).then KW1.out (fun i _ e => .inl e)).then KW2.out (fun i _ e => .inr e)) (fun x h1 h2 e => by rcases e with e | e <;> omega)), Lib.hid (RA2.out.far (S := fun x => x = u45.heap.size ∨ x = u0.heap.size) LA2.out (((OA.out.mono (fun _ _ f => f.elim)).then KW1.out (fun i _ e => .inl e)).then KW2.out (fun i _ e => .inr e)) (fun x h1 h2 e => by rcases e with e | e <;> omega)), Lib.hid (RB1.out.far (S := fun x => x = u45.heap.size ∨ x = u0.heap.size) LB1.out (((OB.out.mono (fun _ _ f => f.elim)).then KW1.out (fun i _ e => .inl e)).then KW2.out (fun i _ e => .inr e)) (fun x h1 h2 e => by rcases e with e | e <;> omega)), Lib.hid (RB2.out.far (S := fun x => x = u45.heap.size ∨ x = u0.heap.size) LB2.out (((OB.out.mono (fun _ _ f => f.elim)).then KW1.out (fun i _ e => .inl e)).then KW2.out (fun i _ e => .inr e)) (fun x h1 h2 e => by rcases e with e | e <;> omega)), hot2⟩

      · try simp only [List.getElem_toArray, List.getElem_cons_zero, List.getElem_cons_succ]
        go_simp
        obtain ⟨u54, hu54⟩ : ∃ x, x = u44.alloc (.cells #[.int .i64 0, .int .i64 0, .int .i64 0, .int .i64 0, .int .i64 0, .int .i64 0, .slice none 0 0, .int .i64 0, .int .i64 0, .int .i64 0, .slice none 0 0] 37) := ⟨_, rfl⟩
        rw [← hu54]
        have Z1 : Hid (BoxV u54 u44.heap.size zerosP) := Lib.hid (by rw [hu54]; exact BoxV.new u44 zerosP _ _ rfl)
        have sz54 : u44.heap.size + 1 ≤ u54.heap.size ∧ u54.heap.size ≤ u44.heap.size + 1 := by rw [hu54]; simp
        have ho : Only (fun _ => False) u44 u54 := by rw [hu54]; exact (Only.refl _ _).alloc _
        have O1 := Lib.hid (Only.refl (fun _ => False) u54)
        replace O2 := Lib.hid (O2.out.trans ho)
        replace hot := Lib.hid (hot.out.trans ho)
        clear ho hu54
        refine hK.out _ _ (HS1.out _ hot.out) (fun hHeld54 => ?_)
        clear hK K
        try simp only [List.getElem_toArray, List.getElem_cons_zero, List.getElem_cons_succ, Act.put, List.setIfInBounds_toArray, List.set_cons_zero, List.set_cons_succ]
        refine wpAnyH_ready (rs := [2]) (by kernel_rfl) (by simp) ?_
        refine AllReadyH.cons rfl (fun K hK => ?_) AllReadyH.nil
        try simp only [List.getElem_toArray, List.getElem_cons_zero, List.getElem_cons_succ]
        go_simp
        go_at_call 14
        with_reducible refine (HTA.out _ hot.out).mono ?_
        rintro _ u55 ⟨a3, a4, q3, q4, rfl, hr1, hr2, ho, hb1, hb2⟩
        have sz55 : u54.heap.size ≤ u55.heap.size := ho.size
        have RA1 := Lib.hid hr1
        have RA2 := Lib.hid hr2
        have LA1 := Lib.hid hb1
        have LA2 := Lib.hid hb2
        have OA := Lib.hid (Only.refl (fun _ => False) u55)
        replace O2 := Lib.hid (O2.out.trans ho)
        replace O1 := Lib.hid (O1.out.trans ho)
        replace hot := Lib.hid (hot.out.trans ho)
        clear ho hr1 hr2 hb1 hb2
        try dsimp only
        refine hK.out _ _ (HS1.out _ hot.out) (fun hHeld55 => ?_)
        clear hK K
        try simp only [List.getElem_toArray, List.getElem_cons_zero, List.getElem_cons_succ, Act.put, List.setIfInBounds_toArray, List.set_cons_zero, List.set_cons_succ]
        refine wpAnyH_ready (rs := [5]) (by kernel_rfl) (by simp) ?_
        refine AllReadyH.cons rfl (fun K hK => ?_) AllReadyH.nil
        try simp only [List.getElem_toArray, List.getElem_cons_zero, List.getElem_cons_succ]
        go_simp
        go_at_call 14
        with_reducible refine (HTB.out _ hot.out).mono ?_
        rintro _ u56 ⟨b3, b4, q5, q6, rfl, hr1, hr2, ho, hb1, hb2⟩
        have sz56 : u55.heap.size ≤ u56.heap.size := ho.size
        have RB1 := Lib.hid hr1
        have RB2 := Lib.hid hr2
        have LB1 := Lib.hid hb1
        have LB2 := Lib.hid hb2
        have OB := Lib.hid (Only.refl (fun _ => False) u56)
        replace O2 := Lib.hid (O2.out.trans ho)
        replace O1 := Lib.hid (O1.out.trans ho)
        replace OA := Lib.hid (OA.out.trans ho)
        replace hot := Lib.hid (hot.out.trans ho)
        clear ho hr1 hr2 hb1 hb2
        try dsimp only
        refine hK.out _ _ (HS1.out _ hot.out) (fun hHeld56 => ?_)
        clear hK K
        try simp only [List.getElem_toArray, List.getElem_cons_zero, List.getElem_cons_succ, Act.put, List.setIfInBounds_toArray, List.set_cons_zero, List.set_cons_succ]
        refine wpAnyH_ready (rs := [8]) (by kernel_rfl) (by simp) ?_
        refine AllReadyH.cons rfl (fun K hK => ?_) AllReadyH.nil
        try simp only [List.getElem_toArray, List.getElem_cons_zero, List.getElem_cons_succ]
        go_simp
        have hz : BoxV u56 (u44.heap.size) (plV 0 0 0 0 0 0 0 0 0 none none 0 0 0 0) := Z1.out.only O1.out (fun f => f)
        obtain ⟨⟨z0, z1, z2, z3, z4, z5, z6, z7, z8, z9, z10⟩, y0, y1, y2, y3, y4, y5, y6, y7, y8, y9, y10⟩ := hz.all
        obtain ⟨u57, hp, hk, hW⟩ := plan_put hz rfl D F T G1 M1 B1 G2 M2 B2 a3 a4 s1.length s2.length q3 q4
        go_simp
        rw [← hW]
        have KW1 := Lib.hid hk
        have HP1 := Lib.hid hp
        have hot1 : Hid (Only (fun _ => False) W0 u57) := Lib.hid (hot.out.then hk (fun i hi e => by have e' : i = u44.heap.size := e; omega))
        have sz57 : u56.heap.size ≤ u57.heap.size := hk.size
        clear hz hp hk hW z0 z1 z2 z3 z4 z5 z6 z7 z8 z9 z10 y0 y1 y2 y3 y4 y5 y6 y7 y8 y9 y10
        refine hK.out _ _ (HS1.out _ hot1.out) (fun hHeld57 => ?_)
        clear hK K
        try simp only [List.getElem_toArray, List.getElem_cons_zero, List.getElem_cons_succ, Act.put, List.setIfInBounds_toArray, List.set_cons_zero, List.set_cons_succ]
        refine wpAnyH_ready (rs := [9]) (by kernel_rfl) (by simp) ?_
        refine AllReadyH.cons rfl (fun K hK => ?_) AllReadyH.nil
        try simp only [List.getElem_toArray, List.getElem_cons_zero, List.getElem_cons_succ]
        go_simp
        have hz : BoxV u57 (u0.heap.size) (plV 0 0 0 0 0 0 0 0 0 none none 0 0 0 0) := (Z2.out.only O2.out (fun f => f)).only KW1.out (fun e => by have e' : u0.heap.size = u44.heap.size := e; omega)
        obtain ⟨⟨z0, z1, z2, z3, z4, z5, z6, z7, z8, z9, z10⟩, y0, y1, y2, y3, y4, y5, y6, y7, y8, y9, y10⟩ := hz.all
        obtain ⟨u58, hp, hk, hW⟩ := plan_put hz rfl E H I K1 N1 C1 K2 N2 C2 b3 b4 r1.length r2.length q5 q6
        go_simp
        rw [← hW]
        have KW2 := Lib.hid hk
        have HP2 := Lib.hid hp
        have hot2 : Hid (Only (fun _ => False) W0 u58) := Lib.hid (hot1.out.then hk (fun i hi e => by have e' : i = u0.heap.size := e; omega))
        have sz58 : u57.heap.size ≤ u58.heap.size := hk.size
        clear hz hp hk hW z0 z1 z2 z3 z4 z5 z6 z7 z8 z9 z10 y0 y1 y2 y3 y4 y5 y6 y7 y8 y9 y10
        refine hK.out _ _ (HS1.out _ hot2.out) (fun hHeld58 => ?_)
        clear hK K
        try simp only [List.getElem_toArray, List.getElem_cons_zero, List.getElem_cons_succ, Act.put, List.setIfInBounds_toArray, List.set_cons_zero, List.set_cons_succ]
        refine wpAnyH_done (by kernel_rfl) ?_ _
        refine NoPanic.normal ?_
        go_wp2_with fail
        go_meet
        exact ⟨u44.heap.size, u0.heap.size, a3, a4, q3, q4, b3, b4, q5, q6, rfl, rfl, Lib.hid (HP1.out.only KW2.out (fun e => by have e' : u44.heap.size = u0.heap.size := e; omega)), HP2, Lib.hid (RA1.out.far (S := fun x => x = u44.heap.size ∨ x = u0.heap.size) LA1.out (((OA.out.mono (fun _ _ f => f.elim)).then KW1.out (fun i _ e => .inl e)).then KW2.out (fun i _ e => .inr e)) (fun x h1 h2 e => by rcases e with e | e <;> omega)), Lib.hid (RA2.out.far (S := fun x => x = u44.heap.size ∨ x = u0.heap.size) LA2.out (((OA.out.mono (fun _ _ f => f.elim)).then KW1.out (fun i _ e => .inl e)).then KW2.out (fun i _ e => .inr e)) (fun x h1 h2 e => by rcases e with e | e <;> omega)), Lib.hid (RB1.out.far (S := fun x => x = u44.heap.size ∨ x = u0.heap.size) LB1.out (((OB.out.mono (fun _ _ f => f.elim)).then KW1.out (fun i _ e => .inl e)).then KW2.out (fun i _ e => .inr e)) (fun x h1 h2 e => by rcases e with e | e <;> omega)), Lib.hid (RB2.out.far (S := fun x => x = u44.heap.size ∨ x = u0.heap.size) LB2.out (((OB.out.mono (fun _ _ f => f.elim)).then KW1.out (fun i _ e => .inl e)).then KW2.out (fun i _ e => .inr e)) (fun x h1 h2 e => by rcases e with e | e <;> omega)), hot2⟩
  case rest =>
    obtain ⟨x1, x2, a3, a4, q3, q4, b3, b4, q5, q6, rfl, rfl, HBA, HBB, HR1, HR2, HR3, HR4, HOW⟩ := hcut
    rename World => W1
    have HA2 : Hid (BoxV W1 (w.heap.size + 1) [.int .i64 j0, .int .i64 j1]) := Lib.hid (HA.out.only HOW.out (fun f => f))
    have HTOA := Lib.hid (fun w' => gto_any D F T G1 M1 B1 G2 M2 B2 a3 a4 s1.length s2.length q3 q4 w')
    have HTOB := Lib.hid (fun w' => gto_any E H I K1 N1 C1 K2 N2 C2 b3 b4 r1.length r2.length q5 q6 w')
    clear HS1 HTA HTB HP HA
    have HS2 : Hid (∀ w', Only (fun _ => False) W1 w' → Only (fun _ => False) W1 w' ∧ w'.cell? ⟨x1, 0, none⟩ = some (.int .i64 D) ∧ w'.cell? ⟨x1, 1, none⟩ = some (.int .i64 F) ∧ w'.cell? ⟨x1, 2, none⟩ = some (.int .i64 T) ∧ w'.cell? ⟨x1, 3, none⟩ = some (.int .i64 G1) ∧ w'.cell? ⟨x1, 4, none⟩ = some (.int .i64 M1) ∧ w'.cell? ⟨x1, 5, none⟩ = some (.int .i64 B1) ∧ w'.cell? ⟨x1, 6, none⟩ = some (.slice a3 s1.length q3) ∧ w'.cell? ⟨x1, 7, none⟩ = some (.int .i64 G2) ∧ w'.cell? ⟨x1, 8, none⟩ = some (.int .i64 M2) ∧ w'.cell? ⟨x1, 9, none⟩ = some (.int .i64 B2) ∧ w'.cell? ⟨x1, 10, none⟩ = some (.slice a4 s2.length q4) ∧ w'.cell? ⟨x2, 0, none⟩ = some (.int .i64 E) ∧ w'.cell? ⟨x2, 1, none⟩ = some (.int .i64 H) ∧ w'.cell? ⟨x2, 2, none⟩ = some (.int .i64 I) ∧ w'.cell? ⟨x2, 3, none⟩ = some (.int .i64 K1) ∧ w'.cell? ⟨x2, 4, none⟩ = some (.int .i64 N1) ∧ w'.cell? ⟨x2, 5, none⟩ = some (.int .i64 C1) ∧ w'.cell? ⟨x2, 6, none⟩ = some (.slice b3 r1.length q5) ∧ w'.cell? ⟨x2, 7, none⟩ = some (.int .i64 K2) ∧ w'.cell? ⟨x2, 8, none⟩ = some (.int .i64 N2) ∧ w'.cell? ⟨x2, 9, none⟩ = some (.int .i64 C2) ∧ w'.cell? ⟨x2, 10, none⟩ = some (.slice b4 r2.length q6) ∧ w'.cell? ⟨w.heap.size + 1, 0, none⟩ = some (.int .i64 j0) ∧ w'.cell? ⟨w.heap.size + 1, 1, none⟩ = some (.int .i64 j1)) := Lib.hid (fun w' ho => by
      have hA := HBA.out.only ho (fun f => f)
      have hB := HBB.out.only ho (fun f => f)
      have hC := HA2.out.only ho (fun f => f)
      exact ⟨ho, (hA 0 _ rfl).1, (hA 1 _ rfl).1, (hA 2 _ rfl).1, (hA 3 _ rfl).1, (hA 4 _ rfl).1, (hA 5 _ rfl).1, (hA 6 _ rfl).1, (hA 7 _ rfl).1, (hA 8 _ rfl).1, (hA 9 _ rfl).1, (hA 10 _ rfl).1, (hB 0 _ rfl).1, (hB 1 _ rfl).1, (hB 2 _ rfl).1, (hB 3 _ rfl).1, (hB 4 _ rfl).1, (hB 5 _ rfl).1, (hB 6 _ rfl).1, (hB 7 _ rfl).1, (hB 8 _ rfl).1, (hB 9 _ rfl).1, (hB 10 _ rfl).1, (hC 0 _ rfl).1, (hC 1 _ rfl).1⟩)
    have HMA : Hid (∀ (g h : Nat) w', Only (fun _ => False) W1 w' → BoxV w' g [.int .i64 D, .int .i64 F, .int .i64 T, .int .i64 G1, .int .i64 M1, .int .i64 B1, .slice a3 s1.length q3, .int .i64 G2, .int .i64 M2, .int .i64 B2, .slice a4 s2.length q4, .int .i64 E, .int .i64 H, .int .i64 I, .int .i64 K1, .int .i64 N1, .int .i64 C1, .slice b3 r1.length q5, .int .i64 K2, .int .i64 N2, .int .i64 C2, .slice b4 r2.length q6] → BoxV w' h [.int .i64 j0, .int .i64 j1] → Calls Try.prog 16 #[.slice (some ⟨g, 0, none⟩) 2 2, .int .i64 cr, .slice (some ⟨h, 0, none⟩) 2 2] w' (TwoAt (⟨D, F, T, G1, M1, B1, G2, M2, B2, a3, a4, s1.length, s2.length, q3, q4, s1, s2⟩ : Pl) (⟨E, H, I, K1, N1, C1, K2, N2, C2, b3, b4, r1.length, r2.length, q5, q6, r1, r2⟩ : Pl) cr j0 j1 w')) := Lib.hid (fun g h w' ho hb hi => two_many (⟨D, F, T, G1, M1, B1, G2, M2, B2, a3, a4, s1.length, s2.length, q3, q4, s1, s2⟩ : Pl) (⟨E, H, I, K1, N1, C1, K2, N2, C2, b3, b4, r1.length, r2.length, q5, q6, r1, r2⟩ : Pl) cr j0 j1 w' g h 2 2 ⟨⟨(hb 0 _ rfl).1, (hb 1 _ rfl).1, (hb 2 _ rfl).1, (hb 3 _ rfl).1, (hb 4 _ rfl).1, (hb 5 _ rfl).1, (hb 6 _ rfl).1, (hb 7 _ rfl).1, (hb 8 _ rfl).1, (hb 9 _ rfl).1, (hb 10 _ rfl).1⟩, (hb 11 _ rfl).1, (hb 12 _ rfl).1, (hb 13 _ rfl).1, (hb 14 _ rfl).1, (hb 15 _ rfl).1, (hb 16 _ rfl).1, (hb 17 _ rfl).1, (hb 18 _ rfl).1, (hb 19 _ rfl).1, (hb 20 _ rfl).1, (hb 21 _ rfl).1⟩ (by omega) ⟨⟨HR1.out.only ho (fun _ _ f => f), HR2.out.only ho (fun _ _ f => f)⟩, HR3.out.only ho (fun _ _ f => f), HR4.out.only ho (fun _ _ f => f)⟩ ⟨(hi 0 _ rfl).1, (hi 1 _ rfl).1⟩ HJ.out.1 HJ.out.2.1 HJ.out.2.2)
    go_upto_region 2 with fail
    go_cut [9, 10] from 22 to 36 (fun v9 v10 wx => ∃ (ag : Option Addr) (nn cg : Nat) (er : Int), v9 = .slice ag nn cg ∧ v10 = .int .i64 er ∧ Hid (er ≠ 0 ∧ nn = 0 ∨ er = 0 ∧ nn = 2 ∧ pE (⟨D, F, T, G1, M1, B1, G2, M2, B2, a3, a4, s1.length, s2.length, q3, q4, s1, s2⟩ : Pl) cr j0 ≠ 1 ∧ pE (⟨E, H, I, K1, N1, C1, K2, N2, C2, b3, b4, r1.length, r2.length, q5, q6, r1, r2⟩ : Pl) (cr - (gr1 (⟨D, F, T, G1, M1, B1, G2, M2, B2, a3, a4, s1.length, s2.length, q3, q4, s1, s2⟩ : Pl) cr j0).a) j1 ≠ 1 ∧ (pE (⟨D, F, T, G1, M1, B1, G2, M2, B2, a3, a4, s1.length, s2.length, q3, q4, s1, s2⟩ : Pl) cr j0 = 0 ∨ pE (⟨E, H, I, K1, N1, C1, K2, N2, C2, b3, b4, r1.length, r2.length, q5, q6, r1, r2⟩ : Pl) (cr - (gr1 (⟨D, F, T, G1, M1, B1, G2, M2, B2, a3, a4, s1.length, s2.length, q3, q4, s1, s2⟩ : Pl) cr j0).a) j1 = 0) ∧ ReadsG wx ag 2 [gr1 (⟨D, F, T, G1, M1, B1, G2, M2, B2, a3, a4, s1.length, s2.length, q3, q4, s1, s2⟩ : Pl) cr j0, gr1 (⟨E, H, I, K1, N1, C1, K2, N2, C2, b3, b4, r1.length, r2.length, q5, q6, r1, r2⟩ : Pl) (cr - (gr1 (⟨D, F, T, G1, M1, B1, G2, M2, B2, a3, a4, s1.length, s2.length, q3, q4, s1, s2⟩ : Pl) cr j0).a) j1]) ∧ Hid (Only (fun _ => False) W1 wx))
    case first =>
      refine wp_region_noPanic ?_
      refine wp_region_held_drew (S := (fun w' => Only (fun _ => False) W1 w' ∧ w'.cell? ⟨x1, 0, none⟩ = some (.int .i64 D) ∧ w'.cell? ⟨x1, 1, none⟩ = some (.int .i64 F) ∧ w'.cell? ⟨x1, 2, none⟩ = some (.int .i64 T) ∧ w'.cell? ⟨x1, 3, none⟩ = some (.int .i64 G1) ∧ w'.cell? ⟨x1, 4, none⟩ = some (.int .i64 M1) ∧ w'.cell? ⟨x1, 5, none⟩ = some (.int .i64 B1) ∧ w'.cell? ⟨x1, 6, none⟩ = some (.slice a3 s1.length q3) ∧ w'.cell? ⟨x1, 7, none⟩ = some (.int .i64 G2) ∧ w'.cell? ⟨x1, 8, none⟩ = some (.int .i64 M2) ∧ w'.cell? ⟨x1, 9, none⟩ = some (.int .i64 B2) ∧ w'.cell? ⟨x1, 10, none⟩ = some (.slice a4 s2.length q4) ∧ w'.cell? ⟨x2, 0, none⟩ = some (.int .i64 E) ∧ w'.cell? ⟨x2, 1, none⟩ = some (.int .i64 H) ∧ w'.cell? ⟨x2, 2, none⟩ = some (.int .i64 I) ∧ w'.cell? ⟨x2, 3, none⟩ = some (.int .i64 K1) ∧ w'.cell? ⟨x2, 4, none⟩ = some (.int .i64 N1) ∧ w'.cell? ⟨x2, 5, none⟩ = some (.int .i64 C1) ∧ w'.cell? ⟨x2, 6, none⟩ = some (.slice b3 r1.length q5) ∧ w'.cell? ⟨x2, 7, none⟩ = some (.int .i64 K2) ∧ w'.cell? ⟨x2, 8, none⟩ = some (.int .i64 N2) ∧ w'.cell? ⟨x2, 9, none⟩ = some (.int .i64 C2) ∧ w'.cell? ⟨x2, 10, none⟩ = some (.slice b4 r2.length q6) ∧ w'.cell? ⟨w.heap.size + 1, 0, none⟩ = some (.int .i64 j0) ∧ w'.cell? ⟨w.heap.size + 1, 1, none⟩ = some (.int .i64 j1))) (by kernel_rfl) (HS2.out _ (Only.refl _ _).drew) (fun hHeld => ?_)
      have hot := Lib.hid ((Only.refl (fun _ => False) W1).drew)
      generalize W1.drew = u0 at *
      refine wpAnyH_take (i := 0) (v := ?_) rfl (by kernel_rfl) (by kernel_rfl) (by kernel_rfl) (fun _ _ _ h => h) (Or.inl ⟨by rfl, ?_⟩) (by assumption) ?_
      rotate_left 1
      · intro w' hSw
        try dsimp only at hSw
        go_simp
        try with_reducible rfl
      try simp only [List.getElem_toArray, List.getElem_cons_zero, Act.put, List.setIfInBounds_toArray, List.set_cons_zero, List.set_cons_succ]
      refine wpAnyH_take (i := 2) (v := ?_) rfl (by kernel_rfl) (by kernel_rfl) (by kernel_rfl) (fun _ _ _ h => h) (Or.inl ⟨by rfl, ?_⟩) (by assumption) ?_
      rotate_left 1
      · intro w' hSw
        try dsimp only at hSw
        go_simp
        try with_reducible rfl
      try simp only [List.getElem_toArray, List.getElem_cons_zero, List.getElem_cons_succ, Act.put, List.setIfInBounds_toArray, List.set_cons_zero, List.set_cons_succ]
      refine wpAnyH_take (i := 5) (v := ?_) rfl (by kernel_rfl) (by kernel_rfl) (by kernel_rfl) (fun _ _ _ h => h) (Or.inl ⟨by rfl, ?_⟩) (by assumption) ?_
      rotate_left 1
      · intro w' hSw
        try dsimp only at hSw
        go_simp
        try with_reducible rfl
      try simp only [List.getElem_toArray, List.getElem_cons_zero, List.getElem_cons_succ, Act.put, List.setIfInBounds_toArray, List.set_cons_zero, List.set_cons_succ]
      refine wpAnyH_take (i := 6) (v := ?_) rfl (by kernel_rfl) (by kernel_rfl) (by kernel_rfl) (fun _ _ _ h => h) (Or.inl ⟨by rfl, ?_⟩) (by assumption) ?_
      rotate_left 1
      · intro w' hSw
        try dsimp only at hSw
        go_simp
        try with_reducible rfl
      try simp only [List.getElem_toArray, List.getElem_cons_zero, List.getElem_cons_succ, Act.put, List.setIfInBounds_toArray, List.set_cons_zero, List.set_cons_succ]
      refine wpAnyH_take (i := 7) (v := ?_) rfl (by kernel_rfl) (by kernel_rfl) (by kernel_rfl) (fun _ _ _ h => h) (Or.inl ⟨by rfl, ?_⟩) (by assumption) ?_
      rotate_left 1
      · intro w' hSw
        try dsimp only at hSw
        go_simp
        try with_reducible rfl
      try simp only [List.getElem_toArray, List.getElem_cons_zero, List.getElem_cons_succ, Act.put, List.setIfInBounds_toArray, List.set_cons_zero, List.set_cons_succ]
      refine wpAnyH_take (i := 8) (v := ?_) rfl (by kernel_rfl) (by kernel_rfl) (by kernel_rfl) (fun _ _ _ h => h) (Or.inl ⟨by rfl, ?_⟩) (by assumption) ?_
      rotate_left 1
      · intro w' hSw
        try dsimp only at hSw
        go_simp
        try with_reducible rfl
      try simp only [List.getElem_toArray, List.getElem_cons_zero, List.getElem_cons_succ, Act.put, List.setIfInBounds_toArray, List.set_cons_zero, List.set_cons_succ]
      refine wpAnyH_take (i := 9) (v := ?_) rfl (by kernel_rfl) (by kernel_rfl) (by kernel_rfl) (fun _ _ _ h => h) (Or.inl ⟨by rfl, ?_⟩) (by assumption) ?_
      rotate_left 1
      · intro w' hSw
        try dsimp only at hSw
        go_simp
        try with_reducible rfl
      try simp only [List.getElem_toArray, List.getElem_cons_zero, List.getElem_cons_succ, Act.put, List.setIfInBounds_toArray, List.set_cons_zero, List.set_cons_succ]
      refine wpAnyH_ready (rs := [1, 10]) (by kernel_rfl) (by simp) ?_
      refine AllReadyH.cons rfl (fun K hK => ?_) (AllReadyH.cons rfl (fun K hK => ?_) AllReadyH.nil)
      · try simp only [List.getElem_toArray, List.getElem_cons_zero, List.getElem_cons_succ]
        go_simp
        go_at_call 15
        with_reducible refine (HTOA.out _).mono ?_
        rintro _ u1 ⟨rfl, ho⟩
        replace hot := Lib.hid (hot.out.trans ho)
        clear ho
        try dsimp only
        refine hK.out _ _ (HS2.out _ hot.out) (fun hHeld1 => ?_)
        clear hK K
        try simp only [List.getElem_toArray, List.getElem_cons_zero, List.getElem_cons_succ, Act.put, List.setIfInBounds_toArray, List.set_cons_zero, List.set_cons_succ]
        refine wpAnyH_ready (rs := [3, 10]) (by kernel_rfl) (by simp) ?_
        refine AllReadyH.cons rfl (fun K hK => ?_) (AllReadyH.cons rfl (fun K hK => ?_) AllReadyH.nil)
        · try simp only [List.getElem_toArray, List.getElem_cons_zero, List.getElem_cons_succ]
          go_simp
          go_at_call 15
          with_reducible refine (HTOB.out _).mono ?_
          rintro _ u2 ⟨rfl, ho⟩
          replace hot := Lib.hid (hot.out.trans ho)
          clear ho
          try dsimp only
          refine hK.out _ _ (HS2.out _ hot.out) (fun hHeld2 => ?_)
          clear hK K
          try simp only [List.getElem_toArray, List.getElem_cons_zero, List.getElem_cons_succ, Act.put, List.setIfInBounds_toArray, List.set_cons_zero, List.set_cons_succ]
          refine wpAnyH_ready (rs := [4, 10]) (by kernel_rfl) (by simp) ?_
          refine AllReadyH.cons rfl (fun K hK => ?_) (AllReadyH.cons rfl (fun K hK => ?_) AllReadyH.nil)
          · try simp only [List.getElem_toArray, List.getElem_cons_zero, List.getElem_cons_succ]
            go_simp
            obtain ⟨u3, hu3⟩ : ∃ x, x = u2.alloc (.cells #[.int .i64 D, .int .i64 F, .int .i64 T, .int .i64 G1, .int .i64 M1, .int .i64 B1, .slice a3 s1.length q3, .int .i64 G2, .int .i64 M2, .int .i64 B2, .slice a4 s2.length q4, .int .i64 E, .int .i64 H, .int .i64 I, .int .i64 K1, .int .i64 N1, .int .i64 C1, .slice b3 r1.length q5, .int .i64 K2, .int .i64 N2, .int .i64 C2, .slice b4 r2.length q6] 39) := ⟨_, rfl⟩
            rw [← hu3]
            have BP : Hid (BoxV u3 u2.heap.size [.int .i64 D, .int .i64 F, .int .i64 T, .int .i64 G1, .int .i64 M1, .int .i64 B1, .slice a3 s1.length q3, .int .i64 G2, .int .i64 M2, .int .i64 B2, .slice a4 s2.length q4, .int .i64 E, .int .i64 H, .int .i64 I, .int .i64 K1, .int .i64 N1, .int .i64 C1, .slice b3 r1.length q5, .int .i64 K2, .int .i64 N2, .int .i64 C2, .slice b4 r2.length q6]) := Lib.hid (by rw [hu3]; exact BoxV.new u2 [.int .i64 D, .int .i64 F, .int .i64 T, .int .i64 G1, .int .i64 M1, .int .i64 B1, .slice a3 s1.length q3, .int .i64 G2, .int .i64 M2, .int .i64 B2, .slice a4 s2.length q4, .int .i64 E, .int .i64 H, .int .i64 I, .int .i64 K1, .int .i64 N1, .int .i64 C1, .slice b3 r1.length q5, .int .i64 K2, .int .i64 N2, .int .i64 C2, .slice b4 r2.length q6] _ _ rfl)
            have ho : Only (fun _ => False) u2 u3 := by rw [hu3]; exact (Only.refl _ _).alloc _
            have OP := Lib.hid (Only.refl (fun _ => False) u3)
            replace hot := Lib.hid (hot.out.trans ho)
            clear ho hu3
            refine hK.out _ _ (HS2.out _ hot.out) (fun hHeld3 => ?_)
            clear hK K
            try simp only [List.getElem_toArray, List.getElem_cons_zero, List.getElem_cons_succ, Act.put, List.setIfInBounds_toArray, List.set_cons_zero, List.set_cons_succ]
            refine wpAnyH_ready (rs := [10]) (by kernel_rfl) (by simp) ?_
            refine AllReadyH.cons rfl (fun K hK => ?_) AllReadyH.nil
            try simp only [List.getElem_toArray, List.getElem_cons_zero, List.getElem_cons_succ]
            go_simp
            obtain ⟨u4, hu4⟩ : ∃ x, x = u3.alloc (.cells #[.int .i64 j0, .int .i64 j1] 3) := ⟨_, rfl⟩
            rw [← hu4]
            have BI : Hid (BoxV u4 u3.heap.size [.int .i64 j0, .int .i64 j1]) := Lib.hid (by rw [hu4]; exact BoxV.new u3 [.int .i64 j0, .int .i64 j1] _ _ rfl)
            have ho : Only (fun _ => False) u3 u4 := by rw [hu4]; exact (Only.refl _ _).alloc _
            have OI := Lib.hid (Only.refl (fun _ => False) u4)
            replace OP := Lib.hid (OP.out.trans ho)
            replace hot := Lib.hid (hot.out.trans ho)
            clear ho hu4
            refine hK.out _ _ (HS2.out _ hot.out) (fun hHeld4 => ?_)
            clear hK K
            try simp only [List.getElem_toArray, List.getElem_cons_zero, List.getElem_cons_succ, Act.put, List.setIfInBounds_toArray, List.set_cons_zero, List.set_cons_succ]
            refine wpAnyH_ready (rs := [11]) (by kernel_rfl) (by simp) ?_
            refine AllReadyH.cons rfl (fun K hK => ?_) AllReadyH.nil
            try simp only [List.getElem_toArray, List.getElem_cons_zero, List.getElem_cons_succ]
            go_simp
            go_at_call 16
            with_reducible refine (HMA.out _ _ _ hot.out (BP.out.only OP.out (fun f => f)) (BI.out.only OI.out (fun f => f))).mono ?_
            rintro _ u5 ⟨ag, nn, cg, er, rfl, hcase, ho⟩
            have HC := Lib.hid hcase
            replace hot := Lib.hid (hot.out.trans ho)
            clear ho hcase
            try dsimp only
            refine hK.out _ _ (HS2.out _ hot.out) (fun hHeld5 => ?_)
            clear hK K
            try simp only [List.getElem_toArray, List.getElem_cons_zero, List.getElem_cons_succ, Act.put, List.setIfInBounds_toArray, List.set_cons_zero, List.set_cons_succ]
            refine wpAnyH_take (i := 12) (v := ?_) rfl (by kernel_rfl) (by kernel_rfl) (by kernel_rfl) (fun _ _ _ h => h) (Or.inl ⟨by rfl, ?_⟩) (by assumption) ?_
            rotate_left 1
            · intro w' hSw
              try dsimp only at hSw
              go_simp
              try with_reducible rfl
            try simp only [List.getElem_toArray, List.getElem_cons_zero, List.getElem_cons_succ, Act.put, List.setIfInBounds_toArray, List.set_cons_zero, List.set_cons_succ]
            refine wpAnyH_take (i := 13) (v := ?_) rfl (by kernel_rfl) (by kernel_rfl) (by kernel_rfl) (fun _ _ _ h => h) (Or.inl ⟨by rfl, ?_⟩) (by assumption) ?_
            rotate_left 1
            · intro w' hSw
              try dsimp only at hSw
              go_simp
              try with_reducible rfl
            try simp only [List.getElem_toArray, List.getElem_cons_zero, List.getElem_cons_succ, Act.put, List.setIfInBounds_toArray, List.set_cons_zero, List.set_cons_succ]
            refine wpAnyH_take (i := 14) (v := ?_) rfl (by kernel_rfl) (by kernel_rfl) (by kernel_rfl) (fun _ _ _ h => h) (Or.inl ⟨by rfl, ?_⟩) (by assumption) ?_
            rotate_left 1
            · intro w' hSw
              try dsimp only at hSw
              go_simp
              try with_reducible rfl
            try simp only [List.getElem_toArray, List.getElem_cons_zero, List.getElem_cons_succ, Act.put, List.setIfInBounds_toArray, List.set_cons_zero, List.set_cons_succ]
            refine wpAnyH_take (i := 15) (v := ?_) rfl (by kernel_rfl) (by kernel_rfl) (by kernel_rfl) (fun _ _ _ h => h) (Or.inl ⟨by rfl, ?_⟩) (by assumption) ?_
            rotate_left 1
            · intro w' hSw
              try dsimp only at hSw
              go_simp
              try with_reducible rfl
            try simp only [List.getElem_toArray, List.getElem_cons_zero, List.getElem_cons_succ, Act.put, List.setIfInBounds_toArray, List.set_cons_zero, List.set_cons_succ]
            refine wpAnyH_take (i := 16) (v := ?_) rfl (by kernel_rfl) (by kernel_rfl) (by kernel_rfl) (fun _ _ _ h => h) (Or.inl ⟨by rfl, ?_⟩) (by assumption) ?_
            rotate_left 1
            · intro w' hSw
              try dsimp only at hSw
              go_simp
              try with_reducible rfl
            try simp only [List.getElem_toArray, List.getElem_cons_zero, List.getElem_cons_succ, Act.put, List.setIfInBounds_toArray, List.set_cons_zero, List.set_cons_succ]
            refine wpAnyH_done (by kernel_rfl) ?_ _
            refine NoPanic.normal ?_
            go_wp2_with fail
            go_meet
            exact ⟨ag, nn, cg, er, rfl, rfl, HC, hot⟩

          · try simp only [List.getElem_toArray, List.getElem_cons_zero, List.getElem_cons_succ]
            go_simp
            obtain ⟨u6, hu6⟩ : ∃ x, x = u2.alloc (.cells #[.int .i64 j0, .int .i64 j1] 3) := ⟨_, rfl⟩
            rw [← hu6]
            have BI : Hid (BoxV u6 u2.heap.size [.int .i64 j0, .int .i64 j1]) := Lib.hid (by rw [hu6]; exact BoxV.new u2 [.int .i64 j0, .int .i64 j1] _ _ rfl)
            have ho : Only (fun _ => False) u2 u6 := by rw [hu6]; exact (Only.refl _ _).alloc _
            have OI := Lib.hid (Only.refl (fun _ => False) u6)
            replace hot := Lib.hid (hot.out.trans ho)
            clear ho hu6
            refine hK.out _ _ (HS2.out _ hot.out) (fun hHeld6 => ?_)
            clear hK K
            try simp only [List.getElem_toArray, List.getElem_cons_zero, List.getElem_cons_succ, Act.put, List.setIfInBounds_toArray, List.set_cons_zero, List.set_cons_succ]
            refine wpAnyH_ready (rs := [4]) (by kernel_rfl) (by simp) ?_
            refine AllReadyH.cons rfl (fun K hK => ?_) AllReadyH.nil
            try simp only [List.getElem_toArray, List.getElem_cons_zero, List.getElem_cons_succ]
            go_simp
            obtain ⟨u7, hu7⟩ : ∃ x, x = u6.alloc (.cells #[.int .i64 D, .int .i64 F, .int .i64 T, .int .i64 G1, .int .i64 M1, .int .i64 B1, .slice a3 s1.length q3, .int .i64 G2, .int .i64 M2, .int .i64 B2, .slice a4 s2.length q4, .int .i64 E, .int .i64 H, .int .i64 I, .int .i64 K1, .int .i64 N1, .int .i64 C1, .slice b3 r1.length q5, .int .i64 K2, .int .i64 N2, .int .i64 C2, .slice b4 r2.length q6] 39) := ⟨_, rfl⟩
            rw [← hu7]
            have BP : Hid (BoxV u7 u6.heap.size [.int .i64 D, .int .i64 F, .int .i64 T, .int .i64 G1, .int .i64 M1, .int .i64 B1, .slice a3 s1.length q3, .int .i64 G2, .int .i64 M2, .int .i64 B2, .slice a4 s2.length q4, .int .i64 E, .int .i64 H, .int .i64 I, .int .i64 K1, .int .i64 N1, .int .i64 C1, .slice b3 r1.length q5, .int .i64 K2, .int .i64 N2, .int .i64 C2, .slice b4 r2.length q6]) := Lib.hid (by rw [hu7]; exact BoxV.new u6 [.int .i64 D, .int .i64 F, .int .i64 T, .int .i64 G1, .int .i64 M1, .int .i64 B1, .slice a3 s1.length q3, .int .i64 G2, .int .i64 M2, .int .i64 B2, .slice a4 s2.length q4, .int .i64 E, .int .i64 H, .int .i64 I, .int .i64 K1, .int .i64 N1, .int .i64 C1, .slice b3 r1.length q5, .int .i64 K2, .int .i64 N2, .int .i64 C2, .slice b4 r2.length q6] _ _ rfl)
            have ho : Only (fun _ => False) u6 u7 := by rw [hu7]; exact (Only.refl _ _).alloc _
            have OP := Lib.hid (Only.refl (fun _ => False) u7)
            replace OI := Lib.hid (OI.out.trans ho)
            replace hot := Lib.hid (hot.out.trans ho)
            clear ho hu7
            refine hK.out _ _ (HS2.out _ hot.out) (fun hHeld7 => ?_)
            clear hK K
            try simp only [List.getElem_toArray, List.getElem_cons_zero, List.getElem_cons_succ, Act.put, List.setIfInBounds_toArray, List.set_cons_zero, List.set_cons_succ]
            refine wpAnyH_ready (rs := [11]) (by kernel_rfl) (by simp) ?_
            refine AllReadyH.cons rfl (fun K hK => ?_) AllReadyH.nil
            try simp only [List.getElem_toArray, List.getElem_cons_zero, List.getElem_cons_succ]
            go_simp
            go_at_call 16
            with_reducible refine (HMA.out _ _ _ hot.out (BP.out.only OP.out (fun f => f)) (BI.out.only OI.out (fun f => f))).mono ?_
            rintro _ u8 ⟨ag, nn, cg, er, rfl, hcase, ho⟩
            have HC := Lib.hid hcase
            replace hot := Lib.hid (hot.out.trans ho)
            clear ho hcase
            try dsimp only
            refine hK.out _ _ (HS2.out _ hot.out) (fun hHeld8 => ?_)
            clear hK K
            try simp only [List.getElem_toArray, List.getElem_cons_zero, List.getElem_cons_succ, Act.put, List.setIfInBounds_toArray, List.set_cons_zero, List.set_cons_succ]
            refine wpAnyH_take (i := 12) (v := ?_) rfl (by kernel_rfl) (by kernel_rfl) (by kernel_rfl) (fun _ _ _ h => h) (Or.inl ⟨by rfl, ?_⟩) (by assumption) ?_
            rotate_left 1
            · intro w' hSw
              try dsimp only at hSw
              go_simp
              try with_reducible rfl
            try simp only [List.getElem_toArray, List.getElem_cons_zero, List.getElem_cons_succ, Act.put, List.setIfInBounds_toArray, List.set_cons_zero, List.set_cons_succ]
            refine wpAnyH_take (i := 13) (v := ?_) rfl (by kernel_rfl) (by kernel_rfl) (by kernel_rfl) (fun _ _ _ h => h) (Or.inl ⟨by rfl, ?_⟩) (by assumption) ?_
            rotate_left 1
            · intro w' hSw
              try dsimp only at hSw
              go_simp
              try with_reducible rfl
            try simp only [List.getElem_toArray, List.getElem_cons_zero, List.getElem_cons_succ, Act.put, List.setIfInBounds_toArray, List.set_cons_zero, List.set_cons_succ]
            refine wpAnyH_take (i := 14) (v := ?_) rfl (by kernel_rfl) (by kernel_rfl) (by kernel_rfl) (fun _ _ _ h => h) (Or.inl ⟨by rfl, ?_⟩) (by assumption) ?_
            rotate_left 1
            · intro w' hSw
              try dsimp only at hSw
              go_simp
              try with_reducible rfl
            try simp only [List.getElem_toArray, List.getElem_cons_zero, List.getElem_cons_succ, Act.put, List.setIfInBounds_toArray, List.set_cons_zero, List.set_cons_succ]
            refine wpAnyH_take (i := 15) (v := ?_) rfl (by kernel_rfl) (by kernel_rfl) (by kernel_rfl) (fun _ _ _ h => h) (Or.inl ⟨by rfl, ?_⟩) (by assumption) ?_
            rotate_left 1
            · intro w' hSw
              try dsimp only at hSw
              go_simp
              try with_reducible rfl
            try simp only [List.getElem_toArray, List.getElem_cons_zero, List.getElem_cons_succ, Act.put, List.setIfInBounds_toArray, List.set_cons_zero, List.set_cons_succ]
            refine wpAnyH_take (i := 16) (v := ?_) rfl (by kernel_rfl) (by kernel_rfl) (by kernel_rfl) (fun _ _ _ h => h) (Or.inl ⟨by rfl, ?_⟩) (by assumption) ?_
            rotate_left 1
            · intro w' hSw
              try dsimp only at hSw
              go_simp
              try with_reducible rfl
            try simp only [List.getElem_toArray, List.getElem_cons_zero, List.getElem_cons_succ, Act.put, List.setIfInBounds_toArray, List.set_cons_zero, List.set_cons_succ]
            refine wpAnyH_done (by kernel_rfl) ?_ _
            refine NoPanic.normal ?_
            go_wp2_with fail
            go_meet
            exact ⟨ag, nn, cg, er, rfl, rfl, HC, hot⟩

        · try simp only [List.getElem_toArray, List.getElem_cons_zero, List.getElem_cons_succ]
          go_simp
          obtain ⟨u9, hu9⟩ : ∃ x, x = u1.alloc (.cells #[.int .i64 j0, .int .i64 j1] 3) := ⟨_, rfl⟩
          rw [← hu9]
          have BI : Hid (BoxV u9 u1.heap.size [.int .i64 j0, .int .i64 j1]) := Lib.hid (by rw [hu9]; exact BoxV.new u1 [.int .i64 j0, .int .i64 j1] _ _ rfl)
          have ho : Only (fun _ => False) u1 u9 := by rw [hu9]; exact (Only.refl _ _).alloc _
          have OI := Lib.hid (Only.refl (fun _ => False) u9)
          replace hot := Lib.hid (hot.out.trans ho)
          clear ho hu9
          refine hK.out _ _ (HS2.out _ hot.out) (fun hHeld9 => ?_)
          clear hK K
          try simp only [List.getElem_toArray, List.getElem_cons_zero, List.getElem_cons_succ, Act.put, List.setIfInBounds_toArray, List.set_cons_zero, List.set_cons_succ]
          refine wpAnyH_ready (rs := [3]) (by kernel_rfl) (by simp) ?_
          refine AllReadyH.cons rfl (fun K hK => ?_) AllReadyH.nil
          try simp only [List.getElem_toArray, List.getElem_cons_zero, List.getElem_cons_succ]
          go_simp
          go_at_call 15
          with_reducible refine (HTOB.out _).mono ?_
          rintro _ u10 ⟨rfl, ho⟩
          replace OI := Lib.hid (OI.out.trans ho)
          replace hot := Lib.hid (hot.out.trans ho)
          clear ho
          try dsimp only
          refine hK.out _ _ (HS2.out _ hot.out) (fun hHeld10 => ?_)
          clear hK K
          try simp only [List.getElem_toArray, List.getElem_cons_zero, List.getElem_cons_succ, Act.put, List.setIfInBounds_toArray, List.set_cons_zero, List.set_cons_succ]
          refine wpAnyH_ready (rs := [4]) (by kernel_rfl) (by simp) ?_
          refine AllReadyH.cons rfl (fun K hK => ?_) AllReadyH.nil
          try simp only [List.getElem_toArray, List.getElem_cons_zero, List.getElem_cons_succ]
          go_simp
          obtain ⟨u11, hu11⟩ : ∃ x, x = u10.alloc (.cells #[.int .i64 D, .int .i64 F, .int .i64 T, .int .i64 G1, .int .i64 M1, .int .i64 B1, .slice a3 s1.length q3, .int .i64 G2, .int .i64 M2, .int .i64 B2, .slice a4 s2.length q4, .int .i64 E, .int .i64 H, .int .i64 I, .int .i64 K1, .int .i64 N1, .int .i64 C1, .slice b3 r1.length q5, .int .i64 K2, .int .i64 N2, .int .i64 C2, .slice b4 r2.length q6] 39) := ⟨_, rfl⟩
          rw [← hu11]
          have BP : Hid (BoxV u11 u10.heap.size [.int .i64 D, .int .i64 F, .int .i64 T, .int .i64 G1, .int .i64 M1, .int .i64 B1, .slice a3 s1.length q3, .int .i64 G2, .int .i64 M2, .int .i64 B2, .slice a4 s2.length q4, .int .i64 E, .int .i64 H, .int .i64 I, .int .i64 K1, .int .i64 N1, .int .i64 C1, .slice b3 r1.length q5, .int .i64 K2, .int .i64 N2, .int .i64 C2, .slice b4 r2.length q6]) := Lib.hid (by rw [hu11]; exact BoxV.new u10 [.int .i64 D, .int .i64 F, .int .i64 T, .int .i64 G1, .int .i64 M1, .int .i64 B1, .slice a3 s1.length q3, .int .i64 G2, .int .i64 M2, .int .i64 B2, .slice a4 s2.length q4, .int .i64 E, .int .i64 H, .int .i64 I, .int .i64 K1, .int .i64 N1, .int .i64 C1, .slice b3 r1.length q5, .int .i64 K2, .int .i64 N2, .int .i64 C2, .slice b4 r2.length q6] _ _ rfl)
          have ho : Only (fun _ => False) u10 u11 := by rw [hu11]; exact (Only.refl _ _).alloc _
          have OP := Lib.hid (Only.refl (fun _ => False) u11)
          replace OI := Lib.hid (OI.out.trans ho)
          replace hot := Lib.hid (hot.out.trans ho)
          clear ho hu11
          refine hK.out _ _ (HS2.out _ hot.out) (fun hHeld11 => ?_)
          clear hK K
          try simp only [List.getElem_toArray, List.getElem_cons_zero, List.getElem_cons_succ, Act.put, List.setIfInBounds_toArray, List.set_cons_zero, List.set_cons_succ]
          refine wpAnyH_ready (rs := [11]) (by kernel_rfl) (by simp) ?_
          refine AllReadyH.cons rfl (fun K hK => ?_) AllReadyH.nil
          try simp only [List.getElem_toArray, List.getElem_cons_zero, List.getElem_cons_succ]
          go_simp
          go_at_call 16
          with_reducible refine (HMA.out _ _ _ hot.out (BP.out.only OP.out (fun f => f)) (BI.out.only OI.out (fun f => f))).mono ?_
          rintro _ u12 ⟨ag, nn, cg, er, rfl, hcase, ho⟩
          have HC := Lib.hid hcase
          replace hot := Lib.hid (hot.out.trans ho)
          clear ho hcase
          try dsimp only
          refine hK.out _ _ (HS2.out _ hot.out) (fun hHeld12 => ?_)
          clear hK K
          try simp only [List.getElem_toArray, List.getElem_cons_zero, List.getElem_cons_succ, Act.put, List.setIfInBounds_toArray, List.set_cons_zero, List.set_cons_succ]
          refine wpAnyH_take (i := 12) (v := ?_) rfl (by kernel_rfl) (by kernel_rfl) (by kernel_rfl) (fun _ _ _ h => h) (Or.inl ⟨by rfl, ?_⟩) (by assumption) ?_
          rotate_left 1
          · intro w' hSw
            try dsimp only at hSw
            go_simp
            try with_reducible rfl
          try simp only [List.getElem_toArray, List.getElem_cons_zero, List.getElem_cons_succ, Act.put, List.setIfInBounds_toArray, List.set_cons_zero, List.set_cons_succ]
          refine wpAnyH_take (i := 13) (v := ?_) rfl (by kernel_rfl) (by kernel_rfl) (by kernel_rfl) (fun _ _ _ h => h) (Or.inl ⟨by rfl, ?_⟩) (by assumption) ?_
          rotate_left 1
          · intro w' hSw
            try dsimp only at hSw
            go_simp
            try with_reducible rfl
          try simp only [List.getElem_toArray, List.getElem_cons_zero, List.getElem_cons_succ, Act.put, List.setIfInBounds_toArray, List.set_cons_zero, List.set_cons_succ]
          refine wpAnyH_take (i := 14) (v := ?_) rfl (by kernel_rfl) (by kernel_rfl) (by kernel_rfl) (fun _ _ _ h => h) (Or.inl ⟨by rfl, ?_⟩) (by assumption) ?_
          rotate_left 1
          · intro w' hSw
            try dsimp only at hSw
            go_simp
            try with_reducible rfl
          try simp only [List.getElem_toArray, List.getElem_cons_zero, List.getElem_cons_succ, Act.put, List.setIfInBounds_toArray, List.set_cons_zero, List.set_cons_succ]
          refine wpAnyH_take (i := 15) (v := ?_) rfl (by kernel_rfl) (by kernel_rfl) (by kernel_rfl) (fun _ _ _ h => h) (Or.inl ⟨by rfl, ?_⟩) (by assumption) ?_
          rotate_left 1
          · intro w' hSw
            try dsimp only at hSw
            go_simp
            try with_reducible rfl
          try simp only [List.getElem_toArray, List.getElem_cons_zero, List.getElem_cons_succ, Act.put, List.setIfInBounds_toArray, List.set_cons_zero, List.set_cons_succ]
          refine wpAnyH_take (i := 16) (v := ?_) rfl (by kernel_rfl) (by kernel_rfl) (by kernel_rfl) (fun _ _ _ h => h) (Or.inl ⟨by rfl, ?_⟩) (by assumption) ?_
          rotate_left 1
          · intro w' hSw
            try dsimp only at hSw
            go_simp
            try with_reducible rfl
          try simp only [List.getElem_toArray, List.getElem_cons_zero, List.getElem_cons_succ, Act.put, List.setIfInBounds_toArray, List.set_cons_zero, List.set_cons_succ]
          refine wpAnyH_done (by kernel_rfl) ?_ _
          refine NoPanic.normal ?_
          go_wp2_with fail
          go_meet
          exact ⟨ag, nn, cg, er, rfl, rfl, HC, hot⟩

      · try simp only [List.getElem_toArray, List.getElem_cons_zero, List.getElem_cons_succ]
        go_simp
        obtain ⟨u13, hu13⟩ : ∃ x, x = u0.alloc (.cells #[.int .i64 j0, .int .i64 j1] 3) := ⟨_, rfl⟩
        rw [← hu13]
        have BI : Hid (BoxV u13 u0.heap.size [.int .i64 j0, .int .i64 j1]) := Lib.hid (by rw [hu13]; exact BoxV.new u0 [.int .i64 j0, .int .i64 j1] _ _ rfl)
        have ho : Only (fun _ => False) u0 u13 := by rw [hu13]; exact (Only.refl _ _).alloc _
        have OI := Lib.hid (Only.refl (fun _ => False) u13)
        replace hot := Lib.hid (hot.out.trans ho)
        clear ho hu13
        refine hK.out _ _ (HS2.out _ hot.out) (fun hHeld13 => ?_)
        clear hK K
        try simp only [List.getElem_toArray, List.getElem_cons_zero, List.getElem_cons_succ, Act.put, List.setIfInBounds_toArray, List.set_cons_zero, List.set_cons_succ]
        refine wpAnyH_ready (rs := [1]) (by kernel_rfl) (by simp) ?_
        refine AllReadyH.cons rfl (fun K hK => ?_) AllReadyH.nil
        try simp only [List.getElem_toArray, List.getElem_cons_zero, List.getElem_cons_succ]
        go_simp
        go_at_call 15
        with_reducible refine (HTOA.out _).mono ?_
        rintro _ u14 ⟨rfl, ho⟩
        replace OI := Lib.hid (OI.out.trans ho)
        replace hot := Lib.hid (hot.out.trans ho)
        clear ho
        try dsimp only
        refine hK.out _ _ (HS2.out _ hot.out) (fun hHeld14 => ?_)
        clear hK K
        try simp only [List.getElem_toArray, List.getElem_cons_zero, List.getElem_cons_succ, Act.put, List.setIfInBounds_toArray, List.set_cons_zero, List.set_cons_succ]
        refine wpAnyH_ready (rs := [3]) (by kernel_rfl) (by simp) ?_
        refine AllReadyH.cons rfl (fun K hK => ?_) AllReadyH.nil
        try simp only [List.getElem_toArray, List.getElem_cons_zero, List.getElem_cons_succ]
        go_simp
        go_at_call 15
        with_reducible refine (HTOB.out _).mono ?_
        rintro _ u15 ⟨rfl, ho⟩
        replace OI := Lib.hid (OI.out.trans ho)
        replace hot := Lib.hid (hot.out.trans ho)
        clear ho
        try dsimp only
        refine hK.out _ _ (HS2.out _ hot.out) (fun hHeld15 => ?_)
        clear hK K
        try simp only [List.getElem_toArray, List.getElem_cons_zero, List.getElem_cons_succ, Act.put, List.setIfInBounds_toArray, List.set_cons_zero, List.set_cons_succ]
        refine wpAnyH_ready (rs := [4]) (by kernel_rfl) (by simp) ?_
        refine AllReadyH.cons rfl (fun K hK => ?_) AllReadyH.nil
        try simp only [List.getElem_toArray, List.getElem_cons_zero, List.getElem_cons_succ]
        go_simp
        obtain ⟨u16, hu16⟩ : ∃ x, x = u15.alloc (.cells #[.int .i64 D, .int .i64 F, .int .i64 T, .int .i64 G1, .int .i64 M1, .int .i64 B1, .slice a3 s1.length q3, .int .i64 G2, .int .i64 M2, .int .i64 B2, .slice a4 s2.length q4, .int .i64 E, .int .i64 H, .int .i64 I, .int .i64 K1, .int .i64 N1, .int .i64 C1, .slice b3 r1.length q5, .int .i64 K2, .int .i64 N2, .int .i64 C2, .slice b4 r2.length q6] 39) := ⟨_, rfl⟩
        rw [← hu16]
        have BP : Hid (BoxV u16 u15.heap.size [.int .i64 D, .int .i64 F, .int .i64 T, .int .i64 G1, .int .i64 M1, .int .i64 B1, .slice a3 s1.length q3, .int .i64 G2, .int .i64 M2, .int .i64 B2, .slice a4 s2.length q4, .int .i64 E, .int .i64 H, .int .i64 I, .int .i64 K1, .int .i64 N1, .int .i64 C1, .slice b3 r1.length q5, .int .i64 K2, .int .i64 N2, .int .i64 C2, .slice b4 r2.length q6]) := Lib.hid (by rw [hu16]; exact BoxV.new u15 [.int .i64 D, .int .i64 F, .int .i64 T, .int .i64 G1, .int .i64 M1, .int .i64 B1, .slice a3 s1.length q3, .int .i64 G2, .int .i64 M2, .int .i64 B2, .slice a4 s2.length q4, .int .i64 E, .int .i64 H, .int .i64 I, .int .i64 K1, .int .i64 N1, .int .i64 C1, .slice b3 r1.length q5, .int .i64 K2, .int .i64 N2, .int .i64 C2, .slice b4 r2.length q6] _ _ rfl)
        have ho : Only (fun _ => False) u15 u16 := by rw [hu16]; exact (Only.refl _ _).alloc _
        have OP := Lib.hid (Only.refl (fun _ => False) u16)
        replace OI := Lib.hid (OI.out.trans ho)
        replace hot := Lib.hid (hot.out.trans ho)
        clear ho hu16
        refine hK.out _ _ (HS2.out _ hot.out) (fun hHeld16 => ?_)
        clear hK K
        try simp only [List.getElem_toArray, List.getElem_cons_zero, List.getElem_cons_succ, Act.put, List.setIfInBounds_toArray, List.set_cons_zero, List.set_cons_succ]
        refine wpAnyH_ready (rs := [11]) (by kernel_rfl) (by simp) ?_
        refine AllReadyH.cons rfl (fun K hK => ?_) AllReadyH.nil
        try simp only [List.getElem_toArray, List.getElem_cons_zero, List.getElem_cons_succ]
        go_simp
        go_at_call 16
        with_reducible refine (HMA.out _ _ _ hot.out (BP.out.only OP.out (fun f => f)) (BI.out.only OI.out (fun f => f))).mono ?_
        rintro _ u17 ⟨ag, nn, cg, er, rfl, hcase, ho⟩
        have HC := Lib.hid hcase
        replace hot := Lib.hid (hot.out.trans ho)
        clear ho hcase
        try dsimp only
        refine hK.out _ _ (HS2.out _ hot.out) (fun hHeld17 => ?_)
        clear hK K
        try simp only [List.getElem_toArray, List.getElem_cons_zero, List.getElem_cons_succ, Act.put, List.setIfInBounds_toArray, List.set_cons_zero, List.set_cons_succ]
        refine wpAnyH_take (i := 12) (v := ?_) rfl (by kernel_rfl) (by kernel_rfl) (by kernel_rfl) (fun _ _ _ h => h) (Or.inl ⟨by rfl, ?_⟩) (by assumption) ?_
        rotate_left 1
        · intro w' hSw
          try dsimp only at hSw
          go_simp
          try with_reducible rfl
        try simp only [List.getElem_toArray, List.getElem_cons_zero, List.getElem_cons_succ, Act.put, List.setIfInBounds_toArray, List.set_cons_zero, List.set_cons_succ]
        refine wpAnyH_take (i := 13) (v := ?_) rfl (by kernel_rfl) (by kernel_rfl) (by kernel_rfl) (fun _ _ _ h => h) (Or.inl ⟨by rfl, ?_⟩) (by assumption) ?_
        rotate_left 1
        · intro w' hSw
          try dsimp only at hSw
          go_simp
          try with_reducible rfl
        try simp only [List.getElem_toArray, List.getElem_cons_zero, List.getElem_cons_succ, Act.put, List.setIfInBounds_toArray, List.set_cons_zero, List.set_cons_succ]
        refine wpAnyH_take (i := 14) (v := ?_) rfl (by kernel_rfl) (by kernel_rfl) (by kernel_rfl) (fun _ _ _ h => h) (Or.inl ⟨by rfl, ?_⟩) (by assumption) ?_
        rotate_left 1
        · intro w' hSw
          try dsimp only at hSw
          go_simp
          try with_reducible rfl
        try simp only [List.getElem_toArray, List.getElem_cons_zero, List.getElem_cons_succ, Act.put, List.setIfInBounds_toArray, List.set_cons_zero, List.set_cons_succ]
        refine wpAnyH_take (i := 15) (v := ?_) rfl (by kernel_rfl) (by kernel_rfl) (by kernel_rfl) (fun _ _ _ h => h) (Or.inl ⟨by rfl, ?_⟩) (by assumption) ?_
        rotate_left 1
        · intro w' hSw
          try dsimp only at hSw
          go_simp
          try with_reducible rfl
        try simp only [List.getElem_toArray, List.getElem_cons_zero, List.getElem_cons_succ, Act.put, List.setIfInBounds_toArray, List.set_cons_zero, List.set_cons_succ]
        refine wpAnyH_take (i := 16) (v := ?_) rfl (by kernel_rfl) (by kernel_rfl) (by kernel_rfl) (fun _ _ _ h => h) (Or.inl ⟨by rfl, ?_⟩) (by assumption) ?_
        rotate_left 1
        · intro w' hSw
          try dsimp only at hSw
          go_simp
          try with_reducible rfl
        try simp only [List.getElem_toArray, List.getElem_cons_zero, List.getElem_cons_succ, Act.put, List.setIfInBounds_toArray, List.set_cons_zero, List.set_cons_succ]
        refine wpAnyH_done (by kernel_rfl) ?_ _
        refine NoPanic.normal ?_
        go_wp2_with fail
        go_meet
        exact ⟨ag, nn, cg, er, rfl, rfl, HC, hot⟩
    case rest =>
      obtain ⟨ag, nn, cg, er, rfl, rfl, HC, HOX⟩ := hcut
      rename World => W2
      clear HMA HS2
      have KX := Lib.hid (HO0.out.1.trans (HOW.out.trans HOX.out))
      go_wp2_with fail
      refine (grants_any _).mono ?_
      rintro _ w3 ⟨rfl, k3⟩
      have K3 := Lib.hid k3
      clear k3
      rcases HC.out with ⟨he, hn⟩ | ⟨he, hn, hp0, hp1, hany, hrd⟩
      · subst hn
        have hb : (er != 0) = true := by simpa using he
        clear he HC
        go_wp2_with fail
        refine (grants_any _).mono ?_
        rintro _ w4 ⟨rfl, k4⟩
        have K4 := Lib.hid (KX.out.trans (K3.out.trans k4))
        clear k4
        go_wp2_with fail
        go_ret
        exact ⟨rfl, K4.out⟩
      · subst he hn
        clear HC
        have HMK0 : Hid (∀ w', Only (fun _ => False) w3 w' → Calls Try.prog 22 #[.agg #[.int .i64 D, .int .i64 F, .int .i64 T, .int .i64 G1, .int .i64 M1, .int .i64 B1, .slice a3 s1.length q3, .int .i64 G2, .int .i64 M2, .int .i64 B2, .slice a4 s2.length q4], .int .i64 cr, .int .i64 j0] w' fun e w'' => e = .returned (.tuple #[(mkG D F T G1 M1 B1 G2 M2 B2 s1 s2 cr j0).val, .int .i64 (pE (⟨D, F, T, G1, M1, B1, G2, M2, B2, a3, a4, s1.length, s2.length, q3, q4, s1, s2⟩ : Pl) cr j0)]) ∧ Only (fun _ => False) w' w'') := Lib.hid (fun w' ho => make_any D F T G1 M1 B1 G2 M2 B2 a3 a4 s1.length s2.length q3 q4 s1 s2 cr j0 w' (HR1.out.only (HOX.out.trans (K3.out.trans ho)) (fun _ _ f => f)) (HR2.out.only (HOX.out.trans (K3.out.trans ho)) (fun _ _ f => f)) (by have := HJ.out.1; unfold InI at this; omega))
        obtain ⟨hc0, g0g, g0u, g0a, cr0, ga0, gac⟩ := gr_ok (⟨D, F, T, G1, M1, B1, G2, M2, B2, a3, a4, s1.length, s2.length, q3, q4, s1, s2⟩ : Pl) cr j0 HJ.out.1 hp0
        have hLI : InI (cr - (gr1 (⟨D, F, T, G1, M1, B1, G2, M2, B2, a3, a4, s1.length, s2.length, q3, q4, s1, s2⟩ : Pl) cr j0).a) := by have := HJ.out.1; unfold InI at this ⊢; omega
        have HMK1 : Hid (∀ w', Only (fun _ => False) w3 w' → Calls Try.prog 22 #[.agg #[.int .i64 E, .int .i64 H, .int .i64 I, .int .i64 K1, .int .i64 N1, .int .i64 C1, .slice b3 r1.length q5, .int .i64 K2, .int .i64 N2, .int .i64 C2, .slice b4 r2.length q6], .int .i64 (cr - (gr1 (⟨D, F, T, G1, M1, B1, G2, M2, B2, a3, a4, s1.length, s2.length, q3, q4, s1, s2⟩ : Pl) cr j0).a), .int .i64 j1] w' fun e w'' => e = .returned (.tuple #[(mkG E H I K1 N1 C1 K2 N2 C2 r1 r2 (cr - (gr1 (⟨D, F, T, G1, M1, B1, G2, M2, B2, a3, a4, s1.length, s2.length, q3, q4, s1, s2⟩ : Pl) cr j0).a) j1).val, .int .i64 (pE (⟨E, H, I, K1, N1, C1, K2, N2, C2, b3, b4, r1.length, r2.length, q5, q6, r1, r2⟩ : Pl) (cr - (gr1 (⟨D, F, T, G1, M1, B1, G2, M2, B2, a3, a4, s1.length, s2.length, q3, q4, s1, s2⟩ : Pl) cr j0).a) j1)]) ∧ Only (fun _ => False) w' w'') := Lib.hid (fun w' ho => make_any E H I K1 N1 C1 K2 N2 C2 b3 b4 r1.length r2.length q5 q6 r1 r2 (cr - (gr1 (⟨D, F, T, G1, M1, B1, G2, M2, B2, a3, a4, s1.length, s2.length, q3, q4, s1, s2⟩ : Pl) cr j0).a) j1 w' (HR3.out.only (HOX.out.trans (K3.out.trans ho)) (fun _ _ f => f)) (HR4.out.only (HOX.out.trans (K3.out.trans ho)) (fun _ _ f => f)) (by unfold InI at hLI; omega))
        obtain ⟨hc1, g1g, g1u, g1a, _, _, _⟩ := gr_ok (⟨E, H, I, K1, N1, C1, K2, N2, C2, b3, b4, r1.length, r2.length, q5, q6, r1, r2⟩ : Pl) (cr - (gr1 (⟨D, F, T, G1, M1, B1, G2, M2, B2, a3, a4, s1.length, s2.length, q3, q4, s1, s2⟩ : Pl) cr j0).a) j1 hLI hp1
        dsimp only at hc0 hc1
        clear hp0 hp1
        have HLI := Lib.hid (And.intro hLI (And.intro cr0 (And.intro ga0 gac)))
        clear hLI cr0 ga0 gac
        generalize gr1 (⟨E, H, I, K1, N1, C1, K2, N2, C2, b3, b4, r1.length, r2.length, q5, q6, r1, r2⟩ : Pl) (cr - (gr1 (⟨D, F, T, G1, M1, B1, G2, M2, B2, a3, a4, s1.length, s2.length, q3, q4, s1, s2⟩ : Pl) cr j0).a) j1 = G1' at *
        generalize pE (⟨E, H, I, K1, N1, C1, K2, N2, C2, b3, b4, r1.length, r2.length, q5, q6, r1, r2⟩ : Pl) (cr - (gr1 (⟨D, F, T, G1, M1, B1, G2, M2, B2, a3, a4, s1.length, s2.length, q3, q4, s1, s2⟩ : Pl) cr j0).a) j1 = mf at *
        generalize mkG E H I K1 N1 C1 K2 N2 C2 r1 r2 (cr - (gr1 (⟨D, F, T, G1, M1, B1, G2, M2, B2, a3, a4, s1.length, s2.length, q3, q4, s1, s2⟩ : Pl) cr j0).a) j1 = mh at *
        generalize gr1 (⟨D, F, T, G1, M1, B1, G2, M2, B2, a3, a4, s1.length, s2.length, q3, q4, s1, s2⟩ : Pl) cr j0 = G0 at *
        generalize pE (⟨D, F, T, G1, M1, B1, G2, M2, B2, a3, a4, s1.length, s2.length, q3, q4, s1, s2⟩ : Pl) cr j0 = me at *
        generalize mkG D F T G1 M1 B1 G2 M2 B2 s1 s2 cr j0 = mg at *
        obtain ⟨gg, gu, ga, gf⟩ := G0
        obtain ⟨kg, ku, ka, kf⟩ := G1'
        obtain ⟨xg, xu, xa, xf⟩ := mg
        obtain ⟨yg, yu, ya, yf⟩ := mh
        dsimp only at *
        have HMK0 : Hid (∀ w', Only (fun _ => False) w3 w' → Calls Try.prog 22 #[.agg #[.int .i64 D, .int .i64 F, .int .i64 T, .int .i64 G1, .int .i64 M1, .int .i64 B1, .slice a3 s1.length q3, .int .i64 G2, .int .i64 M2, .int .i64 B2, .slice a4 s2.length q4], .int .i64 cr, .int .i64 j0] w' fun e w'' => e = .returned (.tuple #[.agg #[.int .i64 xg, .int .i64 xu, .int .i64 xa, .bool xf], .int .i64 me]) ∧ Only (fun _ => False) w' w'') := HMK0
        have HMK1 : Hid (∀ w', Only (fun _ => False) w3 w' → Calls Try.prog 22 #[.agg #[.int .i64 E, .int .i64 H, .int .i64 I, .int .i64 K1, .int .i64 N1, .int .i64 C1, .slice b3 r1.length q5, .int .i64 K2, .int .i64 N2, .int .i64 C2, .slice b4 r2.length q6], .int .i64 (cr - ga), .int .i64 j1] w' fun e w'' => e = .returned (.tuple #[.agg #[.int .i64 yg, .int .i64 yu, .int .i64 ya, .bool yf], .int .i64 mf]) ∧ Only (fun _ => False) w' w'') := HMK1
        have HC0 := Lib.hid hc0
        have HC1 := Lib.hid hc1
        have HANY := Lib.hid hany
        have HRD := Lib.hid (hrd.only K3.out (fun _ _ f => f))
        have HEQ0 := Lib.hid (fun w => gr_eq gg gu ga gf g0g g0u g0a w)
        have HEQ1 := Lib.hid (fun w => gr_eq kg ku ka kf g1g g1u g1a w)
        clear hc0 hc1 hany hrd g0g g0u g0a g1g g1u g1a
        have HA3 := Lib.hid (HBA.out.only (HOX.out.trans K3.out) (fun f => f))
        have HB3 := Lib.hid (HBB.out.only (HOX.out.trans K3.out) (fun f => f))
        have HI3 := Lib.hid (HA2.out.only (HOX.out.trans K3.out) (fun f => f))
        have HS5 : Hid (∀ w', Only (fun _ => False) w3 w' → Only (fun _ => False) w3 w' ∧ w'.cell? ⟨x1, 0, none⟩ = some (.int .i64 D) ∧ w'.cell? ⟨x1, 1, none⟩ = some (.int .i64 F) ∧ w'.cell? ⟨x1, 2, none⟩ = some (.int .i64 T) ∧ w'.cell? ⟨x1, 3, none⟩ = some (.int .i64 G1) ∧ w'.cell? ⟨x1, 4, none⟩ = some (.int .i64 M1) ∧ w'.cell? ⟨x1, 5, none⟩ = some (.int .i64 B1) ∧ w'.cell? ⟨x1, 6, none⟩ = some (.slice a3 s1.length q3) ∧ w'.cell? ⟨x1, 7, none⟩ = some (.int .i64 G2) ∧ w'.cell? ⟨x1, 8, none⟩ = some (.int .i64 M2) ∧ w'.cell? ⟨x1, 9, none⟩ = some (.int .i64 B2) ∧ w'.cell? ⟨x1, 10, none⟩ = some (.slice a4 s2.length q4) ∧ w'.cell? ⟨w.heap.size + 1, 0, none⟩ = some (.int .i64 j0)) := Lib.hid (fun w' ho => by
          have hA := HA3.out.only ho (fun f => f)
          exact ⟨ho, (hA 0 _ rfl).1, (hA 1 _ rfl).1, (hA 2 _ rfl).1, (hA 3 _ rfl).1, (hA 4 _ rfl).1, (hA 5 _ rfl).1, (hA 6 _ rfl).1, (hA 7 _ rfl).1, (hA 8 _ rfl).1, (hA 9 _ rfl).1, (hA 10 _ rfl).1, ((HI3.out.only ho (fun f => f)) 0 _ rfl).1⟩)
        go_upto_region 5 with fail
        go_cut [11, 12] from 49 to 57 (fun va vb wx => ∃ (q : Nat), va = .pointer (some ⟨q, 0, none⟩) ∧ vb = .int .i64 me ∧ Hid (w3.heap.size ≤ q) ∧ Hid (BoxV wx q [.int .i64 xg, .int .i64 xu, .int .i64 xa, .bool xf]) ∧ Hid (Only (fun _ => False) w3 wx))
        case first =>
          refine wp_region_noPanic ?_
          refine wp_region_held_drew (S := (fun w' => Only (fun _ => False) w3 w' ∧ w'.cell? ⟨x1, 0, none⟩ = some (.int .i64 D) ∧ w'.cell? ⟨x1, 1, none⟩ = some (.int .i64 F) ∧ w'.cell? ⟨x1, 2, none⟩ = some (.int .i64 T) ∧ w'.cell? ⟨x1, 3, none⟩ = some (.int .i64 G1) ∧ w'.cell? ⟨x1, 4, none⟩ = some (.int .i64 M1) ∧ w'.cell? ⟨x1, 5, none⟩ = some (.int .i64 B1) ∧ w'.cell? ⟨x1, 6, none⟩ = some (.slice a3 s1.length q3) ∧ w'.cell? ⟨x1, 7, none⟩ = some (.int .i64 G2) ∧ w'.cell? ⟨x1, 8, none⟩ = some (.int .i64 M2) ∧ w'.cell? ⟨x1, 9, none⟩ = some (.int .i64 B2) ∧ w'.cell? ⟨x1, 10, none⟩ = some (.slice a4 s2.length q4) ∧ w'.cell? ⟨w.heap.size + 1, 0, none⟩ = some (.int .i64 j0))) (by kernel_rfl) (HS5.out _ (Only.refl _ _).drew) (fun hHeld => ?_)
          have hot := Lib.hid ((Only.refl (fun _ => False) w3).drew)
          generalize w3.drew = u0 at *
          refine wpAnyH_take (i := 0) (v := ?_) rfl (by kernel_rfl) (by kernel_rfl) (by kernel_rfl) (fun _ _ _ h => h) (Or.inl ⟨by rfl, ?_⟩) (by assumption) ?_
          rotate_left 1
          · intro w' hSw
            try dsimp only at hSw
            go_simp
            try with_reducible rfl
          try simp only [List.getElem_toArray, List.getElem_cons_zero, Act.put, List.setIfInBounds_toArray, List.set_cons_zero, List.set_cons_succ]
          refine wpAnyH_take (i := 2) (v := ?_) rfl (by kernel_rfl) (by kernel_rfl) (by kernel_rfl) (fun _ _ _ h => h) (Or.inl ⟨by rfl, ?_⟩) (by assumption) ?_
          rotate_left 1
          · intro w' hSw
            try dsimp only at hSw
            go_simp
            try with_reducible rfl
          try simp only [List.getElem_toArray, List.getElem_cons_zero, List.getElem_cons_succ, Act.put, List.setIfInBounds_toArray, List.set_cons_zero, List.set_cons_succ]
          refine wpAnyH_take (i := 3) (v := ?_) rfl (by kernel_rfl) (by kernel_rfl) (by kernel_rfl) (fun _ _ _ h => h) (Or.inl ⟨by rfl, ?_⟩) (by assumption) ?_
          rotate_left 1
          · intro w' hSw
            try dsimp only at hSw
            go_simp
            try with_reducible rfl
          try simp only [List.getElem_toArray, List.getElem_cons_zero, List.getElem_cons_succ, Act.put, List.setIfInBounds_toArray, List.set_cons_zero, List.set_cons_succ]
          refine wpAnyH_take (i := 4) (v := ?_) rfl (by kernel_rfl) (by kernel_rfl) (by kernel_rfl) (fun _ _ _ h => h) (Or.inl ⟨by rfl, ?_⟩) (by assumption) ?_
          rotate_left 1
          · intro w' hSw
            try dsimp only at hSw
            go_simp
            try with_reducible rfl
          try simp only [List.getElem_toArray, List.getElem_cons_zero, List.getElem_cons_succ, Act.put, List.setIfInBounds_toArray, List.set_cons_zero, List.set_cons_succ]
          refine wpAnyH_ready (rs := [1, 9]) (by kernel_rfl) (by simp) ?_
          refine AllReadyH.cons rfl (fun K hK => ?_) (AllReadyH.cons rfl (fun K hK => ?_) AllReadyH.nil)
          · try simp only [List.getElem_toArray, List.getElem_cons_zero, List.getElem_cons_succ]
            go_simp
            go_at_call 15
            with_reducible refine (HTOA.out _).mono ?_
            rintro _ u1 ⟨rfl, ho⟩
            replace hot := Lib.hid (hot.out.trans ho)
            clear ho
            try dsimp only
            refine hK.out _ _ (HS5.out _ hot.out) (fun hHeld1 => ?_)
            clear hK K
            try simp only [List.getElem_toArray, List.getElem_cons_zero, List.getElem_cons_succ, Act.put, List.setIfInBounds_toArray, List.set_cons_zero, List.set_cons_succ]
            refine wpAnyH_ready (rs := [5, 9]) (by kernel_rfl) (by simp) ?_
            refine AllReadyH.cons rfl (fun K hK => ?_) (AllReadyH.cons rfl (fun K hK => ?_) AllReadyH.nil)
            · try simp only [List.getElem_toArray, List.getElem_cons_zero, List.getElem_cons_succ]
              go_simp
              go_at_call 22
              with_reducible refine (HMK0.out _ hot.out).mono ?_
              rintro _ u2 ⟨rfl, ho⟩
              replace hot := Lib.hid (hot.out.trans ho)
              clear ho
              try dsimp only
              refine hK.out _ _ (HS5.out _ hot.out) (fun hHeld2 => ?_)
              clear hK K
              try simp only [List.getElem_toArray, List.getElem_cons_zero, List.getElem_cons_succ, Act.put, List.setIfInBounds_toArray, List.set_cons_zero, List.set_cons_succ]
              refine wpAnyH_take (i := 6) (v := ?_) rfl (by kernel_rfl) (by kernel_rfl) (by kernel_rfl) (fun _ _ _ h => h) (Or.inl ⟨by rfl, ?_⟩) (by assumption) ?_
              rotate_left 1
              · intro w' hSw
                try dsimp only at hSw
                go_simp
                try with_reducible rfl
              try simp only [List.getElem_toArray, List.getElem_cons_zero, List.getElem_cons_succ, Act.put, List.setIfInBounds_toArray, List.set_cons_zero, List.set_cons_succ]
              refine wpAnyH_take (i := 7) (v := ?_) rfl (by kernel_rfl) (by kernel_rfl) (by kernel_rfl) (fun _ _ _ h => h) (Or.inl ⟨by rfl, ?_⟩) (by assumption) ?_
              rotate_left 1
              · intro w' hSw
                try dsimp only at hSw
                go_simp
                try with_reducible rfl
              try simp only [List.getElem_toArray, List.getElem_cons_zero, List.getElem_cons_succ, Act.put, List.setIfInBounds_toArray, List.set_cons_zero, List.set_cons_succ]
              refine wpAnyH_take (i := 8) (v := ?_) rfl (by kernel_rfl) (by kernel_rfl) (by kernel_rfl) (fun _ _ _ h => h) (Or.inl ⟨by rfl, ?_⟩) (by assumption) ?_
              rotate_left 1
              · intro w' hSw
                try dsimp only at hSw
                go_simp
                try with_reducible rfl
              try simp only [List.getElem_toArray, List.getElem_cons_zero, List.getElem_cons_succ, Act.put, List.setIfInBounds_toArray, List.set_cons_zero, List.set_cons_succ]
              refine wpAnyH_ready (rs := [9]) (by kernel_rfl) (by simp) ?_
              refine AllReadyH.cons rfl (fun K hK => ?_) AllReadyH.nil
              try simp only [List.getElem_toArray, List.getElem_cons_zero, List.getElem_cons_succ]
              go_simp
              obtain ⟨u3, hu3⟩ : ∃ x, x = u2.alloc (.cells #[.int .i64 0, .int .i64 0, .int .i64 0, .bool false] 50) := ⟨_, rfl⟩
              rw [← hu3]
              have ZB : Hid (BoxV u3 u2.heap.size zerosG) := Lib.hid (by rw [hu3]; exact BoxV.new u2 zerosG _ _ rfl)
              have hqs := Lib.hid hot.out.size
              have ho : Only (fun _ => False) u2 u3 := by rw [hu3]; exact (Only.refl _ _).alloc _
              have OB := Lib.hid (Only.refl (fun _ => False) u3)
              replace hot := Lib.hid (hot.out.trans ho)
              clear ho hu3
              refine hK.out _ _ (HS5.out _ hot.out) (fun hHeld3 => ?_)
              clear hK K
              try simp only [List.getElem_toArray, List.getElem_cons_zero, List.getElem_cons_succ, Act.put, List.setIfInBounds_toArray, List.set_cons_zero, List.set_cons_succ]
              refine wpAnyH_ready (rs := [10]) (by kernel_rfl) (by simp) ?_
              refine AllReadyH.cons rfl (fun K hK => ?_) AllReadyH.nil
              try simp only [List.getElem_toArray, List.getElem_cons_zero, List.getElem_cons_succ]
              go_simp
              have hz := ZB.out.only OB.out (fun f => f)
              obtain ⟨⟨z0, z1, z2, z3⟩, y0, y1, y2, y3⟩ := hz.gz
              go_simp
              obtain ⟨q, u4, hqq, hb, hoW, hq9, hW⟩ := gbox_put hz hot.out hqs.out (.int .i64 xg) (.int .i64 xu) (.int .i64 xa) (.bool xf)
              rw [hqq, ← hW]
              have HBQ := Lib.hid hb
              have HQ9 := Lib.hid hq9
              replace hot := Lib.hid hoW
              clear hz hb hoW hq9 hqq hW z0 z1 z2 z3 y0 y1 y2 y3
              refine hK.out _ _ (HS5.out _ hot.out) (fun hHeld4 => ?_)
              clear hK K
              try simp only [List.getElem_toArray, List.getElem_cons_zero, List.getElem_cons_succ, Act.put, List.setIfInBounds_toArray, List.set_cons_zero, List.set_cons_succ]
              refine wpAnyH_take (i := 11) (v := ?_) rfl (by kernel_rfl) (by kernel_rfl) (by kernel_rfl) (fun _ _ _ h => h) (Or.inl ⟨by rfl, ?_⟩) (by assumption) ?_
              rotate_left 1
              · intro w' hSw
                try dsimp only at hSw
                go_simp
                try with_reducible rfl
              try simp only [List.getElem_toArray, List.getElem_cons_zero, List.getElem_cons_succ, Act.put, List.setIfInBounds_toArray, List.set_cons_zero, List.set_cons_succ]
              refine wpAnyH_done (by kernel_rfl) ?_ _
              refine NoPanic.normal ?_
              go_wp2_with fail
              go_meet
              exact ⟨q, rfl, rfl, HQ9, HBQ, hot⟩

            · try simp only [List.getElem_toArray, List.getElem_cons_zero, List.getElem_cons_succ]
              go_simp
              obtain ⟨u5, hu5⟩ : ∃ x, x = u1.alloc (.cells #[.int .i64 0, .int .i64 0, .int .i64 0, .bool false] 50) := ⟨_, rfl⟩
              rw [← hu5]
              have ZB : Hid (BoxV u5 u1.heap.size zerosG) := Lib.hid (by rw [hu5]; exact BoxV.new u1 zerosG _ _ rfl)
              have hqs := Lib.hid hot.out.size
              have ho : Only (fun _ => False) u1 u5 := by rw [hu5]; exact (Only.refl _ _).alloc _
              have OB := Lib.hid (Only.refl (fun _ => False) u5)
              replace hot := Lib.hid (hot.out.trans ho)
              clear ho hu5
              refine hK.out _ _ (HS5.out _ hot.out) (fun hHeld5 => ?_)
              clear hK K
              try simp only [List.getElem_toArray, List.getElem_cons_zero, List.getElem_cons_succ, Act.put, List.setIfInBounds_toArray, List.set_cons_zero, List.set_cons_succ]
              refine wpAnyH_ready (rs := [5]) (by kernel_rfl) (by simp) ?_
              refine AllReadyH.cons rfl (fun K hK => ?_) AllReadyH.nil
              try simp only [List.getElem_toArray, List.getElem_cons_zero, List.getElem_cons_succ]
              go_simp
              go_at_call 22
              with_reducible refine (HMK0.out _ hot.out).mono ?_
              rintro _ u6 ⟨rfl, ho⟩
              replace OB := Lib.hid (OB.out.trans ho)
              replace hot := Lib.hid (hot.out.trans ho)
              clear ho
              try dsimp only
              refine hK.out _ _ (HS5.out _ hot.out) (fun hHeld6 => ?_)
              clear hK K
              try simp only [List.getElem_toArray, List.getElem_cons_zero, List.getElem_cons_succ, Act.put, List.setIfInBounds_toArray, List.set_cons_zero, List.set_cons_succ]
              refine wpAnyH_take (i := 6) (v := ?_) rfl (by kernel_rfl) (by kernel_rfl) (by kernel_rfl) (fun _ _ _ h => h) (Or.inl ⟨by rfl, ?_⟩) (by assumption) ?_
              rotate_left 1
              · intro w' hSw
                try dsimp only at hSw
                go_simp
                try with_reducible rfl
              try simp only [List.getElem_toArray, List.getElem_cons_zero, List.getElem_cons_succ, Act.put, List.setIfInBounds_toArray, List.set_cons_zero, List.set_cons_succ]
              refine wpAnyH_take (i := 7) (v := ?_) rfl (by kernel_rfl) (by kernel_rfl) (by kernel_rfl) (fun _ _ _ h => h) (Or.inl ⟨by rfl, ?_⟩) (by assumption) ?_
              rotate_left 1
              · intro w' hSw
                try dsimp only at hSw
                go_simp
                try with_reducible rfl
              try simp only [List.getElem_toArray, List.getElem_cons_zero, List.getElem_cons_succ, Act.put, List.setIfInBounds_toArray, List.set_cons_zero, List.set_cons_succ]
              refine wpAnyH_take (i := 8) (v := ?_) rfl (by kernel_rfl) (by kernel_rfl) (by kernel_rfl) (fun _ _ _ h => h) (Or.inl ⟨by rfl, ?_⟩) (by assumption) ?_
              rotate_left 1
              · intro w' hSw
                try dsimp only at hSw
                go_simp
                try with_reducible rfl
              try simp only [List.getElem_toArray, List.getElem_cons_zero, List.getElem_cons_succ, Act.put, List.setIfInBounds_toArray, List.set_cons_zero, List.set_cons_succ]
              refine wpAnyH_ready (rs := [10]) (by kernel_rfl) (by simp) ?_
              refine AllReadyH.cons rfl (fun K hK => ?_) AllReadyH.nil
              try simp only [List.getElem_toArray, List.getElem_cons_zero, List.getElem_cons_succ]
              go_simp
              have hz := ZB.out.only OB.out (fun f => f)
              obtain ⟨⟨z0, z1, z2, z3⟩, y0, y1, y2, y3⟩ := hz.gz
              go_simp
              obtain ⟨q, u7, hqq, hb, hoW, hq9, hW⟩ := gbox_put hz hot.out hqs.out (.int .i64 xg) (.int .i64 xu) (.int .i64 xa) (.bool xf)
              rw [hqq, ← hW]
              have HBQ := Lib.hid hb
              have HQ9 := Lib.hid hq9
              replace hot := Lib.hid hoW
              clear hz hb hoW hq9 hqq hW z0 z1 z2 z3 y0 y1 y2 y3
              refine hK.out _ _ (HS5.out _ hot.out) (fun hHeld7 => ?_)
              clear hK K
              try simp only [List.getElem_toArray, List.getElem_cons_zero, List.getElem_cons_succ, Act.put, List.setIfInBounds_toArray, List.set_cons_zero, List.set_cons_succ]
              refine wpAnyH_take (i := 11) (v := ?_) rfl (by kernel_rfl) (by kernel_rfl) (by kernel_rfl) (fun _ _ _ h => h) (Or.inl ⟨by rfl, ?_⟩) (by assumption) ?_
              rotate_left 1
              · intro w' hSw
                try dsimp only at hSw
                go_simp
                try with_reducible rfl
              try simp only [List.getElem_toArray, List.getElem_cons_zero, List.getElem_cons_succ, Act.put, List.setIfInBounds_toArray, List.set_cons_zero, List.set_cons_succ]
              refine wpAnyH_done (by kernel_rfl) ?_ _
              refine NoPanic.normal ?_
              go_wp2_with fail
              go_meet
              exact ⟨q, rfl, rfl, HQ9, HBQ, hot⟩

          · try simp only [List.getElem_toArray, List.getElem_cons_zero, List.getElem_cons_succ]
            go_simp
            obtain ⟨u8, hu8⟩ : ∃ x, x = u0.alloc (.cells #[.int .i64 0, .int .i64 0, .int .i64 0, .bool false] 50) := ⟨_, rfl⟩
            rw [← hu8]
            have ZB : Hid (BoxV u8 u0.heap.size zerosG) := Lib.hid (by rw [hu8]; exact BoxV.new u0 zerosG _ _ rfl)
            have hqs := Lib.hid hot.out.size
            have ho : Only (fun _ => False) u0 u8 := by rw [hu8]; exact (Only.refl _ _).alloc _
            have OB := Lib.hid (Only.refl (fun _ => False) u8)
            replace hot := Lib.hid (hot.out.trans ho)
            clear ho hu8
            refine hK.out _ _ (HS5.out _ hot.out) (fun hHeld8 => ?_)
            clear hK K
            try simp only [List.getElem_toArray, List.getElem_cons_zero, List.getElem_cons_succ, Act.put, List.setIfInBounds_toArray, List.set_cons_zero, List.set_cons_succ]
            refine wpAnyH_ready (rs := [1]) (by kernel_rfl) (by simp) ?_
            refine AllReadyH.cons rfl (fun K hK => ?_) AllReadyH.nil
            try simp only [List.getElem_toArray, List.getElem_cons_zero, List.getElem_cons_succ]
            go_simp
            go_at_call 15
            with_reducible refine (HTOA.out _).mono ?_
            rintro _ u9 ⟨rfl, ho⟩
            replace OB := Lib.hid (OB.out.trans ho)
            replace hot := Lib.hid (hot.out.trans ho)
            clear ho
            try dsimp only
            refine hK.out _ _ (HS5.out _ hot.out) (fun hHeld9 => ?_)
            clear hK K
            try simp only [List.getElem_toArray, List.getElem_cons_zero, List.getElem_cons_succ, Act.put, List.setIfInBounds_toArray, List.set_cons_zero, List.set_cons_succ]
            refine wpAnyH_ready (rs := [5]) (by kernel_rfl) (by simp) ?_
            refine AllReadyH.cons rfl (fun K hK => ?_) AllReadyH.nil
            try simp only [List.getElem_toArray, List.getElem_cons_zero, List.getElem_cons_succ]
            go_simp
            go_at_call 22
            with_reducible refine (HMK0.out _ hot.out).mono ?_
            rintro _ u10 ⟨rfl, ho⟩
            replace OB := Lib.hid (OB.out.trans ho)
            replace hot := Lib.hid (hot.out.trans ho)
            clear ho
            try dsimp only
            refine hK.out _ _ (HS5.out _ hot.out) (fun hHeld10 => ?_)
            clear hK K
            try simp only [List.getElem_toArray, List.getElem_cons_zero, List.getElem_cons_succ, Act.put, List.setIfInBounds_toArray, List.set_cons_zero, List.set_cons_succ]
            refine wpAnyH_take (i := 6) (v := ?_) rfl (by kernel_rfl) (by kernel_rfl) (by kernel_rfl) (fun _ _ _ h => h) (Or.inl ⟨by rfl, ?_⟩) (by assumption) ?_
            rotate_left 1
            · intro w' hSw
              try dsimp only at hSw
              go_simp
              try with_reducible rfl
            try simp only [List.getElem_toArray, List.getElem_cons_zero, List.getElem_cons_succ, Act.put, List.setIfInBounds_toArray, List.set_cons_zero, List.set_cons_succ]
            refine wpAnyH_take (i := 7) (v := ?_) rfl (by kernel_rfl) (by kernel_rfl) (by kernel_rfl) (fun _ _ _ h => h) (Or.inl ⟨by rfl, ?_⟩) (by assumption) ?_
            rotate_left 1
            · intro w' hSw
              try dsimp only at hSw
              go_simp
              try with_reducible rfl
            try simp only [List.getElem_toArray, List.getElem_cons_zero, List.getElem_cons_succ, Act.put, List.setIfInBounds_toArray, List.set_cons_zero, List.set_cons_succ]
            refine wpAnyH_take (i := 8) (v := ?_) rfl (by kernel_rfl) (by kernel_rfl) (by kernel_rfl) (fun _ _ _ h => h) (Or.inl ⟨by rfl, ?_⟩) (by assumption) ?_
            rotate_left 1
            · intro w' hSw
              try dsimp only at hSw
              go_simp
              try with_reducible rfl
            try simp only [List.getElem_toArray, List.getElem_cons_zero, List.getElem_cons_succ, Act.put, List.setIfInBounds_toArray, List.set_cons_zero, List.set_cons_succ]
            refine wpAnyH_ready (rs := [10]) (by kernel_rfl) (by simp) ?_
            refine AllReadyH.cons rfl (fun K hK => ?_) AllReadyH.nil
            try simp only [List.getElem_toArray, List.getElem_cons_zero, List.getElem_cons_succ]
            go_simp
            have hz := ZB.out.only OB.out (fun f => f)
            obtain ⟨⟨z0, z1, z2, z3⟩, y0, y1, y2, y3⟩ := hz.gz
            go_simp
            obtain ⟨q, u11, hqq, hb, hoW, hq9, hW⟩ := gbox_put hz hot.out hqs.out (.int .i64 xg) (.int .i64 xu) (.int .i64 xa) (.bool xf)
            rw [hqq, ← hW]
            have HBQ := Lib.hid hb
            have HQ9 := Lib.hid hq9
            replace hot := Lib.hid hoW
            clear hz hb hoW hq9 hqq hW z0 z1 z2 z3 y0 y1 y2 y3
            refine hK.out _ _ (HS5.out _ hot.out) (fun hHeld11 => ?_)
            clear hK K
            try simp only [List.getElem_toArray, List.getElem_cons_zero, List.getElem_cons_succ, Act.put, List.setIfInBounds_toArray, List.set_cons_zero, List.set_cons_succ]
            refine wpAnyH_take (i := 11) (v := ?_) rfl (by kernel_rfl) (by kernel_rfl) (by kernel_rfl) (fun _ _ _ h => h) (Or.inl ⟨by rfl, ?_⟩) (by assumption) ?_
            rotate_left 1
            · intro w' hSw
              try dsimp only at hSw
              go_simp
              try with_reducible rfl
            try simp only [List.getElem_toArray, List.getElem_cons_zero, List.getElem_cons_succ, Act.put, List.setIfInBounds_toArray, List.set_cons_zero, List.set_cons_succ]
            refine wpAnyH_done (by kernel_rfl) ?_ _
            refine NoPanic.normal ?_
            go_wp2_with fail
            go_meet
            exact ⟨q, rfl, rfl, HQ9, HBQ, hot⟩
        case rest =>
          obtain ⟨q, rfl, rfl, HQ9, HBQ, HO5⟩ := hcut
          rename World => W5
          go_upto_if 60 with fail
          go_cut [13] from 61 to 68 (fun va wx => va = .int .i64 (cr - ga) ∧ Hid (BoxV wx q [.int .i64 gg, .int .i64 gu, .int .i64 ga, .bool gf]) ∧ Hid (Only (fun _ => False) w3 wx))
          case first =>
            rcases HC0.out with ⟨e, eg⟩ | ⟨e, eg⟩
            · subst e
              injection eg with e1 e2 e3 e4
              subst e1 e2 e3 e4
              have b2 := (HBQ.out 2 _ rfl).1
              have v1 : IntKind.i64.wrap (cr - ga) = cr - ga := by have h := HLI.out; unfold InI at h; rw [wrap_i64]; omega
              have v2 : wrap64 (cr - ga) = cr - ga := by have h := HLI.out; unfold InI at h; rw [wrap64_eq]; omega
              go_wp2_with fail
              go_meet
              exact ⟨rfl, HBQ, HO5⟩
            · subst e
              injection eg with e1 e2 e3 e4
              subst e1 e2 e3 e4
              have hb3 := HBQ.out
              have y0 := (hb3 0 _ rfl).2; have y1 := (hb3 1 _ rfl).2; have y2 := (hb3 2 _ rfl).2; have y3 := (hb3 3 _ rfl).2
              have g0 := (hb3 0 _ rfl).1; have g1 := (hb3 1 _ rfl).1; have g2 := (hb3 2 _ rfl).1; have g3 := (hb3 3 _ rfl).1
              have p3 := ((HA3.out.only HO5.out (fun f => f)) 3 _ rfl).1
              obtain ⟨q', W6, hqq, hb, hoW, hq9, hW⟩ : ∃ q' W, q = q' ∧ BoxV W q' [.int .i64 gg, .int .i64 0, .int .i64 0, .bool true] ∧ Only (fun _ => False) w3 W ∧ w3.heap.size ≤ q' ∧ W = (((W5.setCell ⟨q', 0, none⟩ (.int .i64 gg)).setCell ⟨q', 1, none⟩ (.int .i64 0)).setCell ⟨q', 2, none⟩ (.int .i64 0)).setCell ⟨q', 3, none⟩ (.bool true) := ⟨q, _, rfl, hb3.put [.int .i64 gg, .int .i64 0, .int .i64 0, .bool true] rfl, puts_only q [.int .i64 gg, .int .i64 0, .int .i64 0, .bool true] 0 w3 W5 HO5.out (.inr HQ9.out), HQ9.out, rfl⟩
              subst hqq
              clear hb3
              go_wp2_with fail
              rw [← hW]
              go_meet
              exact ⟨by rw [Int.sub_zero], Lib.hid hb, Lib.hid hoW⟩
          case rest =>
            obtain ⟨rfl, HBQ6, HO6⟩ := hcut
            rename World => W6
            clear HBQ HO5 HMK0 HS5
            have HS10 : Hid (∀ w', Only (fun _ => False) W6 w' → Only (fun _ => False) W6 w' ∧ w'.cell? ⟨x2, 0, none⟩ = some (.int .i64 E) ∧ w'.cell? ⟨x2, 1, none⟩ = some (.int .i64 H) ∧ w'.cell? ⟨x2, 2, none⟩ = some (.int .i64 I) ∧ w'.cell? ⟨x2, 3, none⟩ = some (.int .i64 K1) ∧ w'.cell? ⟨x2, 4, none⟩ = some (.int .i64 N1) ∧ w'.cell? ⟨x2, 5, none⟩ = some (.int .i64 C1) ∧ w'.cell? ⟨x2, 6, none⟩ = some (.slice b3 r1.length q5) ∧ w'.cell? ⟨x2, 7, none⟩ = some (.int .i64 K2) ∧ w'.cell? ⟨x2, 8, none⟩ = some (.int .i64 N2) ∧ w'.cell? ⟨x2, 9, none⟩ = some (.int .i64 C2) ∧ w'.cell? ⟨x2, 10, none⟩ = some (.slice b4 r2.length q6) ∧ w'.cell? ⟨w.heap.size + 1, 1, none⟩ = some (.int .i64 j1)) := Lib.hid (fun w' ho => by
              have hA := HB3.out.only (HO6.out.trans ho) (fun f => f)
              exact ⟨ho, (hA 0 _ rfl).1, (hA 1 _ rfl).1, (hA 2 _ rfl).1, (hA 3 _ rfl).1, (hA 4 _ rfl).1, (hA 5 _ rfl).1, (hA 6 _ rfl).1, (hA 7 _ rfl).1, (hA 8 _ rfl).1, (hA 9 _ rfl).1, (hA 10 _ rfl).1, ((HI3.out.only (HO6.out.trans ho) (fun f => f)) 1 _ rfl).1⟩)
            have HMK1 := Lib.hid (fun w' (ho : Only (fun _ => False) W6 w') => HMK1.out w' (HO6.out.trans ho))
            go_upto_region 10 with fail
            go_cut [14, 15] from 69 to 77 (fun va vb wx => ∃ (q : Nat), va = .pointer (some ⟨q, 0, none⟩) ∧ vb = .int .i64 mf ∧ Hid (W6.heap.size ≤ q) ∧ Hid (BoxV wx q [.int .i64 yg, .int .i64 yu, .int .i64 ya, .bool yf]) ∧ Hid (Only (fun _ => False) W6 wx))
            case first =>
              clear HQ9
              refine wp_region_noPanic ?_
              refine wp_region_held_drew (S := (fun w' => Only (fun _ => False) W6 w' ∧ w'.cell? ⟨x2, 0, none⟩ = some (.int .i64 E) ∧ w'.cell? ⟨x2, 1, none⟩ = some (.int .i64 H) ∧ w'.cell? ⟨x2, 2, none⟩ = some (.int .i64 I) ∧ w'.cell? ⟨x2, 3, none⟩ = some (.int .i64 K1) ∧ w'.cell? ⟨x2, 4, none⟩ = some (.int .i64 N1) ∧ w'.cell? ⟨x2, 5, none⟩ = some (.int .i64 C1) ∧ w'.cell? ⟨x2, 6, none⟩ = some (.slice b3 r1.length q5) ∧ w'.cell? ⟨x2, 7, none⟩ = some (.int .i64 K2) ∧ w'.cell? ⟨x2, 8, none⟩ = some (.int .i64 N2) ∧ w'.cell? ⟨x2, 9, none⟩ = some (.int .i64 C2) ∧ w'.cell? ⟨x2, 10, none⟩ = some (.slice b4 r2.length q6) ∧ w'.cell? ⟨w.heap.size + 1, 1, none⟩ = some (.int .i64 j1))) (by kernel_rfl) (HS10.out _ (Only.refl _ _).drew) (fun hHeld => ?_)
              have hot := Lib.hid ((Only.refl (fun _ => False) W6).drew)
              generalize W6.drew = u0 at *
              refine wpAnyH_take (i := 0) (v := ?_) rfl (by kernel_rfl) (by kernel_rfl) (by kernel_rfl) (fun _ _ _ h => h) (Or.inl ⟨by rfl, ?_⟩) (by assumption) ?_
              rotate_left 1
              · intro w' hSw
                try dsimp only at hSw
                go_simp
                try with_reducible rfl
              try simp only [List.getElem_toArray, List.getElem_cons_zero, Act.put, List.setIfInBounds_toArray, List.set_cons_zero, List.set_cons_succ]
              refine wpAnyH_take (i := 2) (v := ?_) rfl (by kernel_rfl) (by kernel_rfl) (by kernel_rfl) (fun _ _ _ h => h) (Or.inl ⟨by rfl, ?_⟩) (by assumption) ?_
              rotate_left 1
              · intro w' hSw
                try dsimp only at hSw
                go_simp
                try with_reducible rfl
              try simp only [List.getElem_toArray, List.getElem_cons_zero, List.getElem_cons_succ, Act.put, List.setIfInBounds_toArray, List.set_cons_zero, List.set_cons_succ]
              refine wpAnyH_take (i := 3) (v := ?_) rfl (by kernel_rfl) (by kernel_rfl) (by kernel_rfl) (fun _ _ _ h => h) (Or.inl ⟨by rfl, ?_⟩) (by assumption) ?_
              rotate_left 1
              · intro w' hSw
                try dsimp only at hSw
                go_simp
                try with_reducible rfl
              try simp only [List.getElem_toArray, List.getElem_cons_zero, List.getElem_cons_succ, Act.put, List.setIfInBounds_toArray, List.set_cons_zero, List.set_cons_succ]
              refine wpAnyH_take (i := 4) (v := ?_) rfl (by kernel_rfl) (by kernel_rfl) (by kernel_rfl) (fun _ _ _ h => h) (Or.inl ⟨by rfl, ?_⟩) (by assumption) ?_
              rotate_left 1
              · intro w' hSw
                try dsimp only at hSw
                go_simp
                try with_reducible rfl
              try simp only [List.getElem_toArray, List.getElem_cons_zero, List.getElem_cons_succ, Act.put, List.setIfInBounds_toArray, List.set_cons_zero, List.set_cons_succ]
              refine wpAnyH_ready (rs := [1, 9]) (by kernel_rfl) (by simp) ?_
              refine AllReadyH.cons rfl (fun K hK => ?_) (AllReadyH.cons rfl (fun K hK => ?_) AllReadyH.nil)
              · try simp only [List.getElem_toArray, List.getElem_cons_zero, List.getElem_cons_succ]
                go_simp
                go_at_call 15
                with_reducible refine (HTOB.out _).mono ?_
                rintro _ u1 ⟨rfl, ho⟩
                replace hot := Lib.hid (hot.out.trans ho)
                clear ho
                try dsimp only
                refine hK.out _ _ (HS10.out _ hot.out) (fun hHeld1 => ?_)
                clear hK K
                try simp only [List.getElem_toArray, List.getElem_cons_zero, List.getElem_cons_succ, Act.put, List.setIfInBounds_toArray, List.set_cons_zero, List.set_cons_succ]
                refine wpAnyH_ready (rs := [5, 9]) (by kernel_rfl) (by simp) ?_
                refine AllReadyH.cons rfl (fun K hK => ?_) (AllReadyH.cons rfl (fun K hK => ?_) AllReadyH.nil)
                · try simp only [List.getElem_toArray, List.getElem_cons_zero, List.getElem_cons_succ]
                  go_simp
                  go_at_call 22
                  with_reducible refine (HMK1.out _ hot.out).mono ?_
                  rintro _ u2 ⟨rfl, ho⟩
                  replace hot := Lib.hid (hot.out.trans ho)
                  clear ho
                  try dsimp only
                  refine hK.out _ _ (HS10.out _ hot.out) (fun hHeld2 => ?_)
                  clear hK K
                  try simp only [List.getElem_toArray, List.getElem_cons_zero, List.getElem_cons_succ, Act.put, List.setIfInBounds_toArray, List.set_cons_zero, List.set_cons_succ]
                  refine wpAnyH_take (i := 6) (v := ?_) rfl (by kernel_rfl) (by kernel_rfl) (by kernel_rfl) (fun _ _ _ h => h) (Or.inl ⟨by rfl, ?_⟩) (by assumption) ?_
                  rotate_left 1
                  · intro w' hSw
                    try dsimp only at hSw
                    go_simp
                    try with_reducible rfl
                  try simp only [List.getElem_toArray, List.getElem_cons_zero, List.getElem_cons_succ, Act.put, List.setIfInBounds_toArray, List.set_cons_zero, List.set_cons_succ]
                  refine wpAnyH_take (i := 7) (v := ?_) rfl (by kernel_rfl) (by kernel_rfl) (by kernel_rfl) (fun _ _ _ h => h) (Or.inl ⟨by rfl, ?_⟩) (by assumption) ?_
                  rotate_left 1
                  · intro w' hSw
                    try dsimp only at hSw
                    go_simp
                    try with_reducible rfl
                  try simp only [List.getElem_toArray, List.getElem_cons_zero, List.getElem_cons_succ, Act.put, List.setIfInBounds_toArray, List.set_cons_zero, List.set_cons_succ]
                  refine wpAnyH_take (i := 8) (v := ?_) rfl (by kernel_rfl) (by kernel_rfl) (by kernel_rfl) (fun _ _ _ h => h) (Or.inl ⟨by rfl, ?_⟩) (by assumption) ?_
                  rotate_left 1
                  · intro w' hSw
                    try dsimp only at hSw
                    go_simp
                    try with_reducible rfl
                  try simp only [List.getElem_toArray, List.getElem_cons_zero, List.getElem_cons_succ, Act.put, List.setIfInBounds_toArray, List.set_cons_zero, List.set_cons_succ]
                  refine wpAnyH_ready (rs := [9]) (by kernel_rfl) (by simp) ?_
                  refine AllReadyH.cons rfl (fun K hK => ?_) AllReadyH.nil
                  try simp only [List.getElem_toArray, List.getElem_cons_zero, List.getElem_cons_succ]
                  go_simp
                  obtain ⟨u3, hu3⟩ : ∃ x, x = u2.alloc (.cells #[.int .i64 0, .int .i64 0, .int .i64 0, .bool false] 50) := ⟨_, rfl⟩
                  rw [← hu3]
                  have ZB : Hid (BoxV u3 u2.heap.size zerosG) := Lib.hid (by rw [hu3]; exact BoxV.new u2 zerosG _ _ rfl)
                  have hqs := Lib.hid hot.out.size
                  have ho : Only (fun _ => False) u2 u3 := by rw [hu3]; exact (Only.refl _ _).alloc _
                  have OB := Lib.hid (Only.refl (fun _ => False) u3)
                  replace hot := Lib.hid (hot.out.trans ho)
                  clear ho hu3
                  refine hK.out _ _ (HS10.out _ hot.out) (fun hHeld3 => ?_)
                  clear hK K
                  try simp only [List.getElem_toArray, List.getElem_cons_zero, List.getElem_cons_succ, Act.put, List.setIfInBounds_toArray, List.set_cons_zero, List.set_cons_succ]
                  refine wpAnyH_ready (rs := [10]) (by kernel_rfl) (by simp) ?_
                  refine AllReadyH.cons rfl (fun K hK => ?_) AllReadyH.nil
                  try simp only [List.getElem_toArray, List.getElem_cons_zero, List.getElem_cons_succ]
                  go_simp
                  have hz := ZB.out.only OB.out (fun f => f)
                  obtain ⟨⟨z0, z1, z2, z3⟩, y0, y1, y2, y3⟩ := hz.gz
                  go_simp
                  obtain ⟨q, u4, hqq, hb, hoW, hq9, hW⟩ := gbox_put hz hot.out hqs.out (.int .i64 yg) (.int .i64 yu) (.int .i64 ya) (.bool yf)
                  rw [hqq, ← hW]
                  have HBQ := Lib.hid hb
                  have HQ9 := Lib.hid hq9
                  replace hot := Lib.hid hoW
                  clear hz hb hoW hq9 hqq hW z0 z1 z2 z3 y0 y1 y2 y3
                  refine hK.out _ _ (HS10.out _ hot.out) (fun hHeld4 => ?_)
                  clear hK K
                  try simp only [List.getElem_toArray, List.getElem_cons_zero, List.getElem_cons_succ, Act.put, List.setIfInBounds_toArray, List.set_cons_zero, List.set_cons_succ]
                  refine wpAnyH_take (i := 11) (v := ?_) rfl (by kernel_rfl) (by kernel_rfl) (by kernel_rfl) (fun _ _ _ h => h) (Or.inl ⟨by rfl, ?_⟩) (by assumption) ?_
                  rotate_left 1
                  · intro w' hSw
                    try dsimp only at hSw
                    go_simp
                    try with_reducible rfl
                  try simp only [List.getElem_toArray, List.getElem_cons_zero, List.getElem_cons_succ, Act.put, List.setIfInBounds_toArray, List.set_cons_zero, List.set_cons_succ]
                  refine wpAnyH_done (by kernel_rfl) ?_ _
                  refine NoPanic.normal ?_
                  go_wp2_with fail
                  go_meet
                  exact ⟨q, rfl, rfl, HQ9, HBQ, hot⟩

                · try simp only [List.getElem_toArray, List.getElem_cons_zero, List.getElem_cons_succ]
                  go_simp
                  obtain ⟨u5, hu5⟩ : ∃ x, x = u1.alloc (.cells #[.int .i64 0, .int .i64 0, .int .i64 0, .bool false] 50) := ⟨_, rfl⟩
                  rw [← hu5]
                  have ZB : Hid (BoxV u5 u1.heap.size zerosG) := Lib.hid (by rw [hu5]; exact BoxV.new u1 zerosG _ _ rfl)
                  have hqs := Lib.hid hot.out.size
                  have ho : Only (fun _ => False) u1 u5 := by rw [hu5]; exact (Only.refl _ _).alloc _
                  have OB := Lib.hid (Only.refl (fun _ => False) u5)
                  replace hot := Lib.hid (hot.out.trans ho)
                  clear ho hu5
                  refine hK.out _ _ (HS10.out _ hot.out) (fun hHeld5 => ?_)
                  clear hK K
                  try simp only [List.getElem_toArray, List.getElem_cons_zero, List.getElem_cons_succ, Act.put, List.setIfInBounds_toArray, List.set_cons_zero, List.set_cons_succ]
                  refine wpAnyH_ready (rs := [5]) (by kernel_rfl) (by simp) ?_
                  refine AllReadyH.cons rfl (fun K hK => ?_) AllReadyH.nil
                  try simp only [List.getElem_toArray, List.getElem_cons_zero, List.getElem_cons_succ]
                  go_simp
                  go_at_call 22
                  with_reducible refine (HMK1.out _ hot.out).mono ?_
                  rintro _ u6 ⟨rfl, ho⟩
                  replace OB := Lib.hid (OB.out.trans ho)
                  replace hot := Lib.hid (hot.out.trans ho)
                  clear ho
                  try dsimp only
                  refine hK.out _ _ (HS10.out _ hot.out) (fun hHeld6 => ?_)
                  clear hK K
                  try simp only [List.getElem_toArray, List.getElem_cons_zero, List.getElem_cons_succ, Act.put, List.setIfInBounds_toArray, List.set_cons_zero, List.set_cons_succ]
                  refine wpAnyH_take (i := 6) (v := ?_) rfl (by kernel_rfl) (by kernel_rfl) (by kernel_rfl) (fun _ _ _ h => h) (Or.inl ⟨by rfl, ?_⟩) (by assumption) ?_
                  rotate_left 1
                  · intro w' hSw
                    try dsimp only at hSw
                    go_simp
                    try with_reducible rfl
                  try simp only [List.getElem_toArray, List.getElem_cons_zero, List.getElem_cons_succ, Act.put, List.setIfInBounds_toArray, List.set_cons_zero, List.set_cons_succ]
                  refine wpAnyH_take (i := 7) (v := ?_) rfl (by kernel_rfl) (by kernel_rfl) (by kernel_rfl) (fun _ _ _ h => h) (Or.inl ⟨by rfl, ?_⟩) (by assumption) ?_
                  rotate_left 1
                  · intro w' hSw
                    try dsimp only at hSw
                    go_simp
                    try with_reducible rfl
                  try simp only [List.getElem_toArray, List.getElem_cons_zero, List.getElem_cons_succ, Act.put, List.setIfInBounds_toArray, List.set_cons_zero, List.set_cons_succ]
                  refine wpAnyH_take (i := 8) (v := ?_) rfl (by kernel_rfl) (by kernel_rfl) (by kernel_rfl) (fun _ _ _ h => h) (Or.inl ⟨by rfl, ?_⟩) (by assumption) ?_
                  rotate_left 1
                  · intro w' hSw
                    try dsimp only at hSw
                    go_simp
                    try with_reducible rfl
                  try simp only [List.getElem_toArray, List.getElem_cons_zero, List.getElem_cons_succ, Act.put, List.setIfInBounds_toArray, List.set_cons_zero, List.set_cons_succ]
                  refine wpAnyH_ready (rs := [10]) (by kernel_rfl) (by simp) ?_
                  refine AllReadyH.cons rfl (fun K hK => ?_) AllReadyH.nil
                  try simp only [List.getElem_toArray, List.getElem_cons_zero, List.getElem_cons_succ]
                  go_simp
                  have hz := ZB.out.only OB.out (fun f => f)
                  obtain ⟨⟨z0, z1, z2, z3⟩, y0, y1, y2, y3⟩ := hz.gz
                  go_simp
                  obtain ⟨q, u7, hqq, hb, hoW, hq9, hW⟩ := gbox_put hz hot.out hqs.out (.int .i64 yg) (.int .i64 yu) (.int .i64 ya) (.bool yf)
                  rw [hqq, ← hW]
                  have HBQ := Lib.hid hb
                  have HQ9 := Lib.hid hq9
                  replace hot := Lib.hid hoW
                  clear hz hb hoW hq9 hqq hW z0 z1 z2 z3 y0 y1 y2 y3
                  refine hK.out _ _ (HS10.out _ hot.out) (fun hHeld7 => ?_)
                  clear hK K
                  try simp only [List.getElem_toArray, List.getElem_cons_zero, List.getElem_cons_succ, Act.put, List.setIfInBounds_toArray, List.set_cons_zero, List.set_cons_succ]
                  refine wpAnyH_take (i := 11) (v := ?_) rfl (by kernel_rfl) (by kernel_rfl) (by kernel_rfl) (fun _ _ _ h => h) (Or.inl ⟨by rfl, ?_⟩) (by assumption) ?_
                  rotate_left 1
                  · intro w' hSw
                    try dsimp only at hSw
                    go_simp
                    try with_reducible rfl
                  try simp only [List.getElem_toArray, List.getElem_cons_zero, List.getElem_cons_succ, Act.put, List.setIfInBounds_toArray, List.set_cons_zero, List.set_cons_succ]
                  refine wpAnyH_done (by kernel_rfl) ?_ _
                  refine NoPanic.normal ?_
                  go_wp2_with fail
                  go_meet
                  exact ⟨q, rfl, rfl, HQ9, HBQ, hot⟩

              · try simp only [List.getElem_toArray, List.getElem_cons_zero, List.getElem_cons_succ]
                go_simp
                obtain ⟨u8, hu8⟩ : ∃ x, x = u0.alloc (.cells #[.int .i64 0, .int .i64 0, .int .i64 0, .bool false] 50) := ⟨_, rfl⟩
                rw [← hu8]
                have ZB : Hid (BoxV u8 u0.heap.size zerosG) := Lib.hid (by rw [hu8]; exact BoxV.new u0 zerosG _ _ rfl)
                have hqs := Lib.hid hot.out.size
                have ho : Only (fun _ => False) u0 u8 := by rw [hu8]; exact (Only.refl _ _).alloc _
                have OB := Lib.hid (Only.refl (fun _ => False) u8)
                replace hot := Lib.hid (hot.out.trans ho)
                clear ho hu8
                refine hK.out _ _ (HS10.out _ hot.out) (fun hHeld8 => ?_)
                clear hK K
                try simp only [List.getElem_toArray, List.getElem_cons_zero, List.getElem_cons_succ, Act.put, List.setIfInBounds_toArray, List.set_cons_zero, List.set_cons_succ]
                refine wpAnyH_ready (rs := [1]) (by kernel_rfl) (by simp) ?_
                refine AllReadyH.cons rfl (fun K hK => ?_) AllReadyH.nil
                try simp only [List.getElem_toArray, List.getElem_cons_zero, List.getElem_cons_succ]
                go_simp
                go_at_call 15
                with_reducible refine (HTOB.out _).mono ?_
                rintro _ u9 ⟨rfl, ho⟩
                replace OB := Lib.hid (OB.out.trans ho)
                replace hot := Lib.hid (hot.out.trans ho)
                clear ho
                try dsimp only
                refine hK.out _ _ (HS10.out _ hot.out) (fun hHeld9 => ?_)
                clear hK K
                try simp only [List.getElem_toArray, List.getElem_cons_zero, List.getElem_cons_succ, Act.put, List.setIfInBounds_toArray, List.set_cons_zero, List.set_cons_succ]
                refine wpAnyH_ready (rs := [5]) (by kernel_rfl) (by simp) ?_
                refine AllReadyH.cons rfl (fun K hK => ?_) AllReadyH.nil
                try simp only [List.getElem_toArray, List.getElem_cons_zero, List.getElem_cons_succ]
                go_simp
                go_at_call 22
                with_reducible refine (HMK1.out _ hot.out).mono ?_
                rintro _ u10 ⟨rfl, ho⟩
                replace OB := Lib.hid (OB.out.trans ho)
                replace hot := Lib.hid (hot.out.trans ho)
                clear ho
                try dsimp only
                refine hK.out _ _ (HS10.out _ hot.out) (fun hHeld10 => ?_)
                clear hK K
                try simp only [List.getElem_toArray, List.getElem_cons_zero, List.getElem_cons_succ, Act.put, List.setIfInBounds_toArray, List.set_cons_zero, List.set_cons_succ]
                refine wpAnyH_take (i := 6) (v := ?_) rfl (by kernel_rfl) (by kernel_rfl) (by kernel_rfl) (fun _ _ _ h => h) (Or.inl ⟨by rfl, ?_⟩) (by assumption) ?_
                rotate_left 1
                · intro w' hSw
                  try dsimp only at hSw
                  go_simp
                  try with_reducible rfl
                try simp only [List.getElem_toArray, List.getElem_cons_zero, List.getElem_cons_succ, Act.put, List.setIfInBounds_toArray, List.set_cons_zero, List.set_cons_succ]
                refine wpAnyH_take (i := 7) (v := ?_) rfl (by kernel_rfl) (by kernel_rfl) (by kernel_rfl) (fun _ _ _ h => h) (Or.inl ⟨by rfl, ?_⟩) (by assumption) ?_
                rotate_left 1
                · intro w' hSw
                  try dsimp only at hSw
                  go_simp
                  try with_reducible rfl
                try simp only [List.getElem_toArray, List.getElem_cons_zero, List.getElem_cons_succ, Act.put, List.setIfInBounds_toArray, List.set_cons_zero, List.set_cons_succ]
                refine wpAnyH_take (i := 8) (v := ?_) rfl (by kernel_rfl) (by kernel_rfl) (by kernel_rfl) (fun _ _ _ h => h) (Or.inl ⟨by rfl, ?_⟩) (by assumption) ?_
                rotate_left 1
                · intro w' hSw
                  try dsimp only at hSw
                  go_simp
                  try with_reducible rfl
                try simp only [List.getElem_toArray, List.getElem_cons_zero, List.getElem_cons_succ, Act.put, List.setIfInBounds_toArray, List.set_cons_zero, List.set_cons_succ]
                refine wpAnyH_ready (rs := [10]) (by kernel_rfl) (by simp) ?_
                refine AllReadyH.cons rfl (fun K hK => ?_) AllReadyH.nil
                try simp only [List.getElem_toArray, List.getElem_cons_zero, List.getElem_cons_succ]
                go_simp
                have hz := ZB.out.only OB.out (fun f => f)
                obtain ⟨⟨z0, z1, z2, z3⟩, y0, y1, y2, y3⟩ := hz.gz
                go_simp
                obtain ⟨q, u11, hqq, hb, hoW, hq9, hW⟩ := gbox_put hz hot.out hqs.out (.int .i64 yg) (.int .i64 yu) (.int .i64 ya) (.bool yf)
                rw [hqq, ← hW]
                have HBQ := Lib.hid hb
                have HQ9 := Lib.hid hq9
                replace hot := Lib.hid hoW
                clear hz hb hoW hq9 hqq hW z0 z1 z2 z3 y0 y1 y2 y3
                refine hK.out _ _ (HS10.out _ hot.out) (fun hHeld11 => ?_)
                clear hK K
                try simp only [List.getElem_toArray, List.getElem_cons_zero, List.getElem_cons_succ, Act.put, List.setIfInBounds_toArray, List.set_cons_zero, List.set_cons_succ]
                refine wpAnyH_take (i := 11) (v := ?_) rfl (by kernel_rfl) (by kernel_rfl) (by kernel_rfl) (fun _ _ _ h => h) (Or.inl ⟨by rfl, ?_⟩) (by assumption) ?_
                rotate_left 1
                · intro w' hSw
                  try dsimp only at hSw
                  go_simp
                  try with_reducible rfl
                try simp only [List.getElem_toArray, List.getElem_cons_zero, List.getElem_cons_succ, Act.put, List.setIfInBounds_toArray, List.set_cons_zero, List.set_cons_succ]
                refine wpAnyH_done (by kernel_rfl) ?_ _
                refine NoPanic.normal ?_
                go_wp2_with fail
                go_meet
                exact ⟨q, rfl, rfl, HQ9, HBQ, hot⟩
            case rest =>
              obtain ⟨y, rfl, rfl, HQY, HBY, HO7⟩ := hcut
              rename World => W7
              have HBQ7 := Lib.hid (HBQ6.out.only HO7.out (fun f => f))
              have hqs : q < W6.heap.size := World.block_lt_of_cell? W6 _ (HBQ6.out 0 _ rfl).1
              clear HMK1 HS10
              go_upto_if 79 with fail
              go_cut [14] from 80 to 83 (fun va wx => va = .pointer (some ⟨y, 0, none⟩) ∧ Hid (BoxV wx y [.int .i64 kg, .int .i64 ku, .int .i64 ka, .bool kf]) ∧ Hid (BoxV wx q [.int .i64 gg, .int .i64 gu, .int .i64 ga, .bool gf]) ∧ Hid (Only (fun _ => False) w3 wx))
              case first =>
                rcases HC1.out with ⟨e, eg⟩ | ⟨e, eg⟩
                · subst e
                  injection eg with e1 e2 e3 e4
                  subst e1 e2 e3 e4
                  go_wp2_with fail
                  go_meet
                  exact ⟨rfl, HBY, HBQ7, Lib.hid (HO6.out.trans HO7.out)⟩
                · subst e
                  injection eg with e1 e2 e3 e4
                  subst e1 e2 e3 e4
                  have hb3 := HBY.out
                  have y0 := (hb3 0 _ rfl).2; have y1 := (hb3 1 _ rfl).2; have y2 := (hb3 2 _ rfl).2; have y3 := (hb3 3 _ rfl).2
                  have g0 := (hb3 0 _ rfl).1; have g1 := (hb3 1 _ rfl).1; have g2 := (hb3 2 _ rfl).1; have g3 := (hb3 3 _ rfl).1
                  have p3 := ((HB3.out.only (HO6.out.trans HO7.out) (fun f => f)) 3 _ rfl).1
                  obtain ⟨y', W8, hqq, hb, hoW, hW⟩ : ∃ y' W, y = y' ∧ BoxV W y' [.int .i64 kg, .int .i64 0, .int .i64 0, .bool true] ∧ Only (fun x => x = y) W7 W ∧ W = (((W7.setCell ⟨y', 0, none⟩ (.int .i64 kg)).setCell ⟨y', 1, none⟩ (.int .i64 0)).setCell ⟨y', 2, none⟩ (.int .i64 0)).setCell ⟨y', 3, none⟩ (.bool true) := ⟨y, _, rfl, hb3.put [.int .i64 kg, .int .i64 0, .int .i64 0, .bool true] rfl, puts_only y [.int .i64 kg, .int .i64 0, .int .i64 0, .bool true] 0 W7 W7 (Only.refl (fun x => x = y) _) (.inl rfl), rfl⟩
                  subst hqq
                  clear hb3
                  have hys := HQY.out
                  have HF1 := Lib.hid (HBQ7.out.only hoW (fun e => by have e' : q = y := e; omega))
                  have HF2 : Hid (Only (fun _ => False) w3 W8) := Lib.hid ((HO6.out.trans HO7.out).then hoW (fun i hi e => by have e' : i = y := e; have := HO6.out.size; omega))
                  clear hoW hys
                  go_wp2_with fail
                  rw [← hW]
                  go_meet
                  exact ⟨rfl, Lib.hid hb, HF1, HF2⟩
              case rest =>
                obtain ⟨rfl, HBY8, HBQ8, HO8⟩ := hcut
                rename World => W8
                clear HBY HBQ7 HBQ6 HO7 HO6 HQY HQ9
                obtain ⟨lb, lo, rfl, hlc⟩ := HRD.out.2.resolve_left (by omega)
                have HL0 := Lib.hid (hlc 0 (by omega))
                have HL1 := Lib.hid (hlc 1 (by omega))
                clear hlc
                have HS13 : Hid (∀ w', Only (fun _ => False) W8 w' → Only (fun _ => False) W8 w' ∧ w'.cell? ⟨lb, lo, none⟩ = some (.int .i64 gg) ∧ w'.cell? ⟨lb, lo + 1, none⟩ = some (.int .i64 gu) ∧ w'.cell? ⟨lb, lo + 2, none⟩ = some (.int .i64 ga) ∧ w'.cell? ⟨lb, lo + 3, none⟩ = some (.bool gf) ∧ w'.cell? ⟨lb, lo + 4, none⟩ = some (.int .i64 kg) ∧ w'.cell? ⟨lb, lo + 5, none⟩ = some (.int .i64 ku) ∧ w'.cell? ⟨lb, lo + 6, none⟩ = some (.int .i64 ka) ∧ w'.cell? ⟨lb, lo + 7, none⟩ = some (.bool kf) ∧ w'.cell? ⟨q, 0, none⟩ = some (.int .i64 gg) ∧ w'.cell? ⟨q, 1, none⟩ = some (.int .i64 gu) ∧ w'.cell? ⟨q, 2, none⟩ = some (.int .i64 ga) ∧ w'.cell? ⟨q, 3, none⟩ = some (.bool gf) ∧ w'.cell? ⟨y, 0, none⟩ = some (.int .i64 kg) ∧ w'.cell? ⟨y, 1, none⟩ = some (.int .i64 ku) ∧ w'.cell? ⟨y, 2, none⟩ = some (.int .i64 ka) ∧ w'.cell? ⟨y, 3, none⟩ = some (.bool kf)) := Lib.hid (fun w' ho => by
                  obtain ⟨l0, l1, l2, l3⟩ := HL0.out
                  obtain ⟨l4, l5, l6, l7⟩ := HL1.out
                  have hq := HBQ8.out.only ho (fun f => f)
                  have hy := HBY8.out.only ho (fun f => f)
                  have hh : ∀ {o : Nat} {v : Value}, w3.cell? ⟨lb, o, none⟩ = some v → w'.cell? ⟨lb, o, none⟩ = some v := fun h => (HO8.out.trans ho).cell' h (fun f => f)
                  simp only [Nat.zero_mul, Nat.one_mul, Nat.add_zero, List.getD_cons_zero, List.getD_cons_succ, Nat.add_assoc, Nat.reduceAdd] at l0 l1 l2 l3 l4 l5 l6 l7
                  exact ⟨ho, hh l0, hh l1, hh l2, hh l3, hh l4, hh l5, hh l6, hh l7, (hq 0 _ rfl).1, (hq 1 _ rfl).1, (hq 2 _ rfl).1, (hq 3 _ rfl).1, (hy 0 _ rfl).1, (hy 1 _ rfl).1, (hy 2 _ rfl).1, (hy 3 _ rfl).1⟩)
                have heq0 := HEQ0.out
                have heq1 := HEQ1.out
                have hlf : 0 ≤ cr - ga := by have := HLI.out; omega
                generalize cr - ga = lf at *
                go_upto_region 13 with fail
                rcases HANY.out with e | e
                · subst e
                  refine wp_region_noPanic ?_
                  refine wp_region_held_drew (S := (fun w' => Only (fun _ => False) W8 w' ∧ w'.cell? ⟨lb, lo, none⟩ = some (.int .i64 gg) ∧ w'.cell? ⟨lb, lo + 1, none⟩ = some (.int .i64 gu) ∧ w'.cell? ⟨lb, lo + 2, none⟩ = some (.int .i64 ga) ∧ w'.cell? ⟨lb, lo + 3, none⟩ = some (.bool gf) ∧ w'.cell? ⟨lb, lo + 4, none⟩ = some (.int .i64 kg) ∧ w'.cell? ⟨lb, lo + 5, none⟩ = some (.int .i64 ku) ∧ w'.cell? ⟨lb, lo + 6, none⟩ = some (.int .i64 ka) ∧ w'.cell? ⟨lb, lo + 7, none⟩ = some (.bool kf) ∧ w'.cell? ⟨q, 0, none⟩ = some (.int .i64 gg) ∧ w'.cell? ⟨q, 1, none⟩ = some (.int .i64 gu) ∧ w'.cell? ⟨q, 2, none⟩ = some (.int .i64 ga) ∧ w'.cell? ⟨q, 3, none⟩ = some (.bool gf) ∧ w'.cell? ⟨y, 0, none⟩ = some (.int .i64 kg) ∧ w'.cell? ⟨y, 1, none⟩ = some (.int .i64 ku) ∧ w'.cell? ⟨y, 2, none⟩ = some (.int .i64 ka) ∧ w'.cell? ⟨y, 3, none⟩ = some (.bool kf))) (by kernel_rfl) (HS13.out _ (Only.refl _ _).drew) (fun hHeld => ?_)
                  refine wpAnyH_take (i := 0) (v := ?_) rfl (by kernel_rfl) (by kernel_rfl) (by kernel_rfl) (fun _ _ _ h => h) (Or.inl ⟨by rfl, ?_⟩) (by assumption) ?_
                  rotate_left 1
                  · intro w' hSw
                    try dsimp only at hSw
                    go_simp
                    try with_reducible rfl
                  try simp only [List.getElem_toArray, List.getElem_cons_zero, Act.put, List.setIfInBounds_toArray, List.set_cons_zero, List.set_cons_succ]
                  refine wpAnyH_take (i := 1) (v := ?_) rfl (by kernel_rfl) (by kernel_rfl) (by kernel_rfl) (fun _ _ _ h => h) (Or.inl ⟨by rfl, ?_⟩) (by assumption) ?_
                  rotate_left 1
                  · intro w' hSw
                    try dsimp only at hSw
                    go_simp
                    try with_reducible rfl
                  try simp only [List.getElem_toArray, List.getElem_cons_zero, List.getElem_cons_succ, Act.put, List.setIfInBounds_toArray, List.set_cons_zero, List.set_cons_succ]
                  refine wpAnyH_take (i := 2) (v := ?_) rfl (by kernel_rfl) (by kernel_rfl) (by kernel_rfl) (fun _ _ _ h => h) (Or.inl ⟨by rfl, ?_⟩) (by assumption) ?_
                  rotate_left 1
                  · intro w' hSw
                    try dsimp only at hSw
                    go_simp
                    try with_reducible rfl
                  try simp only [List.getElem_toArray, List.getElem_cons_zero, List.getElem_cons_succ, Act.put, List.setIfInBounds_toArray, List.set_cons_zero, List.set_cons_succ]
                  refine wpAnyH_take (i := 3) (v := ?_) rfl (by kernel_rfl) (by kernel_rfl) (by kernel_rfl) (fun _ _ _ h => h) (Or.inl ⟨by rfl, ?_⟩) (by assumption) ?_
                  rotate_left 1
                  · intro w' hSw
                    try dsimp only at hSw
                    go_simp
                    try with_reducible rfl
                  try simp only [List.getElem_toArray, List.getElem_cons_zero, List.getElem_cons_succ, Act.put, List.setIfInBounds_toArray, List.set_cons_zero, List.set_cons_succ]
                  refine wpAnyH_take (i := 4) (v := ?_) rfl (by kernel_rfl) (by kernel_rfl) (by kernel_rfl) (fun _ _ _ h => h) (Or.inl ⟨by rfl, ?_⟩) (by assumption) ?_
                  rotate_left 1
                  · intro w' hSw
                    try dsimp only at hSw
                    go_simp
                    try with_reducible rfl
                  try simp only [List.getElem_toArray, List.getElem_cons_zero, List.getElem_cons_succ, Act.put, List.setIfInBounds_toArray, List.set_cons_zero, List.set_cons_succ]
                  refine wpAnyH_take (i := 5) (v := ?_) rfl (by kernel_rfl) (by kernel_rfl) (by kernel_rfl) (fun _ _ _ h => h) (Or.inl ⟨by rfl, ?_⟩) (by assumption) ?_
                  rotate_left 1
                  · intro w' hSw
                    try dsimp only at hSw
                    go_simp
                    try with_reducible rfl
                  try simp only [List.getElem_toArray, List.getElem_cons_zero, List.getElem_cons_succ, Act.put, List.setIfInBounds_toArray, List.set_cons_zero, List.set_cons_succ]
                  refine wpAnyH_take (i := 6) (v := ?_) rfl (by kernel_rfl) (by kernel_rfl) (by kernel_rfl) (fun _ _ _ h => h) (Or.inl ⟨by rfl, ?_⟩) (by assumption) ?_
                  rotate_left 1
                  · intro w' hSw
                    try dsimp only at hSw
                    go_simp
                    try with_reducible rfl
                  try simp only [List.getElem_toArray, List.getElem_cons_zero, List.getElem_cons_succ, Act.put, List.setIfInBounds_toArray, List.set_cons_zero, List.set_cons_succ]
                  refine wpAnyH_take (i := 7) (v := ?_) rfl (by kernel_rfl) (by kernel_rfl) (by kernel_rfl) (fun _ _ _ h => h) (Or.inl ⟨by rfl, ?_⟩) (by assumption) ?_
                  rotate_left 1
                  · intro w' hSw
                    try dsimp only at hSw
                    go_simp
                    try with_reducible rfl
                  try simp only [List.getElem_toArray, List.getElem_cons_zero, List.getElem_cons_succ, Act.put, List.setIfInBounds_toArray, List.set_cons_zero, List.set_cons_succ]
                  refine wpAnyH_take (i := 8) (v := ?_) rfl (by kernel_rfl) (by kernel_rfl) (by kernel_rfl) (fun _ _ _ h => h) (Or.inl ⟨by rfl, ?_⟩) (by assumption) ?_
                  rotate_left 1
                  · intro w' hSw
                    try dsimp only at hSw
                    go_simp
                    try with_reducible rfl
                  try simp only [List.getElem_toArray, List.getElem_cons_zero, List.getElem_cons_succ, Act.put, List.setIfInBounds_toArray, List.set_cons_zero, List.set_cons_succ]
                  refine wpAnyH_take (i := 9) (v := ?_) rfl (by kernel_rfl) (by kernel_rfl) (by kernel_rfl) (fun _ _ _ h => h) (Or.inl ⟨by rfl, ?_⟩) (by assumption) ?_
                  rotate_left 1
                  · intro w' hSw
                    try dsimp only at hSw
                    go_simp
                    try with_reducible rfl
                  try simp only [List.getElem_toArray, List.getElem_cons_zero, List.getElem_cons_succ, Act.put, List.setIfInBounds_toArray, List.set_cons_zero, List.set_cons_succ]
                  refine wpAnyH_take (i := 10) (v := ?_) rfl (by kernel_rfl) (by kernel_rfl) (by kernel_rfl) (fun _ _ _ h => h) (Or.inl ⟨by rfl, ?_⟩) (by assumption) ?_
                  rotate_left 1
                  · intro w' hSw
                    try dsimp only at hSw
                    go_simp
                    try with_reducible rfl
                  try simp only [List.getElem_toArray, List.getElem_cons_zero, List.getElem_cons_succ, Act.put, List.setIfInBounds_toArray, List.set_cons_zero, List.set_cons_succ]
                  refine wpAnyH_take (i := 11) (v := ?_) rfl (by kernel_rfl) (by kernel_rfl) (by kernel_rfl) (fun _ _ _ h => h) (Or.inl ⟨by rfl, ?_⟩) (by assumption) ?_
                  rotate_left 1
                  · intro w' hSw
                    try dsimp only at hSw
                    go_simp
                    try with_reducible rfl
                  try simp only [List.getElem_toArray, List.getElem_cons_zero, List.getElem_cons_succ, Act.put, List.setIfInBounds_toArray, List.set_cons_zero, List.set_cons_succ]
                  refine wpAnyH_take (i := 12) (v := ?_) rfl (by kernel_rfl) (by kernel_rfl) (by kernel_rfl) (fun _ _ _ h => h) (Or.inl ⟨by rfl, ?_⟩) (by assumption) ?_
                  rotate_left 1
                  · intro w' hSw
                    try dsimp only at hSw
                    go_simp
                    try with_reducible rfl
                  try simp only [List.getElem_toArray, List.getElem_cons_zero, List.getElem_cons_succ, Act.put, List.setIfInBounds_toArray, List.set_cons_zero, List.set_cons_succ]
                  refine wpAnyH_take (i := 13) (v := ?_) rfl (by kernel_rfl) (by kernel_rfl) (by kernel_rfl) (fun _ _ _ h => h) (Or.inl ⟨by rfl, ?_⟩) (by assumption) ?_
                  rotate_left 1
                  · intro w' hSw
                    try dsimp only at hSw
                    go_simp
                    try with_reducible rfl
                  try simp only [List.getElem_toArray, List.getElem_cons_zero, List.getElem_cons_succ, Act.put, List.setIfInBounds_toArray, List.set_cons_zero, List.set_cons_succ]
                  refine wpAnyH_take (i := 14) (v := ?_) rfl (by kernel_rfl) (by kernel_rfl) (by kernel_rfl) (fun _ _ _ h => h) (Or.inl ⟨by rfl, ?_⟩) (by assumption) ?_
                  rotate_left 1
                  · intro w' hSw
                    try dsimp only at hSw
                    go_simp
                    try with_reducible rfl
                  try simp only [List.getElem_toArray, List.getElem_cons_zero, List.getElem_cons_succ, Act.put, List.setIfInBounds_toArray, List.set_cons_zero, List.set_cons_succ]
                  refine wpAnyH_take (i := 15) (v := ?_) rfl (by kernel_rfl) (by kernel_rfl) (by kernel_rfl) (fun _ _ _ h => h) (Or.inl ⟨by rfl, ?_⟩) (by assumption) ?_
                  rotate_left 1
                  · intro w' hSw
                    try dsimp only at hSw
                    go_simp
                    try with_reducible rfl
                  try simp only [List.getElem_toArray, List.getElem_cons_zero, List.getElem_cons_succ, Act.put, List.setIfInBounds_toArray, List.set_cons_zero, List.set_cons_succ]
                  refine wpAnyH_take (i := 16) (v := ?_) rfl (by kernel_rfl) (by kernel_rfl) (by kernel_rfl) (fun _ _ _ h => h) (Or.inl ⟨by rfl, ?_⟩) (by assumption) ?_
                  rotate_left 1
                  · intro w' hSw
                    try dsimp only at hSw
                    go_simp
                    try with_reducible rfl
                  try simp only [List.getElem_toArray, List.getElem_cons_zero, List.getElem_cons_succ, Act.put, List.setIfInBounds_toArray, List.set_cons_zero, List.set_cons_succ]
                  refine wpAnyH_take (i := 17) (v := ?_) rfl (by kernel_rfl) (by kernel_rfl) (by kernel_rfl) (fun _ _ _ h => h) (Or.inl ⟨by rfl, ?_⟩) (by assumption) ?_
                  rotate_left 1
                  · intro w' hSw
                    try dsimp only at hSw
                    go_simp
                    try with_reducible rfl
                  try simp only [List.getElem_toArray, List.getElem_cons_zero, List.getElem_cons_succ, Act.put, List.setIfInBounds_toArray, List.set_cons_zero, List.set_cons_succ]
                  refine wpAnyH_take (i := 18) (v := ?_) rfl (by kernel_rfl) (by kernel_rfl) (by kernel_rfl) (fun _ _ _ h => h) (Or.inl ⟨by rfl, ?_⟩) (by assumption) ?_
                  rotate_left 1
                  · intro w' hSw
                    try dsimp only at hSw
                    go_simp
                    try with_reducible rfl
                  try simp only [List.getElem_toArray, List.getElem_cons_zero, List.getElem_cons_succ, Act.put, List.setIfInBounds_toArray, List.set_cons_zero, List.set_cons_succ]
                  refine wpAnyH_take (i := 19) (v := ?_) rfl (by kernel_rfl) (by kernel_rfl) (by kernel_rfl) (fun _ _ _ h => h) (Or.inl ⟨by rfl, ?_⟩) (by assumption) ?_
                  rotate_left 1
                  · intro w' hSw
                    try dsimp only at hSw
                    go_simp
                    try with_reducible rfl
                  try simp only [List.getElem_toArray, List.getElem_cons_zero, List.getElem_cons_succ, Act.put, List.setIfInBounds_toArray, List.set_cons_zero, List.set_cons_succ]
                  refine wpAnyH_take (i := 20) (v := ?_) rfl (by kernel_rfl) (by kernel_rfl) (by kernel_rfl) (fun _ _ _ h => h) (Or.inl ⟨by rfl, ?_⟩) (by assumption) ?_
                  rotate_left 1
                  · intro w' hSw
                    try dsimp only at hSw
                    go_simp
                    try with_reducible rfl
                  try simp only [List.getElem_toArray, List.getElem_cons_zero, List.getElem_cons_succ, Act.put, List.setIfInBounds_toArray, List.set_cons_zero, List.set_cons_succ]
                  refine wpAnyH_take (i := 21) (v := undef) rfl (by kernel_rfl) (by kernel_rfl) (by kernel_rfl) (fun _ _ _ h => h) (Or.inr ⟨rfl, rfl⟩) (by assumption) ?_
                  try simp only [List.getElem_toArray, List.getElem_cons_zero, List.getElem_cons_succ, Act.put, List.setIfInBounds_toArray, List.set_cons_zero, List.set_cons_succ]
                  refine wpAnyH_take (i := 22) (v := undef) rfl (by kernel_rfl) (by kernel_rfl) (by kernel_rfl) (fun _ _ _ h => h) (Or.inr ⟨rfl, rfl⟩) (by assumption) ?_
                  try simp only [List.getElem_toArray, List.getElem_cons_zero, List.getElem_cons_succ, Act.put, List.setIfInBounds_toArray, List.set_cons_zero, List.set_cons_succ]
                  refine wpAnyH_take (i := 23) (v := ?_) rfl (by kernel_rfl) (by kernel_rfl) (by kernel_rfl) (fun _ _ _ h => h) (Or.inl ⟨by rfl, ?_⟩) (by assumption) ?_
                  rotate_left 1
                  · intro w' hSw
                    try dsimp only at hSw
                    go_simp
                    try with_reducible rfl
                  try simp only [List.getElem_toArray, List.getElem_cons_zero, List.getElem_cons_succ, Act.put, List.setIfInBounds_toArray, List.set_cons_zero, List.set_cons_succ]
                  refine wpAnyH_take (i := 24) (v := ?_) rfl (by kernel_rfl) (by kernel_rfl) (by kernel_rfl) (fun _ _ _ h => h) (Or.inl ⟨by rfl, ?_⟩) (by assumption) ?_
                  rotate_left 1
                  · intro w' hSw
                    try dsimp only at hSw
                    go_simp
                    try with_reducible rfl
                  try simp only [List.getElem_toArray, List.getElem_cons_zero, List.getElem_cons_succ, Act.put, List.setIfInBounds_toArray, List.set_cons_zero, List.set_cons_succ]
                  refine wpAnyH_take (i := 25) (v := ?_) rfl (by kernel_rfl) (by kernel_rfl) (by kernel_rfl) (fun _ _ _ h => h) (Or.inl ⟨by rfl, ?_⟩) (by assumption) ?_
                  rotate_left 1
                  · intro w' hSw
                    try dsimp only at hSw
                    go_simp
                    try with_reducible rfl
                  try simp only [List.getElem_toArray, List.getElem_cons_zero, List.getElem_cons_succ, Act.put, List.setIfInBounds_toArray, List.set_cons_zero, List.set_cons_succ]
                  refine wpAnyH_take (i := 26) (v := ?_) rfl (by kernel_rfl) (by kernel_rfl) (by kernel_rfl) (fun _ _ _ h => h) (Or.inl ⟨by rfl, ?_⟩) (by assumption) ?_
                  rotate_left 1
                  · intro w' hSw
                    try dsimp only at hSw
                    go_simp
                    try with_reducible rfl
                  try simp only [List.getElem_toArray, List.getElem_cons_zero, List.getElem_cons_succ, Act.put, List.setIfInBounds_toArray, List.set_cons_zero, List.set_cons_succ]
                  refine wpAnyH_take (i := 27) (v := ?_) rfl (by kernel_rfl) (by kernel_rfl) (by kernel_rfl) (fun _ _ _ h => h) (Or.inl ⟨by rfl, ?_⟩) (by assumption) ?_
                  rotate_left 1
                  · intro w' hSw
                    try dsimp only at hSw
                    go_simp
                    try with_reducible rfl
                  try simp only [List.getElem_toArray, List.getElem_cons_zero, List.getElem_cons_succ, Act.put, List.setIfInBounds_toArray, List.set_cons_zero, List.set_cons_succ]
                  refine wpAnyH_take (i := 28) (v := ?_) rfl (by kernel_rfl) (by kernel_rfl) (by kernel_rfl) (fun _ _ _ h => h) (Or.inl ⟨by rfl, ?_⟩) (by assumption) ?_
                  rotate_left 1
                  · intro w' hSw
                    try dsimp only at hSw
                    go_simp
                    try with_reducible rfl
                  try simp only [List.getElem_toArray, List.getElem_cons_zero, List.getElem_cons_succ, Act.put, List.setIfInBounds_toArray, List.set_cons_zero, List.set_cons_succ]
                  refine wpAnyH_take (i := 29) (v := ?_) rfl (by kernel_rfl) (by kernel_rfl) (by kernel_rfl) (fun _ _ _ h => h) (Or.inl ⟨by rfl, ?_⟩) (by assumption) ?_
                  rotate_left 1
                  · intro w' hSw
                    try dsimp only at hSw
                    go_simp
                    try with_reducible rfl
                  try simp only [List.getElem_toArray, List.getElem_cons_zero, List.getElem_cons_succ, Act.put, List.setIfInBounds_toArray, List.set_cons_zero, List.set_cons_succ]
                  refine wpAnyH_done (by kernel_rfl) ?_ _
                  refine NoPanic.normal ?_
                  have KE := Lib.hid (KX.out.trans (K3.out.trans (HO8.out.drew)))
                  go_wp2_with fail
                  go_ret
                  exact ⟨rfl, KE.out⟩
                · subst e
                  by_cases hm : me = 0
                  · subst hm
                    refine wp_region_noPanic ?_
                    refine wp_region_held_drew (S := (fun w' => Only (fun _ => False) W8 w' ∧ w'.cell? ⟨lb, lo, none⟩ = some (.int .i64 gg) ∧ w'.cell? ⟨lb, lo + 1, none⟩ = some (.int .i64 gu) ∧ w'.cell? ⟨lb, lo + 2, none⟩ = some (.int .i64 ga) ∧ w'.cell? ⟨lb, lo + 3, none⟩ = some (.bool gf) ∧ w'.cell? ⟨lb, lo + 4, none⟩ = some (.int .i64 kg) ∧ w'.cell? ⟨lb, lo + 5, none⟩ = some (.int .i64 ku) ∧ w'.cell? ⟨lb, lo + 6, none⟩ = some (.int .i64 ka) ∧ w'.cell? ⟨lb, lo + 7, none⟩ = some (.bool kf) ∧ w'.cell? ⟨q, 0, none⟩ = some (.int .i64 gg) ∧ w'.cell? ⟨q, 1, none⟩ = some (.int .i64 gu) ∧ w'.cell? ⟨q, 2, none⟩ = some (.int .i64 ga) ∧ w'.cell? ⟨q, 3, none⟩ = some (.bool gf) ∧ w'.cell? ⟨y, 0, none⟩ = some (.int .i64 kg) ∧ w'.cell? ⟨y, 1, none⟩ = some (.int .i64 ku) ∧ w'.cell? ⟨y, 2, none⟩ = some (.int .i64 ka) ∧ w'.cell? ⟨y, 3, none⟩ = some (.bool kf))) (by kernel_rfl) (HS13.out _ (Only.refl _ _).drew) (fun hHeld => ?_)
                    refine wpAnyH_take (i := 0) (v := ?_) rfl (by kernel_rfl) (by kernel_rfl) (by kernel_rfl) (fun _ _ _ h => h) (Or.inl ⟨by rfl, ?_⟩) (by assumption) ?_
                    rotate_left 1
                    · intro w' hSw
                      try dsimp only at hSw
                      go_simp
                      try with_reducible rfl
                    try simp only [List.getElem_toArray, List.getElem_cons_zero, Act.put, List.setIfInBounds_toArray, List.set_cons_zero, List.set_cons_succ]
                    refine wpAnyH_take (i := 1) (v := ?_) rfl (by kernel_rfl) (by kernel_rfl) (by kernel_rfl) (fun _ _ _ h => h) (Or.inl ⟨by rfl, ?_⟩) (by assumption) ?_
                    rotate_left 1
                    · intro w' hSw
                      try dsimp only at hSw
                      go_simp
                      try with_reducible rfl
                    try simp only [List.getElem_toArray, List.getElem_cons_zero, List.getElem_cons_succ, Act.put, List.setIfInBounds_toArray, List.set_cons_zero, List.set_cons_succ]
                    refine wpAnyH_take (i := 2) (v := ?_) rfl (by kernel_rfl) (by kernel_rfl) (by kernel_rfl) (fun _ _ _ h => h) (Or.inl ⟨by rfl, ?_⟩) (by assumption) ?_
                    rotate_left 1
                    · intro w' hSw
                      try dsimp only at hSw
                      go_simp
                      try with_reducible rfl
                    try simp only [List.getElem_toArray, List.getElem_cons_zero, List.getElem_cons_succ, Act.put, List.setIfInBounds_toArray, List.set_cons_zero, List.set_cons_succ]
                    refine wpAnyH_take (i := 3) (v := ?_) rfl (by kernel_rfl) (by kernel_rfl) (by kernel_rfl) (fun _ _ _ h => h) (Or.inl ⟨by rfl, ?_⟩) (by assumption) ?_
                    rotate_left 1
                    · intro w' hSw
                      try dsimp only at hSw
                      go_simp
                      try with_reducible rfl
                    try simp only [List.getElem_toArray, List.getElem_cons_zero, List.getElem_cons_succ, Act.put, List.setIfInBounds_toArray, List.set_cons_zero, List.set_cons_succ]
                    refine wpAnyH_take (i := 4) (v := ?_) rfl (by kernel_rfl) (by kernel_rfl) (by kernel_rfl) (fun _ _ _ h => h) (Or.inl ⟨by rfl, ?_⟩) (by assumption) ?_
                    rotate_left 1
                    · intro w' hSw
                      try dsimp only at hSw
                      go_simp
                      try with_reducible rfl
                    try simp only [List.getElem_toArray, List.getElem_cons_zero, List.getElem_cons_succ, Act.put, List.setIfInBounds_toArray, List.set_cons_zero, List.set_cons_succ]
                    refine wpAnyH_take (i := 5) (v := ?_) rfl (by kernel_rfl) (by kernel_rfl) (by kernel_rfl) (fun _ _ _ h => h) (Or.inl ⟨by rfl, ?_⟩) (by assumption) ?_
                    rotate_left 1
                    · intro w' hSw
                      try dsimp only at hSw
                      go_simp
                      try with_reducible rfl
                    try simp only [List.getElem_toArray, List.getElem_cons_zero, List.getElem_cons_succ, Act.put, List.setIfInBounds_toArray, List.set_cons_zero, List.set_cons_succ]
                    refine wpAnyH_take (i := 6) (v := ?_) rfl (by kernel_rfl) (by kernel_rfl) (by kernel_rfl) (fun _ _ _ h => h) (Or.inl ⟨by rfl, ?_⟩) (by assumption) ?_
                    rotate_left 1
                    · intro w' hSw
                      try dsimp only at hSw
                      go_simp
                      try with_reducible rfl
                    try simp only [List.getElem_toArray, List.getElem_cons_zero, List.getElem_cons_succ, Act.put, List.setIfInBounds_toArray, List.set_cons_zero, List.set_cons_succ]
                    refine wpAnyH_take (i := 7) (v := ?_) rfl (by kernel_rfl) (by kernel_rfl) (by kernel_rfl) (fun _ _ _ h => h) (Or.inl ⟨by rfl, ?_⟩) (by assumption) ?_
                    rotate_left 1
                    · intro w' hSw
                      try dsimp only at hSw
                      go_simp
                      try with_reducible rfl
                    try simp only [List.getElem_toArray, List.getElem_cons_zero, List.getElem_cons_succ, Act.put, List.setIfInBounds_toArray, List.set_cons_zero, List.set_cons_succ]
                    refine wpAnyH_take (i := 8) (v := ?_) rfl (by kernel_rfl) (by kernel_rfl) (by kernel_rfl) (fun _ _ _ h => h) (Or.inl ⟨by rfl, ?_⟩) (by assumption) ?_
                    rotate_left 1
                    · intro w' hSw
                      try dsimp only at hSw
                      go_simp
                      try with_reducible rfl
                    try simp only [List.getElem_toArray, List.getElem_cons_zero, List.getElem_cons_succ, Act.put, List.setIfInBounds_toArray, List.set_cons_zero, List.set_cons_succ]
                    refine wpAnyH_take (i := 9) (v := ?_) rfl (by kernel_rfl) (by kernel_rfl) (by kernel_rfl) (fun _ _ _ h => h) (Or.inl ⟨by rfl, ?_⟩) (by assumption) ?_
                    rotate_left 1
                    · intro w' hSw
                      try dsimp only at hSw
                      go_simp
                      try with_reducible rfl
                    try simp only [List.getElem_toArray, List.getElem_cons_zero, List.getElem_cons_succ, Act.put, List.setIfInBounds_toArray, List.set_cons_zero, List.set_cons_succ]
                    refine wpAnyH_take (i := 10) (v := ?_) rfl (by kernel_rfl) (by kernel_rfl) (by kernel_rfl) (fun _ _ _ h => h) (Or.inl ⟨by rfl, ?_⟩) (by assumption) ?_
                    rotate_left 1
                    · intro w' hSw
                      try dsimp only at hSw
                      go_simp
                      try with_reducible rfl
                    try simp only [List.getElem_toArray, List.getElem_cons_zero, List.getElem_cons_succ, Act.put, List.setIfInBounds_toArray, List.set_cons_zero, List.set_cons_succ]
                    refine wpAnyH_take (i := 11) (v := ?_) rfl (by kernel_rfl) (by kernel_rfl) (by kernel_rfl) (fun _ _ _ h => h) (Or.inl ⟨by rfl, ?_⟩) (by assumption) ?_
                    rotate_left 1
                    · intro w' hSw
                      try dsimp only at hSw
                      go_simp
                      try with_reducible rfl
                    try simp only [List.getElem_toArray, List.getElem_cons_zero, List.getElem_cons_succ, Act.put, List.setIfInBounds_toArray, List.set_cons_zero, List.set_cons_succ]
                    refine wpAnyH_take (i := 12) (v := ?_) rfl (by kernel_rfl) (by kernel_rfl) (by kernel_rfl) (fun _ _ _ h => h) (Or.inl ⟨by rfl, ?_⟩) (by assumption) ?_
                    rotate_left 1
                    · intro w' hSw
                      try dsimp only at hSw
                      go_simp
                      try with_reducible rfl
                    try simp only [List.getElem_toArray, List.getElem_cons_zero, List.getElem_cons_succ, Act.put, List.setIfInBounds_toArray, List.set_cons_zero, List.set_cons_succ]
                    refine wpAnyH_take (i := 13) (v := ?_) rfl (by kernel_rfl) (by kernel_rfl) (by kernel_rfl) (fun _ _ _ h => h) (Or.inl ⟨by rfl, ?_⟩) (by assumption) ?_
                    rotate_left 1
                    · intro w' hSw
                      try dsimp only at hSw
                      go_simp
                      try with_reducible rfl
                    try simp only [List.getElem_toArray, List.getElem_cons_zero, List.getElem_cons_succ, Act.put, List.setIfInBounds_toArray, List.set_cons_zero, List.set_cons_succ]
                    refine wpAnyH_take (i := 14) (v := ?_) rfl (by kernel_rfl) (by kernel_rfl) (by kernel_rfl) (fun _ _ _ h => h) (Or.inl ⟨by rfl, ?_⟩) (by assumption) ?_
                    rotate_left 1
                    · intro w' hSw
                      try dsimp only at hSw
                      go_simp
                      try with_reducible rfl
                    try simp only [List.getElem_toArray, List.getElem_cons_zero, List.getElem_cons_succ, Act.put, List.setIfInBounds_toArray, List.set_cons_zero, List.set_cons_succ]
                    refine wpAnyH_take (i := 15) (v := ?_) rfl (by kernel_rfl) (by kernel_rfl) (by kernel_rfl) (fun _ _ _ h => h) (Or.inl ⟨by rfl, ?_⟩) (by assumption) ?_
                    rotate_left 1
                    · intro w' hSw
                      try dsimp only at hSw
                      go_simp
                      try with_reducible rfl
                    try simp only [List.getElem_toArray, List.getElem_cons_zero, List.getElem_cons_succ, Act.put, List.setIfInBounds_toArray, List.set_cons_zero, List.set_cons_succ]
                    refine wpAnyH_take (i := 16) (v := ?_) rfl (by kernel_rfl) (by kernel_rfl) (by kernel_rfl) (fun _ _ _ h => h) (Or.inl ⟨by rfl, ?_⟩) (by assumption) ?_
                    rotate_left 1
                    · intro w' hSw
                      try dsimp only at hSw
                      go_simp
                      try with_reducible rfl
                    try simp only [List.getElem_toArray, List.getElem_cons_zero, List.getElem_cons_succ, Act.put, List.setIfInBounds_toArray, List.set_cons_zero, List.set_cons_succ]
                    refine wpAnyH_take (i := 17) (v := ?_) rfl (by kernel_rfl) (by kernel_rfl) (by kernel_rfl) (fun _ _ _ h => h) (Or.inl ⟨by rfl, ?_⟩) (by assumption) ?_
                    rotate_left 1
                    · intro w' hSw
                      try dsimp only at hSw
                      go_simp
                      try with_reducible rfl
                    try simp only [List.getElem_toArray, List.getElem_cons_zero, List.getElem_cons_succ, Act.put, List.setIfInBounds_toArray, List.set_cons_zero, List.set_cons_succ]
                    refine wpAnyH_take (i := 18) (v := ?_) rfl (by kernel_rfl) (by kernel_rfl) (by kernel_rfl) (fun _ _ _ h => h) (Or.inl ⟨by rfl, ?_⟩) (by assumption) ?_
                    rotate_left 1
                    · intro w' hSw
                      try dsimp only at hSw
                      go_simp
                      try with_reducible rfl
                    try simp only [List.getElem_toArray, List.getElem_cons_zero, List.getElem_cons_succ, Act.put, List.setIfInBounds_toArray, List.set_cons_zero, List.set_cons_succ]
                    refine wpAnyH_take (i := 19) (v := ?_) rfl (by kernel_rfl) (by kernel_rfl) (by kernel_rfl) (fun _ _ _ h => h) (Or.inl ⟨by rfl, ?_⟩) (by assumption) ?_
                    rotate_left 1
                    · intro w' hSw
                      try dsimp only at hSw
                      go_simp
                      try with_reducible rfl
                    try simp only [List.getElem_toArray, List.getElem_cons_zero, List.getElem_cons_succ, Act.put, List.setIfInBounds_toArray, List.set_cons_zero, List.set_cons_succ]
                    refine wpAnyH_take (i := 20) (v := ?_) rfl (by kernel_rfl) (by kernel_rfl) (by kernel_rfl) (fun _ _ _ h => h) (Or.inl ⟨by rfl, ?_⟩) (by assumption) ?_
                    rotate_left 1
                    · intro w' hSw
                      try dsimp only at hSw
                      go_simp
                      try with_reducible rfl
                    try simp only [List.getElem_toArray, List.getElem_cons_zero, List.getElem_cons_succ, Act.put, List.setIfInBounds_toArray, List.set_cons_zero, List.set_cons_succ]
                    refine wpAnyH_take (i := 21) (v := undef) rfl (by kernel_rfl) (by kernel_rfl) (by kernel_rfl) (fun _ _ _ h => h) (Or.inr ⟨rfl, rfl⟩) (by assumption) ?_
                    try simp only [List.getElem_toArray, List.getElem_cons_zero, List.getElem_cons_succ, Act.put, List.setIfInBounds_toArray, List.set_cons_zero, List.set_cons_succ]
                    refine wpAnyH_take (i := 22) (v := undef) rfl (by kernel_rfl) (by kernel_rfl) (by kernel_rfl) (fun _ _ _ h => h) (Or.inr ⟨rfl, rfl⟩) (by assumption) ?_
                    try simp only [List.getElem_toArray, List.getElem_cons_zero, List.getElem_cons_succ, Act.put, List.setIfInBounds_toArray, List.set_cons_zero, List.set_cons_succ]
                    refine wpAnyH_take (i := 23) (v := ?_) rfl (by kernel_rfl) (by kernel_rfl) (by kernel_rfl) (fun _ _ _ h => h) (Or.inl ⟨by rfl, ?_⟩) (by assumption) ?_
                    rotate_left 1
                    · intro w' hSw
                      try dsimp only at hSw
                      go_simp
                      try with_reducible rfl
                    try simp only [List.getElem_toArray, List.getElem_cons_zero, List.getElem_cons_succ, Act.put, List.setIfInBounds_toArray, List.set_cons_zero, List.set_cons_succ]
                    refine wpAnyH_take (i := 24) (v := ?_) rfl (by kernel_rfl) (by kernel_rfl) (by kernel_rfl) (fun _ _ _ h => h) (Or.inl ⟨by rfl, ?_⟩) (by assumption) ?_
                    rotate_left 1
                    · intro w' hSw
                      try dsimp only at hSw
                      go_simp
                      try with_reducible rfl
                    try simp only [List.getElem_toArray, List.getElem_cons_zero, List.getElem_cons_succ, Act.put, List.setIfInBounds_toArray, List.set_cons_zero, List.set_cons_succ]
                    refine wpAnyH_take (i := 25) (v := ?_) rfl (by kernel_rfl) (by kernel_rfl) (by kernel_rfl) (fun _ _ _ h => h) (Or.inl ⟨by rfl, ?_⟩) (by assumption) ?_
                    rotate_left 1
                    · intro w' hSw
                      try dsimp only at hSw
                      go_simp
                      try with_reducible rfl
                    try simp only [List.getElem_toArray, List.getElem_cons_zero, List.getElem_cons_succ, Act.put, List.setIfInBounds_toArray, List.set_cons_zero, List.set_cons_succ]
                    refine wpAnyH_take (i := 26) (v := ?_) rfl (by kernel_rfl) (by kernel_rfl) (by kernel_rfl) (fun _ _ _ h => h) (Or.inl ⟨by rfl, ?_⟩) (by assumption) ?_
                    rotate_left 1
                    · intro w' hSw
                      try dsimp only at hSw
                      go_simp
                      try with_reducible rfl
                    try simp only [List.getElem_toArray, List.getElem_cons_zero, List.getElem_cons_succ, Act.put, List.setIfInBounds_toArray, List.set_cons_zero, List.set_cons_succ]
                    refine wpAnyH_take (i := 27) (v := ?_) rfl (by kernel_rfl) (by kernel_rfl) (by kernel_rfl) (fun _ _ _ h => h) (Or.inl ⟨by rfl, ?_⟩) (by assumption) ?_
                    rotate_left 1
                    · intro w' hSw
                      try dsimp only at hSw
                      go_simp
                      try with_reducible rfl
                    try simp only [List.getElem_toArray, List.getElem_cons_zero, List.getElem_cons_succ, Act.put, List.setIfInBounds_toArray, List.set_cons_zero, List.set_cons_succ]
                    refine wpAnyH_take (i := 28) (v := ?_) rfl (by kernel_rfl) (by kernel_rfl) (by kernel_rfl) (fun _ _ _ h => h) (Or.inl ⟨by rfl, ?_⟩) (by assumption) ?_
                    rotate_left 1
                    · intro w' hSw
                      try dsimp only at hSw
                      go_simp
                      try with_reducible rfl
                    try simp only [List.getElem_toArray, List.getElem_cons_zero, List.getElem_cons_succ, Act.put, List.setIfInBounds_toArray, List.set_cons_zero, List.set_cons_succ]
                    refine wpAnyH_take (i := 29) (v := ?_) rfl (by kernel_rfl) (by kernel_rfl) (by kernel_rfl) (fun _ _ _ h => h) (Or.inl ⟨by rfl, ?_⟩) (by assumption) ?_
                    rotate_left 1
                    · intro w' hSw
                      try dsimp only at hSw
                      go_simp
                      try with_reducible rfl
                    try simp only [List.getElem_toArray, List.getElem_cons_zero, List.getElem_cons_succ, Act.put, List.setIfInBounds_toArray, List.set_cons_zero, List.set_cons_succ]
                    refine wpAnyH_done (by kernel_rfl) ?_ _
                    refine NoPanic.normal ?_
                    have KE := Lib.hid (KX.out.trans (K3.out.trans (HO8.out.drew)))
                    go_wp2_with fail
                    go_ret
                    exact ⟨rfl, KE.out⟩
                  · have hmb : (me == 0) = false := by simpa using hm
                    refine wp_region_noPanic ?_
                    refine wp_region_held_drew (S := (fun w' => Only (fun _ => False) W8 w' ∧ w'.cell? ⟨lb, lo, none⟩ = some (.int .i64 gg) ∧ w'.cell? ⟨lb, lo + 1, none⟩ = some (.int .i64 gu) ∧ w'.cell? ⟨lb, lo + 2, none⟩ = some (.int .i64 ga) ∧ w'.cell? ⟨lb, lo + 3, none⟩ = some (.bool gf) ∧ w'.cell? ⟨lb, lo + 4, none⟩ = some (.int .i64 kg) ∧ w'.cell? ⟨lb, lo + 5, none⟩ = some (.int .i64 ku) ∧ w'.cell? ⟨lb, lo + 6, none⟩ = some (.int .i64 ka) ∧ w'.cell? ⟨lb, lo + 7, none⟩ = some (.bool kf) ∧ w'.cell? ⟨q, 0, none⟩ = some (.int .i64 gg) ∧ w'.cell? ⟨q, 1, none⟩ = some (.int .i64 gu) ∧ w'.cell? ⟨q, 2, none⟩ = some (.int .i64 ga) ∧ w'.cell? ⟨q, 3, none⟩ = some (.bool gf) ∧ w'.cell? ⟨y, 0, none⟩ = some (.int .i64 kg) ∧ w'.cell? ⟨y, 1, none⟩ = some (.int .i64 ku) ∧ w'.cell? ⟨y, 2, none⟩ = some (.int .i64 ka) ∧ w'.cell? ⟨y, 3, none⟩ = some (.bool kf))) (by kernel_rfl) (HS13.out _ (Only.refl _ _).drew) (fun hHeld => ?_)
                    refine wpAnyH_take (i := 0) (v := ?_) rfl (by kernel_rfl) (by kernel_rfl) (by kernel_rfl) (fun _ _ _ h => h) (Or.inl ⟨by rfl, ?_⟩) (by assumption) ?_
                    rotate_left 1
                    · intro w' hSw
                      try dsimp only at hSw
                      go_simp
                      try with_reducible rfl
                    try simp only [List.getElem_toArray, List.getElem_cons_zero, Act.put, List.setIfInBounds_toArray, List.set_cons_zero, List.set_cons_succ]
                    refine wpAnyH_take (i := 1) (v := ?_) rfl (by kernel_rfl) (by kernel_rfl) (by kernel_rfl) (fun _ _ _ h => h) (Or.inl ⟨by rfl, ?_⟩) (by assumption) ?_
                    rotate_left 1
                    · intro w' hSw
                      try dsimp only at hSw
                      go_simp
                      try with_reducible rfl
                    try simp only [List.getElem_toArray, List.getElem_cons_zero, List.getElem_cons_succ, Act.put, List.setIfInBounds_toArray, List.set_cons_zero, List.set_cons_succ]
                    refine wpAnyH_take (i := 2) (v := ?_) rfl (by kernel_rfl) (by kernel_rfl) (by kernel_rfl) (fun _ _ _ h => h) (Or.inl ⟨by rfl, ?_⟩) (by assumption) ?_
                    rotate_left 1
                    · intro w' hSw
                      try dsimp only at hSw
                      go_simp
                      try with_reducible rfl
                    try simp only [List.getElem_toArray, List.getElem_cons_zero, List.getElem_cons_succ, Act.put, List.setIfInBounds_toArray, List.set_cons_zero, List.set_cons_succ]
                    refine wpAnyH_take (i := 3) (v := ?_) rfl (by kernel_rfl) (by kernel_rfl) (by kernel_rfl) (fun _ _ _ h => h) (Or.inl ⟨by rfl, ?_⟩) (by assumption) ?_
                    rotate_left 1
                    · intro w' hSw
                      try dsimp only at hSw
                      go_simp
                      try with_reducible rfl
                    try simp only [List.getElem_toArray, List.getElem_cons_zero, List.getElem_cons_succ, Act.put, List.setIfInBounds_toArray, List.set_cons_zero, List.set_cons_succ]
                    refine wpAnyH_take (i := 4) (v := ?_) rfl (by kernel_rfl) (by kernel_rfl) (by kernel_rfl) (fun _ _ _ h => h) (Or.inl ⟨by rfl, ?_⟩) (by assumption) ?_
                    rotate_left 1
                    · intro w' hSw
                      try dsimp only at hSw
                      go_simp
                      try with_reducible rfl
                    try simp only [List.getElem_toArray, List.getElem_cons_zero, List.getElem_cons_succ, Act.put, List.setIfInBounds_toArray, List.set_cons_zero, List.set_cons_succ]
                    refine wpAnyH_take (i := 5) (v := ?_) rfl (by kernel_rfl) (by kernel_rfl) (by kernel_rfl) (fun _ _ _ h => h) (Or.inl ⟨by rfl, ?_⟩) (by assumption) ?_
                    rotate_left 1
                    · intro w' hSw
                      try dsimp only at hSw
                      go_simp
                      try with_reducible rfl
                    try simp only [List.getElem_toArray, List.getElem_cons_zero, List.getElem_cons_succ, Act.put, List.setIfInBounds_toArray, List.set_cons_zero, List.set_cons_succ]
                    refine wpAnyH_take (i := 6) (v := ?_) rfl (by kernel_rfl) (by kernel_rfl) (by kernel_rfl) (fun _ _ _ h => h) (Or.inl ⟨by rfl, ?_⟩) (by assumption) ?_
                    rotate_left 1
                    · intro w' hSw
                      try dsimp only at hSw
                      go_simp
                      try with_reducible rfl
                    try simp only [List.getElem_toArray, List.getElem_cons_zero, List.getElem_cons_succ, Act.put, List.setIfInBounds_toArray, List.set_cons_zero, List.set_cons_succ]
                    refine wpAnyH_take (i := 7) (v := ?_) rfl (by kernel_rfl) (by kernel_rfl) (by kernel_rfl) (fun _ _ _ h => h) (Or.inl ⟨by rfl, ?_⟩) (by assumption) ?_
                    rotate_left 1
                    · intro w' hSw
                      try dsimp only at hSw
                      go_simp
                      try with_reducible rfl
                    try simp only [List.getElem_toArray, List.getElem_cons_zero, List.getElem_cons_succ, Act.put, List.setIfInBounds_toArray, List.set_cons_zero, List.set_cons_succ]
                    refine wpAnyH_take (i := 8) (v := ?_) rfl (by kernel_rfl) (by kernel_rfl) (by kernel_rfl) (fun _ _ _ h => h) (Or.inl ⟨by rfl, ?_⟩) (by assumption) ?_
                    rotate_left 1
                    · intro w' hSw
                      try dsimp only at hSw
                      go_simp
                      try with_reducible rfl
                    try simp only [List.getElem_toArray, List.getElem_cons_zero, List.getElem_cons_succ, Act.put, List.setIfInBounds_toArray, List.set_cons_zero, List.set_cons_succ]
                    refine wpAnyH_take (i := 9) (v := ?_) rfl (by kernel_rfl) (by kernel_rfl) (by kernel_rfl) (fun _ _ _ h => h) (Or.inl ⟨by rfl, ?_⟩) (by assumption) ?_
                    rotate_left 1
                    · intro w' hSw
                      try dsimp only at hSw
                      go_simp
                      try with_reducible rfl
                    try simp only [List.getElem_toArray, List.getElem_cons_zero, List.getElem_cons_succ, Act.put, List.setIfInBounds_toArray, List.set_cons_zero, List.set_cons_succ]
                    refine wpAnyH_take (i := 10) (v := ?_) rfl (by kernel_rfl) (by kernel_rfl) (by kernel_rfl) (fun _ _ _ h => h) (Or.inl ⟨by rfl, ?_⟩) (by assumption) ?_
                    rotate_left 1
                    · intro w' hSw
                      try dsimp only at hSw
                      go_simp
                      try with_reducible rfl
                    try simp only [List.getElem_toArray, List.getElem_cons_zero, List.getElem_cons_succ, Act.put, List.setIfInBounds_toArray, List.set_cons_zero, List.set_cons_succ]
                    refine wpAnyH_take (i := 11) (v := ?_) rfl (by kernel_rfl) (by kernel_rfl) (by kernel_rfl) (fun _ _ _ h => h) (Or.inl ⟨by rfl, ?_⟩) (by assumption) ?_
                    rotate_left 1
                    · intro w' hSw
                      try dsimp only at hSw
                      go_simp
                      try with_reducible rfl
                    try simp only [List.getElem_toArray, List.getElem_cons_zero, List.getElem_cons_succ, Act.put, List.setIfInBounds_toArray, List.set_cons_zero, List.set_cons_succ]
                    refine wpAnyH_take (i := 12) (v := ?_) rfl (by kernel_rfl) (by kernel_rfl) (by kernel_rfl) (fun _ _ _ h => h) (Or.inl ⟨by rfl, ?_⟩) (by assumption) ?_
                    rotate_left 1
                    · intro w' hSw
                      try dsimp only at hSw
                      go_simp
                      try with_reducible rfl
                    try simp only [List.getElem_toArray, List.getElem_cons_zero, List.getElem_cons_succ, Act.put, List.setIfInBounds_toArray, List.set_cons_zero, List.set_cons_succ]
                    refine wpAnyH_take (i := 13) (v := ?_) rfl (by kernel_rfl) (by kernel_rfl) (by kernel_rfl) (fun _ _ _ h => h) (Or.inl ⟨by rfl, ?_⟩) (by assumption) ?_
                    rotate_left 1
                    · intro w' hSw
                      try dsimp only at hSw
                      go_simp
                      try with_reducible rfl
                    try simp only [List.getElem_toArray, List.getElem_cons_zero, List.getElem_cons_succ, Act.put, List.setIfInBounds_toArray, List.set_cons_zero, List.set_cons_succ]
                    refine wpAnyH_take (i := 14) (v := ?_) rfl (by kernel_rfl) (by kernel_rfl) (by kernel_rfl) (fun _ _ _ h => h) (Or.inl ⟨by rfl, ?_⟩) (by assumption) ?_
                    rotate_left 1
                    · intro w' hSw
                      try dsimp only at hSw
                      go_simp
                      try with_reducible rfl
                    try simp only [List.getElem_toArray, List.getElem_cons_zero, List.getElem_cons_succ, Act.put, List.setIfInBounds_toArray, List.set_cons_zero, List.set_cons_succ]
                    refine wpAnyH_take (i := 15) (v := ?_) rfl (by kernel_rfl) (by kernel_rfl) (by kernel_rfl) (fun _ _ _ h => h) (Or.inl ⟨by rfl, ?_⟩) (by assumption) ?_
                    rotate_left 1
                    · intro w' hSw
                      try dsimp only at hSw
                      go_simp
                      try with_reducible rfl
                    try simp only [List.getElem_toArray, List.getElem_cons_zero, List.getElem_cons_succ, Act.put, List.setIfInBounds_toArray, List.set_cons_zero, List.set_cons_succ]
                    refine wpAnyH_take (i := 16) (v := ?_) rfl (by kernel_rfl) (by kernel_rfl) (by kernel_rfl) (fun _ _ _ h => h) (Or.inl ⟨by rfl, ?_⟩) (by assumption) ?_
                    rotate_left 1
                    · intro w' hSw
                      try dsimp only at hSw
                      go_simp
                      try with_reducible rfl
                    try simp only [List.getElem_toArray, List.getElem_cons_zero, List.getElem_cons_succ, Act.put, List.setIfInBounds_toArray, List.set_cons_zero, List.set_cons_succ]
                    refine wpAnyH_take (i := 17) (v := ?_) rfl (by kernel_rfl) (by kernel_rfl) (by kernel_rfl) (fun _ _ _ h => h) (Or.inl ⟨by rfl, ?_⟩) (by assumption) ?_
                    rotate_left 1
                    · intro w' hSw
                      try dsimp only at hSw
                      go_simp
                      try with_reducible rfl
                    try simp only [List.getElem_toArray, List.getElem_cons_zero, List.getElem_cons_succ, Act.put, List.setIfInBounds_toArray, List.set_cons_zero, List.set_cons_succ]
                    refine wpAnyH_take (i := 18) (v := ?_) rfl (by kernel_rfl) (by kernel_rfl) (by kernel_rfl) (fun _ _ _ h => h) (Or.inl ⟨by rfl, ?_⟩) (by assumption) ?_
                    rotate_left 1
                    · intro w' hSw
                      try dsimp only at hSw
                      go_simp
                      try with_reducible rfl
                    try simp only [List.getElem_toArray, List.getElem_cons_zero, List.getElem_cons_succ, Act.put, List.setIfInBounds_toArray, List.set_cons_zero, List.set_cons_succ]
                    refine wpAnyH_take (i := 19) (v := ?_) rfl (by kernel_rfl) (by kernel_rfl) (by kernel_rfl) (fun _ _ _ h => h) (Or.inl ⟨by rfl, ?_⟩) (by assumption) ?_
                    rotate_left 1
                    · intro w' hSw
                      try dsimp only at hSw
                      go_simp
                      try with_reducible rfl
                    try simp only [List.getElem_toArray, List.getElem_cons_zero, List.getElem_cons_succ, Act.put, List.setIfInBounds_toArray, List.set_cons_zero, List.set_cons_succ]
                    refine wpAnyH_take (i := 20) (v := ?_) rfl (by kernel_rfl) (by kernel_rfl) (by kernel_rfl) (fun _ _ _ h => h) (Or.inl ⟨by rfl, ?_⟩) (by assumption) ?_
                    rotate_left 1
                    · intro w' hSw
                      try dsimp only at hSw
                      go_simp
                      try with_reducible rfl
                    try simp only [List.getElem_toArray, List.getElem_cons_zero, List.getElem_cons_succ, Act.put, List.setIfInBounds_toArray, List.set_cons_zero, List.set_cons_succ]
                    refine wpAnyH_take (i := 21) (v := ?_) rfl (by kernel_rfl) (by kernel_rfl) (by kernel_rfl) (fun _ _ _ h => h) (Or.inl ⟨by rfl, ?_⟩) (by assumption) ?_
                    rotate_left 1
                    · intro w' hSw
                      try dsimp only at hSw
                      go_simp
                      try with_reducible rfl
                    try simp only [List.getElem_toArray, List.getElem_cons_zero, List.getElem_cons_succ, Act.put, List.setIfInBounds_toArray, List.set_cons_zero, List.set_cons_succ]
                    refine wpAnyH_take (i := 22) (v := ?_) rfl (by kernel_rfl) (by kernel_rfl) (by kernel_rfl) (fun _ _ _ h => h) (Or.inl ⟨by rfl, ?_⟩) (by assumption) ?_
                    rotate_left 1
                    · intro w' hSw
                      try dsimp only at hSw
                      go_simp
                      try with_reducible rfl
                    try simp only [List.getElem_toArray, List.getElem_cons_zero, List.getElem_cons_succ, Act.put, List.setIfInBounds_toArray, List.set_cons_zero, List.set_cons_succ]
                    refine wpAnyH_take (i := 23) (v := ?_) rfl (by kernel_rfl) (by kernel_rfl) (by kernel_rfl) (fun _ _ _ h => h) (Or.inl ⟨by rfl, ?_⟩) (by assumption) ?_
                    rotate_left 1
                    · intro w' hSw
                      try dsimp only at hSw
                      go_simp
                      try with_reducible rfl
                    try simp only [List.getElem_toArray, List.getElem_cons_zero, List.getElem_cons_succ, Act.put, List.setIfInBounds_toArray, List.set_cons_zero, List.set_cons_succ]
                    refine wpAnyH_take (i := 24) (v := ?_) rfl (by kernel_rfl) (by kernel_rfl) (by kernel_rfl) (fun _ _ _ h => h) (Or.inl ⟨by rfl, ?_⟩) (by assumption) ?_
                    rotate_left 1
                    · intro w' hSw
                      try dsimp only at hSw
                      go_simp
                      try with_reducible rfl
                    try simp only [List.getElem_toArray, List.getElem_cons_zero, List.getElem_cons_succ, Act.put, List.setIfInBounds_toArray, List.set_cons_zero, List.set_cons_succ]
                    refine wpAnyH_take (i := 25) (v := ?_) rfl (by kernel_rfl) (by kernel_rfl) (by kernel_rfl) (fun _ _ _ h => h) (Or.inl ⟨by rfl, ?_⟩) (by assumption) ?_
                    rotate_left 1
                    · intro w' hSw
                      try dsimp only at hSw
                      go_simp
                      try with_reducible rfl
                    try simp only [List.getElem_toArray, List.getElem_cons_zero, List.getElem_cons_succ, Act.put, List.setIfInBounds_toArray, List.set_cons_zero, List.set_cons_succ]
                    refine wpAnyH_take (i := 26) (v := ?_) rfl (by kernel_rfl) (by kernel_rfl) (by kernel_rfl) (fun _ _ _ h => h) (Or.inl ⟨by rfl, ?_⟩) (by assumption) ?_
                    rotate_left 1
                    · intro w' hSw
                      try dsimp only at hSw
                      go_simp
                      try with_reducible rfl
                    try simp only [List.getElem_toArray, List.getElem_cons_zero, List.getElem_cons_succ, Act.put, List.setIfInBounds_toArray, List.set_cons_zero, List.set_cons_succ]
                    refine wpAnyH_take (i := 27) (v := ?_) rfl (by kernel_rfl) (by kernel_rfl) (by kernel_rfl) (fun _ _ _ h => h) (Or.inl ⟨by rfl, ?_⟩) (by assumption) ?_
                    rotate_left 1
                    · intro w' hSw
                      try dsimp only at hSw
                      go_simp
                      try with_reducible rfl
                    try simp only [List.getElem_toArray, List.getElem_cons_zero, List.getElem_cons_succ, Act.put, List.setIfInBounds_toArray, List.set_cons_zero, List.set_cons_succ]
                    refine wpAnyH_take (i := 28) (v := ?_) rfl (by kernel_rfl) (by kernel_rfl) (by kernel_rfl) (fun _ _ _ h => h) (Or.inl ⟨by rfl, ?_⟩) (by assumption) ?_
                    rotate_left 1
                    · intro w' hSw
                      try dsimp only at hSw
                      go_simp
                      try with_reducible rfl
                    try simp only [List.getElem_toArray, List.getElem_cons_zero, List.getElem_cons_succ, Act.put, List.setIfInBounds_toArray, List.set_cons_zero, List.set_cons_succ]
                    refine wpAnyH_take (i := 29) (v := ?_) rfl (by kernel_rfl) (by kernel_rfl) (by kernel_rfl) (fun _ _ _ h => h) (Or.inl ⟨by rfl, ?_⟩) (by assumption) ?_
                    rotate_left 1
                    · intro w' hSw
                      try dsimp only at hSw
                      go_simp
                      try with_reducible rfl
                    try simp only [List.getElem_toArray, List.getElem_cons_zero, List.getElem_cons_succ, Act.put, List.setIfInBounds_toArray, List.set_cons_zero, List.set_cons_succ]
                    refine wpAnyH_done (by kernel_rfl) ?_ _
                    refine NoPanic.normal ?_
                    have KE := Lib.hid (KX.out.trans (K3.out.trans (HO8.out.drew)))
                    go_wp2_with fail
                    go_ret
                    exact ⟨rfl, KE.out⟩
end Go.Proofs.Ytghajamcjcflaaa.tirw
