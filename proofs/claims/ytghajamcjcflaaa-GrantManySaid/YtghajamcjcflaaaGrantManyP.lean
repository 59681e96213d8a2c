/- GrantMany returns true for every row of plans, credit and row of wants, and leaves what came in as it was; nothing is asked of the inputs. -/
import Derived.Test.YtghajamcjcflaaaGrD
import Derived.Test.YtghajamcjcflaaaRatRw
import Derived.Test.YtghajamcjcflaaaGrK
import Derived.Deep.Cut
import Derived.Deep.CutBlock
import Derived.Deep.RegionHeld3
import Derived.Test.YtghajamcjcflaaaRows
import Derived.WalkKit
import Derived.ProofKit
import Derived.OpenShut
import Derived.ShutString
import Derived.ChangeOld
import Derived.Below
import Derived.Test.YtghajamcjcflaaaRatP
namespace Go.Proofs.Ytghajamcjcflaaa.tirw
open Go.RowKit mem tirm intm bigm bigw
set_option linter.unusedVariables false

set_option maxRecDepth 100000 in
set_option maxHeartbeats 1000000 in
theorem rmake_any (D F T G1 M1 B1 G2 M2 B2 : Int) (a1 a2 : Option Addr) (n1 n2 c1 c2 : Nat) (t1 t2 : List Tr) (cr u : Int) (w : World) (h1 : ReadsT w a1 n1 t1) (h2 : ReadsT w a2 n2 t2) (hs : n1 ≤ 1000 ∧ n2 ≤ 1000) :
    Calls Try.prog 39 #[.agg #[.int .i64 D, .int .i64 F, .int .i64 T, .int .i64 G1, .int .i64 M1, .int .i64 B1, .slice a1 n1 c1, .int .i64 G2, .int .i64 M2, .int .i64 B2, .slice a2 n2 c2], .int .i64 cr, .int .i64 u] w fun e w' => e = .returned (.tuple #[(mkG D F T G1 M1 B1 G2 M2 B2 t1 t2 cr u).val, .int .i64 (mkE D F T G1 M1 B1 G2 M2 B2 t1 t2 cr u)]) ∧ Only (fun _ => False) w w' := by
  have HFT := Lib.hid (fun w' (ho : Only (fun _ => False) w w') => rfit_any D F T G1 M1 B1 G2 M2 B2 a1 a2 n1 n2 c1 c2 t1 t2 cr u w' (h1.only ho (fun _ _ f => f)) (h2.only ho (fun _ _ f => f)) hs)
  obtain ⟨W0, hW0⟩ : ∃ W0, W0 = (w.alloc (.cells #[.int .i64 D, .int .i64 F, .int .i64 T, .int .i64 G1, .int .i64 M1, .int .i64 B1, .slice a1 n1 c1, .int .i64 G2, .int .i64 M2, .int .i64 B2, .slice a2 n2 c2] 37)).alloc (.cells #[.int .i64 0, .int .i64 0, .int .i64 0, .bool false] 51) := ⟨_, rfl⟩
  have HO0 : Hid (Only (fun _ => False) w W0 ∧ W0.heap.size = w.heap.size + 2) := Lib.hid (by rw [hW0]; exact ⟨((Only.refl _ w).alloc _).alloc _, by simp⟩)
  have HPA : Hid (PlanAt W0 w.heap.size D F T G1 M1 B1 G2 M2 B2 a1 a2 n1 n2 c1 c2) := Lib.hid (by rw [hW0]; exact (PlanAt.new ..).only ((Only.refl (fun _ => False) _).alloc _) (fun f => f))
  have HFR : Hid (Four W0 (w.heap.size + 1)) := Lib.hid (by rw [hW0]; exact Four.new (by simp))
  clear h1 h2
  unfold mkG mkE
  by_cases hf : FitNo D F T G1 M1 B1 G2 M2 B2 t1 t2 cr u
  · have hm : MkNo D F T G1 M1 B1 G2 M2 B2 t1 t2 cr u := .inl hf
    rw [if_pos hm, if_pos hm]
    obtain ⟨e1, e2, e3⟩ := fit_none hf
    rw [e1, e2, e3] at HFT
    clear hf hm e1 e2 e3
    go_enter Try.func39, Try.ntmps39
    obtain ⟨p0, p1, p2, p3, p4, p5, p6, p7, p8, p9, p10⟩ := HPA.out
    rw [hW0] at p0 p1 p2 p3 p4 p5 p6 p7 p8 p9 p10
    go_wp2_with fail
    rw [← hW0]
    clear hW0 p0 p1 p2 p3 p4 p5 p6 p7 p8 p9 p10
    refine (HFT.out _ HO0.out.1).mono ?_
    rintro _ w1 ⟨rfl, k1⟩
    have K1 := Lib.hid (HO0.out.1.trans k1)
    obtain ⟨p0, p1, p2, p3, p4, p5, p6, p7, p8, p9, p10⟩ := HPA.out.only k1 (fun f => f)
    have HR4 := HFR.out.only k1 (fun f => f)
    have HE := Lib.hid (HR4.set (.int .i64 0) (.int .i64 0) (.int .i64 0) (.bool false))
    obtain ⟨⟨_, r0⟩, ⟨_, r1⟩, ⟨_, r2⟩, ⟨_, r3⟩, g0, g1, g2, g3⟩ := HR4
    clear k1
    go_wp2_with fail
    refine bodyPost_ret (v := .tuple #[.agg #[.int .i64 0, .int .i64 0, .int .i64 0, .bool false], .int .i64 1]) (by simp [results, Try.results39, go_sem, HE.out.1, HE.out.2.1, HE.out.2.2.1, HE.out.2.2.2.1]) rfl ⟨rfl, K1.out.then HE.out.2.2.2.2 (fun q hq e => by have e' : q = w.heap.size + 1 := e; omega)⟩
  · obtain ⟨e3, n, c, e1, e2, f1, f2, f3, _⟩ := fit_facts hf
    rw [e1, e2]
    rw [e1, e2, e3] at HFT
    by_cases hu : u < 1
    · have hm : MkNo D F T G1 M1 B1 G2 M2 B2 t1 t2 cr u := .inr hu
      rw [if_pos hm, if_pos hm]
      clear hf hm e1 e2 e3
      go_enter Try.func39, Try.ntmps39
      obtain ⟨p0, p1, p2, p3, p4, p5, p6, p7, p8, p9, p10⟩ := HPA.out
      rw [hW0] at p0 p1 p2 p3 p4 p5 p6 p7 p8 p9 p10
      go_wp2_with fail
      rw [← hW0]
      clear hW0 p0 p1 p2 p3 p4 p5 p6 p7 p8 p9 p10
      refine (HFT.out _ HO0.out.1).mono ?_
      rintro _ w1 ⟨rfl, k1⟩
      have K1 := Lib.hid (HO0.out.1.trans k1)
      obtain ⟨p0, p1, p2, p3, p4, p5, p6, p7, p8, p9, p10⟩ := HPA.out.only k1 (fun f => f)
      have HR4 := HFR.out.only k1 (fun f => f)
      have HE := Lib.hid (HR4.set (.int .i64 0) (.int .i64 0) (.int .i64 0) (.bool false))
      obtain ⟨⟨_, r0⟩, ⟨_, r1⟩, ⟨_, r2⟩, ⟨_, r3⟩, g0, g1, g2, g3⟩ := HR4
      clear k1
      go_wp2_with fail
      refine bodyPost_ret (v := .tuple #[.agg #[.int .i64 0, .int .i64 0, .int .i64 0, .bool false], .int .i64 1]) (by simp [results, Try.results39, go_sem, HE.out.1, HE.out.2.1, HE.out.2.2.1, HE.out.2.2.2.1]) rfl ⟨rfl, K1.out.then HE.out.2.2.2.2 (fun q hq e => by have e' : q = w.heap.size + 1 := e; omega)⟩
    · have hm : ¬ MkNo D F T G1 M1 B1 G2 M2 B2 t1 t2 cr u := fun e => e.elim hf hu
      rw [if_neg hm, if_neg hm]
      clear hf hm e1 e2 e3
      by_cases hn : n = 0
      · rw [if_pos hn, if_pos hn]
        subst hn
        go_enter Try.func39, Try.ntmps39
        obtain ⟨p0, p1, p2, p3, p4, p5, p6, p7, p8, p9, p10⟩ := HPA.out
        rw [hW0] at p0 p1 p2 p3 p4 p5 p6 p7 p8 p9 p10
        go_wp2_with fail
        rw [← hW0]
        clear hW0 p0 p1 p2 p3 p4 p5 p6 p7 p8 p9 p10
        refine (HFT.out _ HO0.out.1).mono ?_
        rintro _ w1 ⟨rfl, k1⟩
        have K1 := Lib.hid (HO0.out.1.trans k1)
        obtain ⟨p0, p1, p2, p3, p4, p5, p6, p7, p8, p9, p10⟩ := HPA.out.only k1 (fun f => f)
        have HR4 := HFR.out.only k1 (fun f => f)
        have HE := Lib.hid (HR4.set (.int .i64 0) (.int .i64 0) (.int .i64 0) (.bool false))
        obtain ⟨⟨_, r0⟩, ⟨_, r1⟩, ⟨_, r2⟩, ⟨_, r3⟩, g0, g1, g2, g3⟩ := HR4
        clear k1
        go_wp2_with fail
        refine bodyPost_ret (v := .tuple #[.agg #[.int .i64 0, .int .i64 0, .int .i64 0, .bool false], .int .i64 9]) (by simp [results, Try.results39, go_sem, HE.out.1, HE.out.2.1, HE.out.2.2.1, HE.out.2.2.2.1]) rfl ⟨rfl, K1.out.then HE.out.2.2.2.2 (fun q hq e => by have e' : q = w.heap.size + 1 := e; omega)⟩
      · rw [if_neg hn, if_neg hn]
        obtain ⟨z1, z2⟩ := neI hn
        obtain ⟨bb, hbb⟩ : ∃ b, decide (n < u) = b := ⟨_, rfl⟩
        rw [hbb]
        clear hn
        go_enter Try.func39, Try.ntmps39
        obtain ⟨p0, p1, p2, p3, p4, p5, p6, p7, p8, p9, p10⟩ := HPA.out
        rw [hW0] at p0 p1 p2 p3 p4 p5 p6 p7 p8 p9 p10
        go_wp2_with fail
        rw [← hW0]
        clear hW0 p0 p1 p2 p3 p4 p5 p6 p7 p8 p9 p10
        refine (HFT.out _ HO0.out.1).mono ?_
        rintro _ w1 ⟨rfl, k1⟩
        have K1 := Lib.hid (HO0.out.1.trans k1)
        obtain ⟨p0, p1, p2, p3, p4, p5, p6, p7, p8, p9, p10⟩ := HPA.out.only k1 (fun f => f)
        have HR4 := HFR.out.only k1 (fun f => f)
        have HE := Lib.hid (HR4.set (.int .i64 G1) (.int .i64 n) (.int .i64 c) (.bool bb))
        obtain ⟨⟨_, r0⟩, ⟨_, r1⟩, ⟨_, r2⟩, ⟨_, r3⟩, g0, g1, g2, g3⟩ := HR4
        clear k1
        go_wp2_with fail
        refine bodyPost_ret (v := .tuple #[.agg #[.int .i64 G1, .int .i64 n, .int .i64 c, .bool bb], .int .i64 0]) (by simp [results, Try.results39, go_sem, HE.out.1, HE.out.2.1, HE.out.2.2.1, HE.out.2.2.2.1]) rfl ⟨rfl, K1.out.then HE.out.2.2.2.2 (fun q hq e => by have e' : q = w.heap.size + 1 := e; omega)⟩
set_option maxRecDepth 100000 in
theorem like_yes (g u a : Int) (f : Bool) (w : World) : Calls Try.prog 19 #[.agg #[.int .i64 g, .int .i64 u, .int .i64 a, .bool f], .agg #[.int .i64 g, .int .i64 u, .int .i64 a, .bool f]] w fun e w' => e = .returned (.bool true) ∧ Only (fun _ => False) w w' := by
  have e1 : (g == g) = true := by simp
  have e2 : (u == u) = true := by simp
  have e3 : (a == a) = true := by simp
  have e4 : (f == f) = true := by simp
  have HO : Hid (∀ o p, Only (fun _ => False) w ((w.alloc o).alloc p)) := Lib.hid (fun o p => ((Only.refl _ w).alloc o).alloc p)
  go_enter Try.func19, Try.ntmps19
  go_wp2_with fail
  go_ret
  exact ⟨rfl, HO.out _ _⟩
end Go.Proofs.Ytghajamcjcflaaa.tirw
namespace Go.Proofs.Ytghajamcjcflaaa.tirw
open Go.RowKit mem tirm intm bigm bigw
set_option linter.unusedVariables false

def encG (x : Gr) : List Value := [.int .i64 x.g, .int .i64 x.u, .int .i64 x.a, .bool x.f]
def gv (gs : List Gr) : List Value := gs.flatMap encG
theorem gv_cons (x : Gr) (r : List Gr) : gv (x :: r) = encG x ++ gv r := by simp [gv]
theorem gv_append (a b : List Gr) : gv (a ++ b) = gv a ++ gv b := by simp [gv]
theorem gv_length (gs : List Gr) : (gv gs).length = gs.length * 4 := by
  induction gs with
  | nil => rfl
  | cons x r ih => rw [gv_cons, List.length_append, ih, List.length_cons]; simp [encG]; omega
theorem gv_one (gs : List Gr) : ∀ u ∈ gv gs, u.oneCell' = true := by
  intro u hu
  simp only [gv, List.mem_flatMap] at hu
  obtain ⟨x, _, hx⟩ := hu
  simp [encG] at hx
  rcases hx with rfl | rfl | rfl | rfl <;> rfl
theorem gv_get : ∀ (gs : List Gr) (i c : Nat), i < gs.length → c < 4 → (gv gs)[i * 4 + c]? = (encG (gs.getD i default))[c]? := by
  intro gs
  induction gs with
  | nil => intro i c h; simp at h
  | cons x r ih =>
    intro i c hi hc
    have hx : (encG x).length = 4 := rfl
    rw [gv_cons]
    cases i with
    | zero =>
      rw [List.getElem?_append_left (by rw [hx]; omega)]
      simp [List.getD]
    | succ i =>
      rw [List.getElem?_append_right (by rw [hx]; omega), hx, show (i + 1) * 4 + c - 4 = i * 4 + c by omega, ih i c (by simpa using hi) hc]
      simp [List.getD]
def OwnG (w : World) (v : Value) (gs : List Gr) : Prop := w.ownsRow 0 51 4 v gs.length (gv gs)
theorem OwnG.nil (w : World) : OwnG w (.slice none 0 0) [] := World.ownsRow_nil _ _ _ _
theorem OwnG.only {S : Nat → Prop} {w w' : World} {v : Value} {gs : List Gr} (h : OwnG w v gs) (ho : Only S w w') (hs : ∀ k, v.ownBlock = some k → ¬ S k) : OwnG w' v gs := owns_only ho h hs
theorem OwnG.reads {w : World} {v : Value} {gs : List Gr} (h : OwnG w v gs) : ∃ a cap, v = .slice a gs.length cap ∧ ReadsG w a gs.length gs := by
  have h0 := h
  rcases h.2 with ⟨hv, hn⟩ | ⟨g, cap, cur, hv, hg, hh, hc, hmm, _⟩
  · exact ⟨none, 0, by rw [hv, hn], ⟨rfl, .inl hn⟩⟩
  · refine ⟨some ⟨g, 0, none⟩, cap, hv, rfl, .inr ⟨g, 0, rfl, fun i hi => ?_⟩⟩
    have h1 : w.ownsRow 0 51 4 (.slice (some ⟨g, 0, none⟩) gs.length cap) gs.length (gv gs) := by rw [← hv]; exact h0
    have e : ∀ c, c < 4 → w.cell? ⟨g, 0 + i * 4 + c, none⟩ = (encG (gs.getD i default))[c]? := fun c hc => by
      rw [Nat.zero_add, h1.cellAt (i * 4 + c) (by omega), gv_get gs i c hi hc]
    exact ⟨e 0 (by omega), e 1 (by omega), e 2 (by omega), e 3 (by omega)⟩
theorem info_rgr : (Try.prog.info? 51).map (fun i => (i.zero, i.size, i.bytes)) = some (some (.agg #[.int .i64 0, .int .i64 0, .int .i64 0, .bool false]), 4, 32) := by kernel_rfl
theorem news_gr {W : World} {g : Nat} {x : Gr} (hg : g = W.heap.size) (t : TypeId) : ∀ j u, (gv [x])[j]? = some u → (W.alloc (.cells #[.int .i64 x.g, .int .i64 x.u, .int .i64 x.a, .bool x.f] t)).cell? ((Addr.mk g 0 none).add j) = some u := by
  intro j u hu
  rw [add_none, Nat.zero_add]
  exact alloc_new _ _ _ _ _ _ hg (by rw [← List.getElem?_toArray] at hu; exact hu)
end Go.Proofs.Ytghajamcjcflaaa.tirw
namespace Go.Proofs.Ytghajamcjcflaaa.tirw
open Go.RowKit mem tirm intm bigm bigw
set_option linter.unusedVariables false

def mBad (ps : List Pl) (ws : List Int) (cr : Int) (k : Nat) : Bool := (List.range k).any fun j => decide (mEr ps ws cr j = 1)
theorem mBad_succ (ps : List Pl) (ws : List Int) (cr : Int) (k : Nat) : mBad ps ws cr (k + 1) = (mBad ps ws cr k || decide (mEr ps ws cr k = 1)) := by
  unfold mBad
  rw [List.range_succ, List.any_append]
  simp
theorem mBad_iff (ps : List Pl) (ws : List Int) (cr : Int) (k : Nat) : mBad ps ws cr k = true ↔ ∃ j, j < k ∧ mEr ps ws cr j = 1 := by
  unfold mBad
  rw [List.any_eq_true]
  constructor
  · rintro ⟨j, hj, e⟩; exact ⟨j, List.mem_range.1 hj, by simpa using e⟩
  · rintro ⟨j, hj, e⟩; exact ⟨j, List.mem_range.2 hj, by simpa using e⟩
def RManyAt (ps : List Pl) (ws : List Int) (cr : Int) (w : World) (e : Ending) (w' : World) : Prop :=
  (ManyNo ps ws ∨ ∃ k, k < ps.length ∧ mEr ps ws cr k = 1) ∧ e = .returned (.tuple #[.slice none 0 0, .int .i64 1]) ∧ Only (fun _ => False) w w'
  ∨ (¬ ManyNo ps ws ∧ ∀ k, k < ps.length → mEr ps ws cr k ≠ 1) ∧ mAny ps ws cr ps.length = false ∧ e = .returned (.tuple #[.slice none 0 0, .int .i64 9]) ∧ Only (fun _ => False) w w'
  ∨ (¬ ManyNo ps ws ∧ ∀ k, k < ps.length → mEr ps ws cr k ≠ 1) ∧ mAny ps ws cr ps.length = true ∧ (∃ ag cg, e = .returned (.tuple #[.slice ag ps.length cg, .int .i64 0]) ∧ ReadsG w' ag ps.length ((List.range ps.length).map (mGr ps ws cr))) ∧ Only (fun _ => False) w w'
set_option maxRecDepth 100000 in
set_option maxHeartbeats 20000000 in
theorem rmany_any (a : Option Addr) (len cap : Nat) (ps : List Pl) (cr : Int) (aw : Option Addr) (lw cw : Nat) (ws : List Int) (w : World) (h : ReadsP w a len ps) (ht : ∀ i, i < len → ((ps.getD i default).n1 ≤ 1000 ∧ (ps.getD i default).n2 ≤ 1000) ∧ ReadsT w (ps.getD i default).a1 (ps.getD i default).n1 (ps.getD i default).t1 ∧ ReadsT w (ps.getD i default).a2 (ps.getD i default).n2 (ps.getD i default).t2) (hw : ReadsI w aw lw ws) (hcr : InI cr) :
    Calls Try.prog 17 #[.slice a len cap, .int .i64 cr, .slice aw lw cw] w (RManyAt ps ws cr w) := by
  obtain ⟨i0, hi, hz0, hz1, hz2⟩ := info_parts info_rgr
  have H := Lib.hid h
  have HT := Lib.hid ht
  have HWS := Lib.hid hw
  have hm := h.2.1
  have hmw := hw.2.1
  unfold maxLen at hmw
  have HL : Hid (ps.length = len ∧ ws.length = lw) := Lib.hid ⟨h.1, hw.1⟩
  have HCI := Lib.hid (mCr_in ps ws cr hcr)
  obtain ⟨Q, hQ⟩ : ∃ Q, RManyAt ps ws cr w = Q := ⟨_, rfl⟩
  rw [hQ]
  have HQ1 : Hid (∀ w', (ManyNo ps ws ∨ ∃ k, k < len ∧ mEr ps ws cr k = 1) → Only (fun _ => False) w w' → Q (.returned (.tuple #[.slice none 0 0, .int .i64 1])) w') := Lib.hid (fun w' h1 h2 => by rw [← hQ]; exact .inl ⟨by rw [HL.out.1]; exact h1, rfl, h2⟩)
  have HQ2 : Hid (∀ w', ¬ ManyNo ps ws → (∀ k, k < len → mEr ps ws cr k ≠ 1) → mAny ps ws cr len = false → Only (fun _ => False) w w' → Q (.returned (.tuple #[.slice none 0 0, .int .i64 9])) w') := Lib.hid (fun w' h1 h2 h3 h4 => by rw [← hQ]; exact .inr (.inl ⟨⟨h1, by rw [HL.out.1]; exact h2⟩, by rw [HL.out.1]; exact h3, rfl, h4⟩))
  have HQ3 : Hid (∀ ag cg w', ¬ ManyNo ps ws → (∀ k, k < len → mEr ps ws cr k ≠ 1) → mAny ps ws cr len = true → ReadsG w' ag len ((List.range len).map (mGr ps ws cr)) → Only (fun _ => False) w w' → Q (.returned (.tuple #[.slice ag len cg, .int .i64 0])) w') := Lib.hid (fun ag cg w' h1 h2 h3 h4 h6 => by
    rw [← hQ]
    refine .inr (.inr ⟨⟨h1, by rw [HL.out.1]; exact h2⟩, by rw [HL.out.1]; exact h3, ⟨ag, cg, ?_, ?_⟩, h6⟩)
    · rw [HL.out.1]
    · rw [HL.out.1]; exact h4)
  have HNO : Hid (len < 1 ∨ 4 < len ∨ len ≠ lw ∨ ¬ Unl ps → ManyNo ps ws) := Lib.hid (fun e => by unfold ManyNo; rw [HL.out.1, HL.out.2]; exact e)
  have HNN : Hid (¬ (len < 1) → ¬ (4 < len) → ¬ (len ≠ lw) → Unl ps → ¬ ManyNo ps ws) := Lib.hid (fun e1 e2 e3 e4 => by
    unfold ManyNo
    rw [HL.out.1, HL.out.2]
    rintro (e | e | e | e)
    · exact e1 e
    · exact e2 e
    · exact e3 e
    · exact e e4)
  clear h ht hw hcr hQ
  by_cases h1 : len < 1
  · have HF := Lib.hid (HQ1.out w (.inl (HNO.out (.inl h1))) (Only.refl _ _))
    have h1' : (len : Int) < 1 := by omega
    go_enter Try.func17, Try.ntmps17
    go_wp2_with fail
    exact HF.out
  by_cases h2 : 4 < len
  · have HF := Lib.hid (HQ1.out w (.inl (HNO.out (.inr (.inl h2)))) (Only.refl _ _))
    have h1' : ¬ (len : Int) < 1 := by omega
    have h2' : (4 : Int) < (len : Int) := by omega
    go_enter Try.func17, Try.ntmps17
    go_wp2_with fail
    exact HF.out
  by_cases h3 : len ≠ lw
  · have HF := Lib.hid (HQ1.out w (.inl (HNO.out (.inr (.inr (.inl h3))))) (Only.refl _ _))
    have h1' : ¬ (len : Int) < 1 := by omega
    have h2' : ¬ (4 : Int) < (len : Int) := by omega
    have h3' : ((len : Int) != (lw : Int)) = true := by rw [bne_iff_ne]; omega
    go_enter Try.func17, Try.ntmps17
    go_wp2_with fail
    exact HF.out
  have h3e : lw = len := by omega
  subst h3e
  have h1' : ¬ (lw : Int) < 1 := by omega
  have h2' : ¬ (4 : Int) < (lw : Int) := by omega
  have h3' : ((lw : Int) != (lw : Int)) = false := by simp
  have HNM := Lib.hid (fun u => HNN.out h1 h2 h3 u)
  have HNU := Lib.hid (fun u => HNO.out (.inr (.inr (.inr u))))
  have h1n : 0 < lw := by omega
  clear h1 h2 h3 HNO HNN
  go_enter Try.func17, Try.ntmps17
  go_wp2_with fail
  go_loopw [8] (fun iv wr => ∃ i : Nat, i ≤ lw ∧ iv = .int .i64 i ∧ Hid (∀ x, x < i → ∀ j, j < x → (ps.getD j default).G1 ≠ (ps.getD x default).G1) ∧ Hid (Only (fun _ => False) w wr)) (fun iv _ => lw - (intOf iv).toNat)
  case atStart => exact ⟨0, by omega, rfl, Lib.hid (fun x hx => by omega), Lib.hid (Only.refl _ _)⟩
  case round =>
    obtain ⟨i, hi', rfl, HUP, HO⟩ := hrel
    by_cases h8 : i < lw
    · obtain ⟨b, off, rfl, hcell⟩ := H.out.2.2.resolve_left (by omega)
      have HCL := Lib.hid hcell
      clear hcell
      go_wp2_with fail
      go_loopw [9] (fun jv wz => ∃ j : Nat, j ≤ i ∧ jv = .int .i64 j ∧ Hid (∀ x, x < j → (ps.getD x default).G1 ≠ (ps.getD i default).G1) ∧ Hid (Only (fun _ => False) w wz)) (fun jv _ => i - (intOf jv).toNat)
      case atStart => exact ⟨0, by omega, rfl, Lib.hid (fun x hx => by omega), HO⟩
      case round =>
        obtain ⟨j, hj', rfl, HUJ, HOJ⟩ := hrel
        by_cases h9 : j < i
        · have gi : _ = _ := ((HCL.out i h8).only HOJ.out (fun f => f)).2.2.2.1
          have gj : _ = _ := ((HCL.out j (by omega)).only HOJ.out (fun f => f)).2.2.2.1
          have i0' : (0 : Int) ≤ i := by omega
          have il : (i : Int) < lw := by omega
          have j0' : (0 : Int) ≤ j := by omega
          have jl : (j : Int) < lw := by omega
          have ji : (j : Int) < i := by omega
          have HFJ := Lib.hid (fun w' e => HQ1.out w' (.inl (HNU.out (fun u : Unl ps => u i (by rw [HL.out.1]; exact h8) j h9 e))))
          by_cases hx : (ps.getD j default).G1 = (ps.getD i default).G1
          · have hb : ((ps.getD i default).G1 == (ps.getD j default).G1) = true := by simpa using hx.symm
            have HFF := Lib.hid (fun w' ho => HFJ.out w' hx ho)
            clear hx HFJ
            generalize (ps.getD i default).G1 = g1 at *
            generalize (ps.getD j default).G1 = g2 at *
            go_wp2_with fail
            rename World => wz
            refine wp_region_noPanic ?_
            refine wp_region_held_drew (S := (fun w' => w'.cell? ⟨b, off + i * 11 + 3, none⟩ = some (.int .i64 g1) ∧ w'.cell? ⟨b, off + j * 11 + 3, none⟩ = some (.int .i64 g2))) (by kernel_rfl) (⟨gi, gj⟩) (fun hHeld => ?_)
            refine wpAnyH_take (i := 0) (v := ?_) rfl (by kernel_rfl) (by kernel_rfl) (by kernel_rfl) (fun _ _ _ h => h) (Or.inl ⟨by rfl, ?_⟩) (by assumption) ?_
            rotate_left 1
            · intro w' hSw
              try dsimp only at hSw
              go_simp
              try with_reducible rfl
            try simp only [List.getElem_toArray, List.getElem_cons_zero, Act.put, List.setIfInBounds_toArray, List.set_cons_zero, List.set_cons_succ]
            refine wpAnyH_take (i := 1) (v := ?_) rfl (by kernel_rfl) (by kernel_rfl) (by kernel_rfl) (fun _ _ _ h => h) (Or.inl ⟨by rfl, ?_⟩) (by assumption) ?_
            rotate_left 1
            · intro w' hSw
              try dsimp only at hSw
              go_simp
              try with_reducible rfl
            try simp only [List.getElem_toArray, List.getElem_cons_zero, List.getElem_cons_succ, Act.put, List.setIfInBounds_toArray, List.set_cons_zero, List.set_cons_succ]
            refine wpAnyH_take (i := 2) (v := ?_) rfl (by kernel_rfl) (by kernel_rfl) (by kernel_rfl) (fun _ _ _ h => h) (Or.inl ⟨by rfl, ?_⟩) (by assumption) ?_
            rotate_left 1
            · intro w' hSw
              try dsimp only at hSw
              go_simp
              try with_reducible rfl
            try simp only [List.getElem_toArray, List.getElem_cons_zero, List.getElem_cons_succ, Act.put, List.setIfInBounds_toArray, List.set_cons_zero, List.set_cons_succ]
            refine wpAnyH_take (i := 3) (v := ?_) rfl (by kernel_rfl) (by kernel_rfl) (by kernel_rfl) (fun _ _ _ h => h) (Or.inl ⟨by rfl, ?_⟩) (by assumption) ?_
            rotate_left 1
            · intro w' hSw
              try dsimp only at hSw
              go_simp
              try with_reducible rfl
            try simp only [List.getElem_toArray, List.getElem_cons_zero, List.getElem_cons_succ, Act.put, List.setIfInBounds_toArray, List.set_cons_zero, List.set_cons_succ]
            refine wpAnyH_take (i := 4) (v := ?_) rfl (by kernel_rfl) (by kernel_rfl) (by kernel_rfl) (fun _ _ _ h => h) (Or.inl ⟨by rfl, ?_⟩) (by assumption) ?_
            rotate_left 1
            · intro w' hSw
              try dsimp only at hSw
              go_simp
              try with_reducible rfl
            try simp only [List.getElem_toArray, List.getElem_cons_zero, List.getElem_cons_succ, Act.put, List.setIfInBounds_toArray, List.set_cons_zero, List.set_cons_succ]
            refine wpAnyH_take (i := 5) (v := ?_) rfl (by kernel_rfl) (by kernel_rfl) (by kernel_rfl) (fun _ _ _ h => h) (Or.inl ⟨by rfl, ?_⟩) (by assumption) ?_
            rotate_left 1
            · intro w' hSw
              try dsimp only at hSw
              go_simp
              try with_reducible rfl
            try simp only [List.getElem_toArray, List.getElem_cons_zero, List.getElem_cons_succ, Act.put, List.setIfInBounds_toArray, List.set_cons_zero, List.set_cons_succ]
            refine wpAnyH_take (i := 6) (v := ?_) rfl (by kernel_rfl) (by kernel_rfl) (by kernel_rfl) (fun _ _ _ h => h) (Or.inl ⟨by rfl, ?_⟩) (by assumption) ?_
            rotate_left 1
            · intro w' hSw
              try dsimp only at hSw
              go_simp
              try with_reducible rfl
            try simp only [List.getElem_toArray, List.getElem_cons_zero, List.getElem_cons_succ, Act.put, List.setIfInBounds_toArray, List.set_cons_zero, List.set_cons_succ]
            refine wpAnyH_take (i := 7) (v := ?_) rfl (by kernel_rfl) (by kernel_rfl) (by kernel_rfl) (fun _ _ _ h => h) (Or.inl ⟨by rfl, ?_⟩) (by assumption) ?_
            rotate_left 1
            · intro w' hSw
              try dsimp only at hSw
              go_simp
              try with_reducible rfl
            try simp only [List.getElem_toArray, List.getElem_cons_zero, List.getElem_cons_succ, Act.put, List.setIfInBounds_toArray, List.set_cons_zero, List.set_cons_succ]
            refine wpAnyH_take (i := 8) (v := ?_) rfl (by kernel_rfl) (by kernel_rfl) (by kernel_rfl) (fun _ _ _ h => h) (Or.inl ⟨by rfl, ?_⟩) (by assumption) ?_
            rotate_left 1
            · intro w' hSw
              try dsimp only at hSw
              go_simp
              try with_reducible rfl
            try simp only [List.getElem_toArray, List.getElem_cons_zero, List.getElem_cons_succ, Act.put, List.setIfInBounds_toArray, List.set_cons_zero, List.set_cons_succ]
            refine wpAnyH_take (i := 9) (v := ?_) rfl (by kernel_rfl) (by kernel_rfl) (by kernel_rfl) (fun _ _ _ h => h) (Or.inl ⟨by rfl, ?_⟩) (by assumption) ?_
            rotate_left 1
            · intro w' hSw
              try dsimp only at hSw
              go_simp
              try with_reducible rfl
            try simp only [List.getElem_toArray, List.getElem_cons_zero, List.getElem_cons_succ, Act.put, List.setIfInBounds_toArray, List.set_cons_zero, List.set_cons_succ]
            refine wpAnyH_take (i := 10) (v := ?_) rfl (by kernel_rfl) (by kernel_rfl) (by kernel_rfl) (fun _ _ _ h => h) (Or.inl ⟨by rfl, ?_⟩) (by assumption) ?_
            rotate_left 1
            · intro w' hSw
              try dsimp only at hSw
              go_simp
              try with_reducible rfl
            try simp only [List.getElem_toArray, List.getElem_cons_zero, List.getElem_cons_succ, Act.put, List.setIfInBounds_toArray, List.set_cons_zero, List.set_cons_succ]
            refine wpAnyH_take (i := 11) (v := ?_) rfl (by kernel_rfl) (by kernel_rfl) (by kernel_rfl) (fun _ _ _ h => h) (Or.inl ⟨by rfl, ?_⟩) (by assumption) ?_
            rotate_left 1
            · intro w' hSw
              try dsimp only at hSw
              go_simp
              try with_reducible rfl
            try simp only [List.getElem_toArray, List.getElem_cons_zero, List.getElem_cons_succ, Act.put, List.setIfInBounds_toArray, List.set_cons_zero, List.set_cons_succ]
            refine wpAnyH_take (i := 12) (v := ?_) rfl (by kernel_rfl) (by kernel_rfl) (by kernel_rfl) (fun _ _ _ h => h) (Or.inl ⟨by rfl, ?_⟩) (by assumption) ?_
            rotate_left 1
            · intro w' hSw
              try dsimp only at hSw
              go_simp
              try with_reducible rfl
            try simp only [List.getElem_toArray, List.getElem_cons_zero, List.getElem_cons_succ, Act.put, List.setIfInBounds_toArray, List.set_cons_zero, List.set_cons_succ]
            refine wpAnyH_done (by kernel_rfl) ?_ _
            refine NoPanic.normal ?_
            go_wp2_with fail
            exact HFF.out _ HOJ.out.drew
          · have hb : ((ps.getD i default).G1 == (ps.getD j default).G1) = false := by simpa using fun e => hx e.symm
            have HUN2 : Hid (∀ x, x < j + 1 → (ps.getD x default).G1 ≠ (ps.getD i default).G1) := Lib.hid (fun x hxj => by
              by_cases e : x = j
              · subst e; exact hx
              · exact HUJ.out x (by omega))
            clear hx HFJ
            generalize hg1 : (ps.getD i default).G1 = g1 at gi hb
            generalize hg2 : (ps.getD j default).G1 = g2 at gj hb
            have HG1 := Lib.hid hg1
            clear hg1 hg2
            go_wp2_with fail
            rename World => wz
            refine wp_region_noPanic ?_
            refine wp_region_held_drew (S := (fun w' => w'.cell? ⟨b, off + i * 11 + 3, none⟩ = some (.int .i64 g1) ∧ w'.cell? ⟨b, off + j * 11 + 3, none⟩ = some (.int .i64 g2))) (by kernel_rfl) (⟨gi, gj⟩) (fun hHeld => ?_)
            refine wpAnyH_take (i := 0) (v := ?_) rfl (by kernel_rfl) (by kernel_rfl) (by kernel_rfl) (fun _ _ _ h => h) (Or.inl ⟨by rfl, ?_⟩) (by assumption) ?_
            rotate_left 1
            · intro w' hSw
              try dsimp only at hSw
              go_simp
              try with_reducible rfl
            try simp only [List.getElem_toArray, List.getElem_cons_zero, Act.put, List.setIfInBounds_toArray, List.set_cons_zero, List.set_cons_succ]
            refine wpAnyH_take (i := 1) (v := ?_) rfl (by kernel_rfl) (by kernel_rfl) (by kernel_rfl) (fun _ _ _ h => h) (Or.inl ⟨by rfl, ?_⟩) (by assumption) ?_
            rotate_left 1
            · intro w' hSw
              try dsimp only at hSw
              go_simp
              try with_reducible rfl
            try simp only [List.getElem_toArray, List.getElem_cons_zero, List.getElem_cons_succ, Act.put, List.setIfInBounds_toArray, List.set_cons_zero, List.set_cons_succ]
            refine wpAnyH_take (i := 2) (v := ?_) rfl (by kernel_rfl) (by kernel_rfl) (by kernel_rfl) (fun _ _ _ h => h) (Or.inl ⟨by rfl, ?_⟩) (by assumption) ?_
            rotate_left 1
            · intro w' hSw
              try dsimp only at hSw
              go_simp
              try with_reducible rfl
            try simp only [List.getElem_toArray, List.getElem_cons_zero, List.getElem_cons_succ, Act.put, List.setIfInBounds_toArray, List.set_cons_zero, List.set_cons_succ]
            refine wpAnyH_take (i := 3) (v := ?_) rfl (by kernel_rfl) (by kernel_rfl) (by kernel_rfl) (fun _ _ _ h => h) (Or.inl ⟨by rfl, ?_⟩) (by assumption) ?_
            rotate_left 1
            · intro w' hSw
              try dsimp only at hSw
              go_simp
              try with_reducible rfl
            try simp only [List.getElem_toArray, List.getElem_cons_zero, List.getElem_cons_succ, Act.put, List.setIfInBounds_toArray, List.set_cons_zero, List.set_cons_succ]
            refine wpAnyH_take (i := 4) (v := ?_) rfl (by kernel_rfl) (by kernel_rfl) (by kernel_rfl) (fun _ _ _ h => h) (Or.inl ⟨by rfl, ?_⟩) (by assumption) ?_
            rotate_left 1
            · intro w' hSw
              try dsimp only at hSw
              go_simp
              try with_reducible rfl
            try simp only [List.getElem_toArray, List.getElem_cons_zero, List.getElem_cons_succ, Act.put, List.setIfInBounds_toArray, List.set_cons_zero, List.set_cons_succ]
            refine wpAnyH_take (i := 5) (v := ?_) rfl (by kernel_rfl) (by kernel_rfl) (by kernel_rfl) (fun _ _ _ h => h) (Or.inl ⟨by rfl, ?_⟩) (by assumption) ?_
            rotate_left 1
            · intro w' hSw
              try dsimp only at hSw
              go_simp
              try with_reducible rfl
            try simp only [List.getElem_toArray, List.getElem_cons_zero, List.getElem_cons_succ, Act.put, List.setIfInBounds_toArray, List.set_cons_zero, List.set_cons_succ]
            refine wpAnyH_take (i := 6) (v := ?_) rfl (by kernel_rfl) (by kernel_rfl) (by kernel_rfl) (fun _ _ _ h => h) (Or.inl ⟨by rfl, ?_⟩) (by assumption) ?_
            rotate_left 1
            · intro w' hSw
              try dsimp only at hSw
              go_simp
              try with_reducible rfl
            try simp only [List.getElem_toArray, List.getElem_cons_zero, List.getElem_cons_succ, Act.put, List.setIfInBounds_toArray, List.set_cons_zero, List.set_cons_succ]
            refine wpAnyH_take (i := 7) (v := ?_) rfl (by kernel_rfl) (by kernel_rfl) (by kernel_rfl) (fun _ _ _ h => h) (Or.inl ⟨by rfl, ?_⟩) (by assumption) ?_
            rotate_left 1
            · intro w' hSw
              try dsimp only at hSw
              go_simp
              try with_reducible rfl
            try simp only [List.getElem_toArray, List.getElem_cons_zero, List.getElem_cons_succ, Act.put, List.setIfInBounds_toArray, List.set_cons_zero, List.set_cons_succ]
            refine wpAnyH_take (i := 8) (v := ?_) rfl (by kernel_rfl) (by kernel_rfl) (by kernel_rfl) (fun _ _ _ h => h) (Or.inl ⟨by rfl, ?_⟩) (by assumption) ?_
            rotate_left 1
            · intro w' hSw
              try dsimp only at hSw
              go_simp
              try with_reducible rfl
            try simp only [List.getElem_toArray, List.getElem_cons_zero, List.getElem_cons_succ, Act.put, List.setIfInBounds_toArray, List.set_cons_zero, List.set_cons_succ]
            refine wpAnyH_take (i := 9) (v := ?_) rfl (by kernel_rfl) (by kernel_rfl) (by kernel_rfl) (fun _ _ _ h => h) (Or.inl ⟨by rfl, ?_⟩) (by assumption) ?_
            rotate_left 1
            · intro w' hSw
              try dsimp only at hSw
              go_simp
              try with_reducible rfl
            try simp only [List.getElem_toArray, List.getElem_cons_zero, List.getElem_cons_succ, Act.put, List.setIfInBounds_toArray, List.set_cons_zero, List.set_cons_succ]
            refine wpAnyH_take (i := 10) (v := ?_) rfl (by kernel_rfl) (by kernel_rfl) (by kernel_rfl) (fun _ _ _ h => h) (Or.inl ⟨by rfl, ?_⟩) (by assumption) ?_
            rotate_left 1
            · intro w' hSw
              try dsimp only at hSw
              go_simp
              try with_reducible rfl
            try simp only [List.getElem_toArray, List.getElem_cons_zero, List.getElem_cons_succ, Act.put, List.setIfInBounds_toArray, List.set_cons_zero, List.set_cons_succ]
            refine wpAnyH_take (i := 11) (v := ?_) rfl (by kernel_rfl) (by kernel_rfl) (by kernel_rfl) (fun _ _ _ h => h) (Or.inl ⟨by rfl, ?_⟩) (by assumption) ?_
            rotate_left 1
            · intro w' hSw
              try dsimp only at hSw
              go_simp
              try with_reducible rfl
            try simp only [List.getElem_toArray, List.getElem_cons_zero, List.getElem_cons_succ, Act.put, List.setIfInBounds_toArray, List.set_cons_zero, List.set_cons_succ]
            refine wpAnyH_take (i := 12) (v := ?_) rfl (by kernel_rfl) (by kernel_rfl) (by kernel_rfl) (fun _ _ _ h => h) (Or.inl ⟨by rfl, ?_⟩) (by assumption) ?_
            rotate_left 1
            · intro w' hSw
              try dsimp only at hSw
              go_simp
              try with_reducible rfl
            try simp only [List.getElem_toArray, List.getElem_cons_zero, List.getElem_cons_succ, Act.put, List.setIfInBounds_toArray, List.set_cons_zero, List.set_cons_succ]
            refine wpAnyH_done (by kernel_rfl) ?_ _
            refine NoPanic.normal ?_
            go_wp2_with fail
            go_roundw
            case rel => (obtain rfl := HG1.out); exact ⟨j + 1, by omega, by go_num, HUN2, Lib.hid HOJ.out.drew⟩
            case measure => simp [intOf]; omega
        · obtain rfl : j = i := by omega
          have HUP2 : Hid (∀ x, x < j + 1 → ∀ y, y < x → (ps.getD y default).G1 ≠ (ps.getD x default).G1) := Lib.hid (fun x hx y hy => by
            by_cases e : x = j
            · subst e; exact HUJ.out y hy
            · exact HUP.out x (by omega) y hy)
          go_wp2_with fail
          go_roundw
          case rel => exact ⟨j + 1, by omega, by go_num, HUP2, HOJ⟩
          case measure => simp [intOf]; omega
    · obtain rfl : i = lw := by omega
      have HNN2 := Lib.hid (HNM.out (fun x hx => HUP.out x (by rw [HL.out.1] at hx; exact hx)))
      have HOU := HO
      clear HUP HNU HNM HO
      rename World => wu
      go_wp2_with fail
      go_loopw [1, 10, 11, 12, 13] (fun cv rv sv bv iv wr => ∃ (k : Nat) (c : Int) (v : Value) (b1 b2 : Bool) (gs : List Gr), k ≤ i ∧ iv = .int .i64 k ∧ cv = .int .i64 c ∧ v = rv ∧ sv = .bool b1 ∧ bv = .bool b2 ∧ gs.length = k ∧ Hid (mCr ps ws cr k = c) ∧ Hid (mAny ps ws cr k = b1) ∧ Hid (mBad ps ws cr k = b2) ∧ Hid (gs = (List.range k).map (mGr ps ws cr)) ∧ Hid (OwnG wr v gs) ∧ Hid (∀ q, v.ownBlock = some q → w.heap.size ≤ q) ∧ Hid (Only (fun _ => False) w wr)) (fun _ _ _ _ iv _ => i - (intOf iv).toNat)
      case atStart => exact ⟨0, cr, _, false, false, [], by omega, rfl, rfl, rfl, rfl, rfl, rfl, Lib.hid rfl, Lib.hid rfl, Lib.hid rfl, Lib.hid rfl, Lib.hid (OwnG.nil _), Lib.hid (fun q e => by cases e), HOU⟩
      case round =>
        obtain ⟨k, c, v, b1, b2, gs, hk, rfl, rfl, rfl, rfl, rfl, hgl, HC, HAN, HBD, HGS, HOW, HBK, HO⟩ := hrel
        by_cases h8 : k < i
        · obtain ⟨b, off, rfl, hcell⟩ := H.out.2.2.resolve_left (by omega)
          obtain ⟨bw, ow, rfl, hwc⟩ := HWS.out.2.2.2.resolve_left (by omega)
          obtain ⟨c0, c1, c2, c3, c4, c5, c6, c7, c8, c9, c10⟩ := (hcell k h8).only HO.out (fun f => f)
          have wk0 := HO.out.cell' (hwc k h8) (fun f => f)
          have HTT := Lib.hid (HT.out k h8)
          have HCN : Hid (mCr ps ws cr (k + 1) = c - (mGr ps ws cr k).a) := Lib.hid (by
            show mCr ps ws cr k - _ = _
            rw [← HC.out]; rfl)
          have HAN2 : Hid (mAny ps ws cr (k + 1) = (b1 || decide (mEr ps ws cr k = 0))) := Lib.hid (by rw [mAny_succ, HAN.out])
          have HBN2 : Hid (mBad ps ws cr (k + 1) = (b2 || decide (mEr ps ws cr k = 1))) := Lib.hid (by rw [mBad_succ, HBD.out])
          have HGN : Hid (gs ++ [mGr ps ws cr k] = (List.range (k + 1)).map (mGr ps ws cr)) := Lib.hid (by rw [HGS.out, List.range_succ, List.map_append]; rfl)
          have HGK : Hid (mGr ps ws cr k = gr1 (ps.getD k default) c (ws.getD k 0)) := Lib.hid (by unfold mGr; rw [HC.out])
          have HEK : Hid (mEr ps ws cr k = pE (ps.getD k default) c (ws.getD k 0)) := Lib.hid (by unfold mEr; rw [HC.out])
          have HPC := Lib.hid (pE_cases (ps.getD k default) c (ws.getD k 0))
          have HGL : Hid (gs.length = k) := Lib.hid hgl
          unfold gr1 at HGK
          unfold pE at HGK HEK HPC
          have hk0 : (0 : Int) ≤ k := by omega
          have hkl : (k : Int) < i := by omega
          generalize mGr ps ws cr k = mg at *
          obtain ⟨me, hme⟩ : ∃ m, mEr ps ws cr k = m := ⟨_, rfl⟩
          rw [hme] at HEK HAN2 HBN2
          clear hme hgl
          generalize ws.getD k 0 = wk at *
          generalize ps.getD k default = p at *
          obtain ⟨D, F, T, G1, M1, B1, G2, M2, B2, a1, a2, n1, n2, c1', c2', t1, t2⟩ := p
          dsimp only at c0 c1 c2 c3 c4 c5 c6 c7 c8 c9 c10 HTT HPC HGK HEK
          have HMK : Hid (∀ w', Only (fun _ => False) wr w' → Calls Try.prog 39 #[.agg #[.int .i64 D, .int .i64 F, .int .i64 T, .int .i64 G1, .int .i64 M1, .int .i64 B1, .slice a1 n1 c1', .int .i64 G2, .int .i64 M2, .int .i64 B2, .slice a2 n2 c2'], .int .i64 c, .int .i64 wk] w' fun e w'' => e = .returned (.tuple #[(mkG D F T G1 M1 B1 G2 M2 B2 t1 t2 c wk).val, .int .i64 (mkE D F T G1 M1 B1 G2 M2 B2 t1 t2 c wk)]) ∧ Only (fun _ => False) w' w'') := Lib.hid (fun w' ho => rmake_any D F T G1 M1 B1 G2 M2 B2 a1 a2 n1 n2 c1' c2' t1 t2 c wk w' (HTT.out.2.1.only (HO.out.trans ho) (fun _ _ f => f)) (HTT.out.2.2.only (HO.out.trans ho) (fun _ _ f => f)) HTT.out.1)
          have HMZ : Hid (mkE D F T G1 M1 B1 G2 M2 B2 t1 t2 c wk = 1 → mkG D F T G1 M1 B1 G2 M2 B2 t1 t2 c wk = Gr0) := Lib.hid (fun e => by
            rcases mk_cases D F T G1 M1 B1 G2 M2 B2 t1 t2 c wk with h | h
            · exact h.2
            · rw [e] at h; exact absurd h.1 (by decide))
          generalize mkG D F T G1 M1 B1 G2 M2 B2 t1 t2 c wk = xg at *
          generalize mkE D F T G1 M1 B1 G2 M2 B2 t1 t2 c wk = xe at *
          obtain ⟨gg, gu, ga, gf⟩ := xg
          have HMK : Hid (∀ w', Only (fun _ => False) wr w' → Calls Try.prog 39 #[.agg #[.int .i64 D, .int .i64 F, .int .i64 T, .int .i64 G1, .int .i64 M1, .int .i64 B1, .slice a1 n1 c1', .int .i64 G2, .int .i64 M2, .int .i64 B2, .slice a2 n2 c2'], .int .i64 c, .int .i64 wk] w' fun e w'' => e = .returned (.tuple #[.agg #[.int .i64 gg, .int .i64 gu, .int .i64 ga, .bool gf], .int .i64 xe]) ∧ Only (fun _ => False) w' w'') := HMK
          have HS : Hid (∀ w', Only (fun _ => False) wr w' → Only (fun _ => False) wr w' ∧ w'.cell? ⟨b, off + k * 11, none⟩ = some (.int .i64 D) ∧ w'.cell? ⟨b, off + k * 11 + 1, none⟩ = some (.int .i64 F) ∧ w'.cell? ⟨b, off + k * 11 + 2, none⟩ = some (.int .i64 T) ∧ w'.cell? ⟨b, off + k * 11 + 3, none⟩ = some (.int .i64 G1) ∧ w'.cell? ⟨b, off + k * 11 + 4, none⟩ = some (.int .i64 M1) ∧ w'.cell? ⟨b, off + k * 11 + 5, none⟩ = some (.int .i64 B1) ∧ w'.cell? ⟨b, off + k * 11 + 6, none⟩ = some (.slice a1 n1 c1') ∧ w'.cell? ⟨b, off + k * 11 + 7, none⟩ = some (.int .i64 G2) ∧ w'.cell? ⟨b, off + k * 11 + 8, none⟩ = some (.int .i64 M2) ∧ w'.cell? ⟨b, off + k * 11 + 9, none⟩ = some (.int .i64 B2) ∧ w'.cell? ⟨b, off + k * 11 + 10, none⟩ = some (.slice a2 n2 c2') ∧ w'.cell? ⟨bw, ow + k, none⟩ = some (.int .i64 wk)) := Lib.hid (fun w' ho =>
            ⟨ho, ho.cell' c0 (fun f => f), ho.cell' c1 (fun f => f), ho.cell' c2 (fun f => f), ho.cell' c3 (fun f => f), ho.cell' c4 (fun f => f), ho.cell' c5 (fun f => f), ho.cell' c6 (fun f => f), ho.cell' c7 (fun f => f), ho.cell' c8 (fun f => f), ho.cell' c9 (fun f => f), ho.cell' c10 (fun f => f), ho.cell' wk0 (fun f => f)⟩)
          have HNEW : Hid (∀ (W W' : World), Only (fun _ => False) ((W.alloc (.cells #[.int .i64 0, .int .i64 0, .int .i64 0, .bool false] 51)).drew) W' → BoxV W' W.heap.size zerosG) := Lib.hid (fun W W' ho => (BoxV.new W zerosG _ _ rfl).only ((Only.refl (fun _ => False) _).drew.trans ho) (fun f => f))
          have HNEW2 : Hid (∀ (W W' : World), Only (fun _ => False) (W.alloc (.cells #[.int .i64 0, .int .i64 0, .int .i64 0, .bool false] 51)) W' → BoxV W' W.heap.size zerosG) := Lib.hid (fun W W' ho => (BoxV.new W zerosG _ _ rfl).only ho (fun f => f))
          have C3 := Lib.hid c3
          clear hcell hwc
          go_wp2_with fail
          clear c0 c1 c2 c3 c4 c5 c6 c7 c8 c9 c10
          go_region_held3 (fun w' => Only (fun _ => False) wr w' ∧ w'.cell? ⟨b, off + k * 11, none⟩ = some (.int .i64 D) ∧ w'.cell? ⟨b, off + k * 11 + 1, none⟩ = some (.int .i64 F) ∧ w'.cell? ⟨b, off + k * 11 + 2, none⟩ = some (.int .i64 T) ∧ w'.cell? ⟨b, off + k * 11 + 3, none⟩ = some (.int .i64 G1) ∧ w'.cell? ⟨b, off + k * 11 + 4, none⟩ = some (.int .i64 M1) ∧ w'.cell? ⟨b, off + k * 11 + 5, none⟩ = some (.int .i64 B1) ∧ w'.cell? ⟨b, off + k * 11 + 6, none⟩ = some (.slice a1 n1 c1') ∧ w'.cell? ⟨b, off + k * 11 + 7, none⟩ = some (.int .i64 G2) ∧ w'.cell? ⟨b, off + k * 11 + 8, none⟩ = some (.int .i64 M2) ∧ w'.cell? ⟨b, off + k * 11 + 9, none⟩ = some (.int .i64 B2) ∧ w'.cell? ⟨b, off + k * 11 + 10, none⟩ = some (.slice a2 n2 c2') ∧ w'.cell? ⟨bw, ow + k, none⟩ = some (.int .i64 wk))
            ((refine HS.out _ ?_; first | with_reducible exact Only.refl _ _ | with_reducible exact (Only.refl _ _).drew | with_reducible exact (Only.refl _ _).alloc _ | with_reducible exact ((Only.refl _ _).alloc _).drew | with_reducible exact ((Only.refl _ _).drew).alloc _ | with_reducible exact hot.out.alloc _ | with_reducible exact hot.out | exact puts_only _ [.int .i64 gg, .int .i64 gu, .int .i64 ga, .bool gf] 0 wr _ hot.out (.inr (by first | exact Nat.le_refl _ | assumption))))
            ((go_at_call 39; (with_reducible refine (HMK.out _ (by go_split_ands; assumption)).mono ?_); rintro _ wn ⟨rfl, ho⟩; have hot := Lib.hid (show Only (fun _ => False) wr wn from by go_split_ands; exact Only.trans (by assumption) ho); (try (with_reducible have hbx := HNEW.out _ _ ho)); (try (with_reducible have hbx := HNEW2.out _ _ ho)); (try (obtain ⟨⟨z0, z1, z2, z3⟩, y0, y1, y2, y3⟩ := hbx.gz))))
          all_goals
            first
            | (obtain ⟨q, W3, hqq, hb, hoW, hq9, hW⟩ := gbox_put hbx hot.out (by first | exact Nat.le_refl _ | assumption) (.int .i64 gg) (.int .i64 gu) (.int .i64 ga) (.bool gf)
               rw [hqq, ← hW])
            | (obtain ⟨q, W3, hqq, hb, hoW, hq9, hW⟩ := gbox_new hot.out (.int .i64 gg) (.int .i64 gu) (.int .i64 ga) (.bool gf) 51
               rw [hqq, ← hW])
            clear hW hqq
            have HGB := Lib.hid hb
            have K3 := Lib.hid hoW
            have HQ9 := Lib.hid hq9
            have p3 := hoW.cell' C3.out (fun f => f)
            try clear hbx z0 z1 z2 z3 y0 y1 y2 y3
            clear ho hot hb hoW hq9
            rcases HPC.out with e | e | e
            · subst e
              have hge := HGK.out
              rw [if_neg (by decide)] at hge
              subst hge
              have hmz := HEK.out
              subst hmz
              have hb3 := HGB.out
              have g0 := (hb3 0 _ rfl).1; have g1 := (hb3 1 _ rfl).1; have g2 := (hb3 2 _ rfl).1; have g3 := (hb3 3 _ rfl).1
              have hcn := HCN.out
              dsimp only at hcn
              have HCN2 := Lib.hid hcn
              have hci := (HCI.out (k + 1)).1
              rw [hcn] at hci
              have v1 : IntKind.i64.wrap (c - ga) = c - ga := by unfold InI at hci; rw [wrap_i64]; omega
              have v2 : wrap64 (c - ga) = c - ga := by unfold InI at hci; rw [wrap64_eq]; omega
              have HA3 : Hid (mAny ps ws cr (k + 1) = true) := Lib.hid (by rw [HAN2.out]; simp)
              have HB3 : Hid (mBad ps ws cr (k + 1) = b2) := Lib.hid (by rw [HBN2.out]; simp)
              have K4 : Hid (Only (fun _ => False) wr W3) := K3
              clear hb3 hcn hci p3
              go_upto_region 24 with (fail)
              skip
              skip
              have HOW2 : Hid ((W3.alloc (.cells #[.int .i64 (gg), .int .i64 (gu), .int .i64 (ga), .bool gf] 51)).ownsRow 0 51 4 v gs.length (gv gs)) := Lib.hid (owns_only (S := fun _ => False) (K4.out.alloc _) HOW.out (fun _ _ f => f))
              go_wp2_with (at_builtin; refine append_mine rfl _ _ 45 rfl 51 i0 _ 4 32 Try.underlying45 hi hz0 hz1 hz2 rfl (by decide) _ gs.length _ rfl HOW2.out ⟨W3.heap.size, 0, none⟩ 1 1 (gv [⟨gg, gu, ga, gf⟩]) rfl ?c1 ?c2 ?c3 ?c4 ?c5 ?_)
              case c1 => rfl
              case c2 => exact (fun j u h => by simpa [gv, encG] using h)
              case c3 => exact gv_one [⟨gg, gu, ga, gf⟩]
              case c4 => have := HGL.out; unfold maxLen; omega
              case c5 => have := HGL.out; omega
              intro v2 w2 hown hgrow hkk
              have HON : Hid (OwnG w2 v2 (gs ++ [⟨gg, gu, ga, gf⟩])) := Lib.hid (by unfold OwnG; rw [List.length_append, gv_append]; exact hown)
              have HBK2 : Hid (∀ q, v2.ownBlock = some q → w.heap.size ≤ q) := Lib.hid (fun q hq => by
                rcases hkk q hq with e | e
                · exact HBK.out q e
                · have h1 := HO.out.size
                  have h2 := K4.out.size
                  have e' := e
                  (try simp only [size_alloc] at e')
                  omega)
              have HO2 : Hid (Only (fun _ => False) w w2) := Lib.hid (((HO.out.trans K4.out).alloc _).then (Only.of_grown hgrow) (fun q hq e => by have := HBK.out q e; omega))
              clear hown hgrow hkk HOW2
              go_wp2_with fail
              go_roundw
              case rel => exact ⟨k + 1, c - ga, v2, true, b2, gs ++ [⟨gg, gu, ga, gf⟩], by omega, by go_num, rfl, rfl, rfl, rfl, by rw [List.length_append, HGL.out]; rfl, HCN2, HA3, HB3, HGN, HON, HBK2, HO2⟩
              case measure => simp [intOf]; omega
            · subst e
              have hge := HGK.out
              rw [if_neg (by decide)] at hge
              have hz := HMZ.out rfl
              subst hge
              have hmz := HEK.out
              subst hmz
              have hb3 := HGB.out
              have g0 := (hb3 0 _ rfl).1; have g1 := (hb3 1 _ rfl).1; have g2 := (hb3 2 _ rfl).1; have g3 := (hb3 3 _ rfl).1
              have hcn := HCN.out
              dsimp only at hcn
              have hga : ga = 0 := congrArg Gr.a hz
              have HCN2 : Hid (mCr ps ws cr (k + 1) = c) := Lib.hid (by rw [hcn, hga]; omega)
              have HA3 : Hid (mAny ps ws cr (k + 1) = b1) := Lib.hid (by rw [HAN2.out]; simp)
              have HB3 : Hid (mBad ps ws cr (k + 1) = true) := Lib.hid (by rw [HBN2.out]; simp)
              have K4 : Hid (Only (fun _ => False) wr W3) := K3
              clear hb3 hcn hga hz p3
              go_upto_region 24 with (fail)
              skip
              skip
              have HOW2 : Hid ((W3.alloc (.cells #[.int .i64 (gg), .int .i64 (gu), .int .i64 (ga), .bool gf] 51)).ownsRow 0 51 4 v gs.length (gv gs)) := Lib.hid (owns_only (S := fun _ => False) (K4.out.alloc _) HOW.out (fun _ _ f => f))
              go_wp2_with (at_builtin; refine append_mine rfl _ _ 45 rfl 51 i0 _ 4 32 Try.underlying45 hi hz0 hz1 hz2 rfl (by decide) _ gs.length _ rfl HOW2.out ⟨W3.heap.size, 0, none⟩ 1 1 (gv [⟨gg, gu, ga, gf⟩]) rfl ?c1 ?c2 ?c3 ?c4 ?c5 ?_)
              case c1 => rfl
              case c2 => exact (fun j u h => by simpa [gv, encG] using h)
              case c3 => exact gv_one [⟨gg, gu, ga, gf⟩]
              case c4 => have := HGL.out; unfold maxLen; omega
              case c5 => have := HGL.out; omega
              intro v2 w2 hown hgrow hkk
              have HON : Hid (OwnG w2 v2 (gs ++ [⟨gg, gu, ga, gf⟩])) := Lib.hid (by unfold OwnG; rw [List.length_append, gv_append]; exact hown)
              have HBK2 : Hid (∀ q, v2.ownBlock = some q → w.heap.size ≤ q) := Lib.hid (fun q hq => by
                rcases hkk q hq with e | e
                · exact HBK.out q e
                · have h1 := HO.out.size
                  have h2 := K4.out.size
                  have e' := e
                  (try simp only [size_alloc] at e')
                  omega)
              have HO2 : Hid (Only (fun _ => False) w w2) := Lib.hid (((HO.out.trans K4.out).alloc _).then (Only.of_grown hgrow) (fun q hq e => by have := HBK.out q e; omega))
              clear hown hgrow hkk HOW2
              go_wp2_with fail
              go_roundw
              case rel => exact ⟨k + 1, c, v2, b1, true, gs ++ [⟨gg, gu, ga, gf⟩], by omega, by go_num, rfl, rfl, rfl, rfl, by rw [List.length_append, HGL.out]; rfl, HCN2, HA3, HB3, HGN, HON, HBK2, HO2⟩
              case measure => simp [intOf]; omega
            · subst e
              have hge := HGK.out
              rw [if_pos rfl] at hge
              subst hge
              have hmz := HEK.out
              subst hmz
              have hb3 := HGB.out
              have y0 := (hb3 0 _ rfl).2; have y1 := (hb3 1 _ rfl).2; have y2 := (hb3 2 _ rfl).2; have y3 := (hb3 3 _ rfl).2
              have g0 := (hb3 0 _ rfl).1; have g1 := (hb3 1 _ rfl).1; have g2 := (hb3 2 _ rfl).1; have g3 := (hb3 3 _ rfl).1
              obtain ⟨W4, hW4, HG4, KO4⟩ : ∃ W, W = (((W3.setCell ⟨q, 0, none⟩ (.int .i64 G1)).setCell ⟨q, 1, none⟩ (.int .i64 0)).setCell ⟨q, 2, none⟩ (.int .i64 0)).setCell ⟨q, 3, none⟩ (.bool true) ∧ BoxV W q [.int .i64 G1, .int .i64 0, .int .i64 0, .bool true] ∧ Only (fun x => x = q) W3 W :=
                ⟨_, rfl, hb3.put [.int .i64 G1, .int .i64 0, .int .i64 0, .bool true] rfl, puts_only q [.int .i64 G1, .int .i64 0, .int .i64 0, .bool true] 0 W3 W3 (Only.refl (fun x => x = q) _) (.inl rfl)⟩
              have K4 : Hid (Only (fun _ => False) wr W4) := Lib.hid (K3.out.then KO4 (fun x hx e => by have e' : x = q := e; have := HQ9.out; omega))
              have q0 := (HG4 0 _ rfl).1; have q1 := (HG4 1 _ rfl).1; have q2 := (HG4 2 _ rfl).1; have q3 := (HG4 3 _ rfl).1
              have hcn := HCN.out
              dsimp only at hcn
              have HCN2 : Hid (mCr ps ws cr (k + 1) = c) := Lib.hid (by rw [hcn]; omega)
              have HA3 : Hid (mAny ps ws cr (k + 1) = b1) := Lib.hid (by rw [HAN2.out]; simp)
              have HB3 : Hid (mBad ps ws cr (k + 1) = b2) := Lib.hid (by rw [HBN2.out]; simp)
              clear hb3 hcn KO4 HG4
              go_upto_region 24 with (fail)
              rw [← hW4]
              clear hW4
              have HOW2 : Hid ((W4.alloc (.cells #[.int .i64 (G1), .int .i64 (0), .int .i64 (0), .bool true] 51)).ownsRow 0 51 4 v gs.length (gv gs)) := Lib.hid (owns_only (S := fun _ => False) (K4.out.alloc _) HOW.out (fun _ _ f => f))
              go_wp2_with (at_builtin; refine append_mine rfl _ _ 45 rfl 51 i0 _ 4 32 Try.underlying45 hi hz0 hz1 hz2 rfl (by decide) _ gs.length _ rfl HOW2.out ⟨W4.heap.size, 0, none⟩ 1 1 (gv [⟨G1, 0, 0, true⟩]) rfl ?c1 ?c2 ?c3 ?c4 ?c5 ?_)
              case c1 => rfl
              case c2 => exact (fun j u h => by simpa [gv, encG] using h)
              case c3 => exact gv_one [⟨G1, 0, 0, true⟩]
              case c4 => have := HGL.out; unfold maxLen; omega
              case c5 => have := HGL.out; omega
              intro v2 w2 hown hgrow hkk
              have HON : Hid (OwnG w2 v2 (gs ++ [⟨G1, 0, 0, true⟩])) := Lib.hid (by unfold OwnG; rw [List.length_append, gv_append]; exact hown)
              have HBK2 : Hid (∀ q, v2.ownBlock = some q → w.heap.size ≤ q) := Lib.hid (fun q hq => by
                rcases hkk q hq with e | e
                · exact HBK.out q e
                · have h1 := HO.out.size
                  have h2 := K4.out.size
                  have e' := e
                  (try simp only [size_alloc] at e')
                  omega)
              have HO2 : Hid (Only (fun _ => False) w w2) := Lib.hid (((HO.out.trans K4.out).alloc _).then (Only.of_grown hgrow) (fun q hq e => by have := HBK.out q e; omega))
              clear hown hgrow hkk HOW2
              go_wp2_with fail
              go_roundw
              case rel => exact ⟨k + 1, c, v2, b1, b2, gs ++ [⟨G1, 0, 0, true⟩], by omega, by go_num, rfl, rfl, rfl, rfl, by rw [List.length_append, HGL.out]; rfl, HCN2, HA3, HB3, HGN, HON, HBK2, HO2⟩
              case measure => simp [intOf]; omega
        · obtain rfl : k = i := by omega
          rename_i hk9 hh9
          by_cases hbd : b2 = true
          · subst hbd
            have HFF := Lib.hid (HQ1.out wr (.inr ((mBad_iff ps ws cr k).1 HBD.out)) HO.out)
            go_wp2_with fail
            exact HFF.out
          · obtain rfl : b2 = false := by simpa using hbd
            have HNB : Hid (∀ j, j < k → mEr ps ws cr j ≠ 1) := Lib.hid (fun j hj e => by
              have := (mBad_iff ps ws cr k).2 ⟨j, hj, e⟩
              rw [HBD.out] at this
              cases this)
            cases b1
            · have HFF := Lib.hid (HQ2.out wr HNN2.out HNB.out HAN.out HO.out)
              go_wp2_with fail
              exact HFF.out
            · obtain ⟨av, cv, rfl, hrd⟩ := HOW.out.reads
              rw [HGS.out] at hrd
              simp only [List.length_map, List.length_range] at hrd
              have HFF := Lib.hid (HQ3.out av cv wr HNN2.out HNB.out HAN.out hrd HO.out)
              rw [hgl]
              go_wp2_with fail
              exact HFF.out
end Go.Proofs.Ytghajamcjcflaaa.tirw
namespace Go.Proofs.Ytghajamcjcflaaa.tirw
open Go.RowKit mem tirm intm bigm bigw
open Go.ChangeShapes Go.WideShapes Go.ChangeAt
set_option linter.unusedVariables false

def encP (x : Pl) : List Value := [.int .i64 x.D, .int .i64 x.F, .int .i64 x.T, .int .i64 x.G1, .int .i64 x.M1, .int .i64 x.B1, .slice x.a1 x.n1 x.c1, .int .i64 x.G2, .int .i64 x.M2, .int .i64 x.B2, .slice x.a2 x.n2 x.c2]
def pv (ps : List Pl) : List Value := ps.flatMap encP
theorem pv_cons (x : Pl) (r : List Pl) : pv (x :: r) = encP x ++ pv r := by simp [pv]
theorem pv_append (a b : List Pl) : pv (a ++ b) = pv a ++ pv b := by simp [pv]
theorem pv_length (gs : List Pl) : (pv gs).length = gs.length * 11 := by
  induction gs with
  | nil => rfl
  | cons x r ih => rw [pv_cons, List.length_append, ih, List.length_cons]; simp [encP]; omega
theorem pv_one (gs : List Pl) : ∀ u ∈ pv gs, u.oneCell' = true := by
  intro u hu
  simp only [pv, List.mem_flatMap] at hu
  obtain ⟨x, _, hx⟩ := hu
  simp [encP] at hx
  rcases hx with rfl | rfl | rfl | rfl | rfl | rfl | rfl | rfl | rfl | rfl | rfl <;> rfl
theorem pv_get : ∀ (gs : List Pl) (i c : Nat), i < gs.length → c < 11 → (pv gs)[i * 11 + c]? = (encP (gs.getD i default))[c]? := by
  intro gs
  induction gs with
  | nil => intro i c h; simp at h
  | cons x r ih =>
    intro i c hi hc
    have hx : (encP x).length = 11 := rfl
    rw [pv_cons]
    cases i with
    | zero =>
      rw [List.getElem?_append_left (by rw [hx]; omega)]
      simp [List.getD]
    | succ i =>
      rw [List.getElem?_append_right (by rw [hx]; omega), hx, show (i + 1) * 11 + c - 11 = i * 11 + c by omega, ih i c (by simpa using hi) hc]
      simp [List.getD]
def OwnP (T : TypeId) (w : World) (v : Value) (ps : List Pl) : Prop := w.ownsRow 0 T 11 v ps.length (pv ps)
theorem OwnP.nil (T : TypeId) (w : World) : OwnP T w (.slice none 0 0) [] := World.ownsRow_nil _ _ _ _
theorem OwnP.only {T : TypeId} {S : Nat → Prop} {w w' : World} {v : Value} {gs : List Pl} (h : OwnP T w v gs) (ho : Only S w w') (hs : ∀ k, v.ownBlock = some k → ¬ S k) : OwnP T w' v gs := owns_only ho h hs
theorem OwnP.reads {T : TypeId} {w : World} {v : Value} {gs : List Pl} (h : OwnP T w v gs) (hl : gs.length ≤ 1000) : ∃ a cap, v = .slice a gs.length cap ∧ gs.length ≤ cap ∧ ReadsP w a gs.length gs := by
  have h0 := h
  rcases h.2 with ⟨hv, hn⟩ | ⟨g, cap, cur, hv, hg, hh, hc, hmm, _⟩
  · exact ⟨none, 0, by rw [hv, hn], by omega, rfl, hl, .inl hn⟩
  · refine ⟨some ⟨g, 0, none⟩, cap, hv, by omega, rfl, hl, .inr ⟨g, 0, rfl, fun i hi => ?_⟩⟩
    have h1 : w.ownsRow 0 T 11 (.slice (some ⟨g, 0, none⟩) gs.length cap) gs.length (pv gs) := by rw [← hv]; exact h0
    have e : ∀ c, c < 11 → w.cell? ⟨g, 0 + i * 11 + c, none⟩ = (encP (gs.getD i default))[c]? := fun c hc => by
      rw [Nat.zero_add, h1.cellAt (i * 11 + c) (by omega), pv_get gs i c hi hc]
    exact ⟨e 0 (by omega), e 1 (by omega), e 2 (by omega), e 3 (by omega), e 4 (by omega), e 5 (by omega), e 6 (by omega), e 7 (by omega), e 8 (by omega), e 9 (by omega), e 10 (by omega)⟩
theorem info_rpl : (Try.prog.info? 37).map (fun i => (i.zero, i.size, i.bytes)) = some (some (.agg #[.int .i64 0, .int .i64 0, .int .i64 0, .int .i64 0, .int .i64 0, .int .i64 0, .slice none 0 0, .int .i64 0, .int .i64 0, .int .i64 0, .slice none 0 0]), 11, 120) := by kernel_rfl
theorem info_tpl : (Try.prog.info? 39).map (fun i => (i.zero, i.size, i.bytes)) = some (some (.agg #[.int .i64 0, .int .i64 0, .int .i64 0, .int .i64 0, .int .i64 0, .int .i64 0, .slice none 0 0, .int .i64 0, .int .i64 0, .int .i64 0, .slice none 0 0]), 11, 120) := by kernel_rfl
theorem news_pl {W : World} {g : Nat} {x : Pl} (hg : g = W.heap.size) (t : TypeId) : ∀ j u, (pv [x])[j]? = some u → (W.alloc (.cells #[.int .i64 x.D, .int .i64 x.F, .int .i64 x.T, .int .i64 x.G1, .int .i64 x.M1, .int .i64 x.B1, .slice x.a1 x.n1 x.c1, .int .i64 x.G2, .int .i64 x.M2, .int .i64 x.B2, .slice x.a2 x.n2 x.c2] t)).cell? ((Addr.mk g 0 none).add j) = some u := by
  intro j u hu
  rw [add_none, Nat.zero_add]
  exact alloc_new _ _ _ _ _ _ hg (by rw [← List.getElem?_toArray] at hu; exact hu)
/-- a plan's two rows are not block q -/
def Apart (p : Pl) (q : Nat) : Prop := (p.n1 = 0 ∨ ∀ y, p.a1 = some y → y.block ≠ q) ∧ (p.n2 = 0 ∨ ∀ y, p.a2 = some y → y.block ≠ q)
def TOk (w : World) (p : Pl) : Prop := (p.n1 ≤ 1000 ∧ p.n2 ≤ 1000) ∧ ReadsT w p.a1 p.n1 p.t1 ∧ ReadsT w p.a2 p.n2 p.t2
theorem ReadsT.apart {S : Nat → Prop} {w w' : World} {a : Option Addr} {len : Nat} {ts : List Tr} (h : ReadsT w a len ts) (ho : Only S w w') (hs : len = 0 ∨ ∀ y, a = some y → ¬ S y.block) : ReadsT w' a len ts := by
  rcases hs with e | hs
  · exact ⟨h.1, h.2.1, h.2.2.1, .inl e⟩
  · exact h.only ho hs
theorem TOk.only {S : Nat → Prop} {w w' : World} {p : Pl} (h : TOk w p) (ho : Only S w w') (hs : ∀ q, S q → Apart p q) : TOk w' p := by
  refine ⟨h.1, h.2.1.apart ho ?_, h.2.2.apart ho ?_⟩
  · by_cases e : p.n1 = 0
    · exact .inl e
    · refine .inr fun y hy hS => ?_
      rcases (hs _ hS).1 with e' | e'
      · exact e e'
      · exact e' y hy rfl
  · by_cases e : p.n2 = 0
    · exact .inl e
    · refine .inr fun y hy hS => ?_
      rcases (hs _ hS).2 with e' | e'
      · exact e e'
      · exact e' y hy rfl
theorem ReadsT.lt {w : World} {b off : Nat} {a : Option Addr} {len : Nat} {ts : List Tr} (h : ReadsT w a len ts) : len = 0 ∨ ∀ y, a = some y → y.block < w.heap.size := by
  obtain ⟨_, _, _, h0 | ⟨b, off, rfl, hc⟩⟩ := h
  · exact .inl h0
  · by_cases hz : len = 0
    · exact .inl hz
    · exact .inr fun y hy => by cases hy; exact World.block_lt_of_cell? w _ (hc 0 (by omega)).1
/-- a block that is new is apart from what was there -/
theorem TOk.new {w : World} {p : Pl} (h : TOk w p) (q : Nat) (hq : w.heap.size ≤ q) : Apart p q := by
  constructor
  · rcases ReadsT.lt (b := 0) (off := 0) h.2.1 with e | e
    · exact .inl e
    · exact .inr fun y hy => by have := e y hy; omega
  · rcases ReadsT.lt (b := 0) (off := 0) h.2.2 with e | e
    · exact .inl e
    · exact .inr fun y hy => by have := e y hy; omega
/-- rows of plans that come in -/
def RowPl (w : World) (a : Option Addr) (len cap : Nat) (ls : List Pl) : Prop := ls.length = len ∧ len ≤ cap ∧ cap ≤ maxLen ∧ (len = 0 ∨ ∃ b off, a = some ⟨b, off, none⟩ ∧ ∀ i, i < len → PlanO w b (off + i * 11) (ls.getD i default)) ∧ ∀ i, i < len → TiersR w (ls.getD i default).a1 (ls.getD i default).n1 (ls.getD i default).c1 (ls.getD i default).t1 ∧ TiersR w (ls.getD i default).a2 (ls.getD i default).n2 (ls.getD i default).c2 (ls.getD i default).t2
section
variable {H : Type} {enc : TypeId × Value → H} {w : World} {base : Nat}
set_option maxRecDepth 100000 in
theorem plans_open {fuel : Nat} {ao : Option Addr} {len cap : Nat} {x : DataW H × List MemPlace} (h : DataW.trod enc Try.prog w base (fun _ => true) true fuel 30 [.slice ao len cap] = some x) : ∃ ls, RowPl w ao len cap ls := by
  rcases Go.Deep.open_slice Try.underlying30 h with ⟨hcs, _⟩ | ⟨a, len2, cap2, m, n, D, Pq, hcs, hb, hl, hm, hmm, hx, hi⟩
  · simp at hcs
    obtain ⟨rfl, rfl, rfl⟩ := hcs
    exact ⟨[], rfl, by omega, by unfold maxLen; omega, .inl rfl, fun i hi => by omega⟩
  · simp at hcs
    obtain ⟨rfl, rfl, rfl⟩ := hcs
    simp at hmm
    have hC : Try.prog.cellsOf 37 = 11 := by kernel_rfl
    rw [hC] at hi
    have key : ∀ i, ∃ p : Pl, i < len → (∀ c, c < 11 → w.cell? ((a.add (i * 11)).add c) = (encP p)[c]?) ∧ TiersR w p.a1 p.n1 p.c1 p.t1 ∧ TiersR w p.a2 p.n2 p.c2 p.t2 := by
      intro i
      by_cases hil : i < len
      · obtain ⟨cs', hc, ht'⟩ := hi i (by omega)
        obtain ⟨_, hcl, hat⟩ := World.cells?_some hc
        obtain ⟨D, F, T, G1, M1, B1, a1, n1, c1, t1, G2, M2, B2, a2, n2, c2, t2, e, h1, h2⟩ := plan_open (cs := cs'.toArray) (by simpa using hcl) (by simpa [Value.cells] using ht')
        refine ⟨⟨D, F, T, G1, M1, B1, G2, M2, B2, a1, a2, n1, n2, c1, c2, t1, t2⟩, fun _ => ⟨fun c hc' => ?_, h1, h2⟩⟩
        have e' : cs' = encP ⟨D, F, T, G1, M1, B1, G2, M2, B2, a1, a2, n1, n2, c1, c2, t1, t2⟩ := by
          have := congrArg Array.toList e
          simpa [encP] using this
        rw [hat c (by omega), e']
      · exact ⟨default, fun e => absurd e hil⟩
    refine ⟨(List.range len).map fun i => Classical.choose (key i), ⟨by simp, by omega, by omega, ?_, ?_⟩⟩
    · by_cases h0 : len = 0
      · exact .inl h0
      · obtain ⟨b, off, sub⟩ := a
        obtain ⟨hk, _⟩ := Classical.choose_spec (key 0) (by omega)
        have hs0 := hk 0 (by omega)
        have hspot : sub = none := by
          have h9 : w.cell? (((⟨b, off, sub⟩ : Addr).add (0 * 11)).add 0) = some (.int .i64 (Classical.choose (key 0)).D) := hs0
          simpa [Addr.add] using World.cell?_spot h9
        subst hspot
        refine .inr ⟨b, off, rfl, fun i hil => ?_⟩
        have e : ((List.range len).map fun i => Classical.choose (key i)).getD i default = Classical.choose (key i) := by
          rw [List.getD_eq_getElem?_getD, List.getElem?_map, List.getElem?_range hil]; rfl
        rw [e]
        have hc := (Classical.choose_spec (key i) hil).1
        revert hc
        generalize Classical.choose (key i) = pp
        intro hc
        have g : ∀ c, c < 11 → w.cell? ⟨b, off + i * 11 + c, none⟩ = (encP pp)[c]? := fun c hc' => by
          have := hc c hc'
          rwa [add_none, add_none] at this
        exact ⟨g 0 (by omega), g 1 (by omega), g 2 (by omega), g 3 (by omega), g 4 (by omega), g 5 (by omega), g 6 (by omega), g 7 (by omega), g 8 (by omega), g 9 (by omega), g 10 (by omega)⟩
    · intro i hil
      have e : ((List.range len).map fun i => Classical.choose (key i)).getD i default = Classical.choose (key i) := by
        rw [List.getD_eq_getElem?_getD, List.getElem?_map, List.getElem?_range hil]; rfl
      rw [e]
      exact (Classical.choose_spec (key i) hil).2
set_option maxRecDepth 100000 in
theorem ints_openI {fuel : Nat} {ao : Option Addr} {len cap : Nat} {x : DataW H × List MemPlace} (h : DataW.trod enc Try.prog w base (fun _ => true) true fuel 31 [.slice ao len cap] = some x) : ∃ l, IntsR w ao len cap l := by
  rcases Go.Deep.open_slice Try.underlying31 h with ⟨hcs, _⟩ | ⟨a, len2, cap2, m, n, D, Pq, hcs, hb, hl, hm, hmm, hx, hi⟩
  · simp at hcs
    obtain ⟨rfl, rfl, rfl⟩ := hcs
    exact ⟨[], ⟨rfl, by unfold maxLen; omega, (fun c hc => by cases hc), .inl rfl⟩, by omega, by unfold maxLen; omega, fun _ => rfl⟩
  · simp at hcs
    obtain ⟨rfl, rfl, rfl⟩ := hcs
    simp at hmm
    have hC : Try.prog.cellsOf 3 = 1 := by kernel_rfl
    rw [hC] at hi
    have key : ∀ i, i < len → ∃ y : Int, (-9223372036854775808 ≤ y ∧ y ≤ 9223372036854775807) ∧ w.cell? (a.add i) = some (.int .i64 y) := by
      intro i hil
      obtain ⟨cs', hc, ht'⟩ := hi i (by omega)
      obtain ⟨y, hy, _, wy⟩ := DataW.trod_int Try.underlying3 ht'
      obtain ⟨_, hcl, hat⟩ := World.cells?_some hc
      subst hy
      have := hat 0 (by simp)
      rw [Nat.mul_one, Addr.add_zero'] at this
      exact ⟨y, int_of_wf wy, by simpa using this⟩
    by_cases h0 : len = 0
    · subst h0
      exact ⟨[], ⟨rfl, by unfold maxLen; omega, (fun c hc => by cases hc), .inl rfl⟩, hl, hm, fun e => by cases e⟩
    · obtain ⟨b, off, spot⟩ := a
      obtain ⟨y0, _, d0⟩ := key 0 (by omega)
      have hspot : spot = none := by simpa [Addr.add] using World.cell?_spot d0
      subst hspot
      refine ⟨(List.range len).map (fun i => intV (w.cell? ⟨b, off + i, none⟩)), ⟨by simp, by omega, fun c hc => ?_, .inr ⟨b, off, rfl, fun i hil => ?_⟩⟩, hl, hm, fun e => by cases e⟩
      · obtain ⟨i, hi', rfl⟩ := List.mem_map.1 hc
        obtain ⟨y, hin, d⟩ := key i (List.mem_range.1 hi')
        rw [add_none] at d
        rw [d]
        exact hin
      · obtain ⟨y, hin, d⟩ := key i hil
        rw [add_none] at d
        have e : ((List.range len).map (fun i => intV (w.cell? ⟨b, off + i, none⟩))).getD i 0 = y := by
          rw [List.getD_eq_getElem?_getD, List.getElem?_map, List.getElem?_range hil]
          show intV _ = y
          rw [d]; rfl
        rw [e]
        exact d
end
end Go.Proofs.Ytghajamcjcflaaa.tirw
namespace Go.Proofs.Ytghajamcjcflaaa.tirw
open Go.RowKit mem tirm intm bigm bigw
set_option linter.unusedVariables false

theorem form_of {w : World} {base n size : Nat} {e : TypeId} {v : Value} {xs : List Value} (h : w.ownsRow base e size v n xs) (hne : v ≠ .slice none 0 0) : ∃ g cap, v = .slice (some ⟨g, 0, none⟩) n cap ∧ base ≤ g := by
  rcases h.2 with ⟨h0, _⟩ | ⟨g, cap, _, hv, hg, _⟩
  · exact absurd h0 hne
  · exact ⟨g, cap, hv, hg⟩

theorem nil_reads (w : World) (a : Option Addr) : ReadsI w a 0 [] := ⟨rfl, by unfold maxLen; omega, by simp, .inl rfl⟩
theorem OwnP.lt {T : TypeId} {w : World} {v : Value} {ps : List Pl} (h : OwnP T w v ps) {q : Nat} (hq : v.ownBlock = some q) : q < w.heap.size := by
  rcases h.2 with ⟨hv, hn⟩ | ⟨g, cap, cur, hv, hg, hh, _⟩
  · rw [hv] at hq; simp [Value.ownBlock] at hq
  · rw [hv] at hq
    have e : g = q := by simpa [Value.ownBlock] using hq
    rw [← e]; exact heap_lt hh
/-- the two rows of the walk, and their plans -/
def LQ (w wr : World) (v7 v8 : Value) (ps : List Pl) : Prop := (∀ q, v7.ownBlock = some q → w.heap.size ≤ q) ∧ (∀ q, v8.ownBlock = some q → w.heap.size ≤ q) ∧ (∀ q, v7.ownBlock = some q → v8.ownBlock ≠ some q) ∧ ∀ p ∈ ps, TOk wr p ∧ ∀ q, (v7.ownBlock = some q ∨ v8.ownBlock = some q) → Apart p q
theorem LQ.next {w wr w1 wA w2 wB w4 : World} {v7 v8 v7' v8' : Value} {ps : List Pl} {p : Pl} {T T' : TypeId} (h : LQ w wr v7 v8 ps) (h7 : OwnP T wr v7 ps) (h8 : OwnP T' wr v8 ps) (ho : Only (fun _ => False) w wr) (k1 : Only (fun _ => False) wr w1) (kA : Only (fun _ => False) w1 wA) (hp : TOk w1 p) (hb1 : ∀ y, p.a1 = some y → wr.heap.size ≤ y.block) (hb2 : ∀ y, p.a2 = some y → wr.heap.size ≤ y.block)
    (g8 : Only (fun k => v8.ownBlock = some k) wA w2) (own8 : OwnP T' w2 v8' (ps ++ [p])) (c8 : ∀ q, v8'.ownBlock = some q → v8.ownBlock = some q ∨ wA.heap.size ≤ q) (kB : Only (fun _ => False) w2 wB)
    (g7 : Only (fun k => v7.ownBlock = some k) wB w4) (c7 : ∀ q, v7'.ownBlock = some q → v7.ownBlock = some q ∨ wB.heap.size ≤ q) : LQ w w4 v7' v8' (ps ++ [p]) ∧ OwnP T' w4 v8' (ps ++ [p]) ∧ Only (fun _ => False) w w4 := by
  obtain ⟨l1, l2, l3, l4⟩ := h
  have s0 := ho.size
  have s1 := k1.size
  have s2 := kA.size
  have s3 := g8.size
  have s4 := kB.size
  have ho4 : Only (fun _ => False) w w4 := ((((ho.trans k1).trans kA).then g8 (fun q hq e => by have := l2 q e; omega)).trans kB).then g7 (fun q hq e => by have := l1 q e; omega)
  refine ⟨⟨fun q hq => ?_, fun q hq => ?_, fun q hq e => ?_, fun x hx => ?_⟩, ?_, ho4⟩
  · rcases c7 q hq with e | e
    · exact l1 q e
    · omega
  · rcases c8 q hq with e | e
    · exact l2 q e
    · omega
  · have b8 := own8.lt e
    rcases c7 q hq with e7 | e7
    · rcases c8 q e with e8 | e8
      · exact l3 q e7 e8
      · have := h7.lt e7; omega
    · omega
  · rcases List.mem_append.1 hx with hx | hx
    · obtain ⟨m1, m2⟩ := l4 x hx
      have n1 : TOk w2 x := (m1.only (k1.trans kA) (fun _ f => f.elim)).only g8 (fun q e => m2 q (.inr e))
      refine ⟨(n1.only kB (fun _ f => f.elim)).only g7 (fun q e => m2 q (.inl e)), fun q e => ?_⟩
      rcases e with e | e
      · rcases c7 q e with e' | e'
        · exact m2 q (.inl e')
        · exact m1.new q (by omega)
      · rcases c8 q e with e' | e'
        · exact m2 q (.inr e')
        · exact m1.new q (by omega)
    · have hx' : x = p := by simpa using hx
      subst hx'
      have ap : ∀ q, q < wr.heap.size → Apart x q := fun q hq => ⟨.inr fun y hy e => by have := hb1 y hy; omega, .inr fun y hy e => by have := hb2 y hy; omega⟩
      have n1 : TOk w2 x := (hp.only kA (fun _ f => f.elim)).only g8 (fun q e => ap q (h8.lt e))
      refine ⟨(n1.only kB (fun _ f => f.elim)).only g7 (fun q e => ap q (h7.lt e)), fun q e => ?_⟩
      rcases e with e | e
      · rcases c7 q e with e' | e'
        · exact ap q (h7.lt e')
        · exact hp.new q (by omega)
      · rcases c8 q e with e' | e'
        · exact ap q (h8.lt e')
        · exact hp.new q (by omega)
  · refine (own8.only kB (fun _ _ f => f)).only g7 (fun q hq e => ?_)
    rcases c8 q hq with e8 | e8
    · exact l3 q e e8
    · have := h7.lt e; omega
open Classical in
noncomputable def manyE (ps : List Pl) (ws : List Int) (cr : Int) : Int := if ManyNo ps ws ∨ ∃ k, k < ps.length ∧ mEr ps ws cr k = 1 then 1 else if mAny ps ws cr ps.length = true then 0 else 9
open Classical in
noncomputable def manyG (ps : List Pl) (ws : List Int) (cr : Int) : List Gr := if ManyNo ps ws ∨ ∃ k, k < ps.length ∧ mEr ps ws cr k = 1 then [] else if mAny ps ws cr ps.length = true then (List.range ps.length).map (mGr ps ws cr) else []
def ManyU (ps : List Pl) (ws : List Int) (cr : Int) (w : World) (e : Ending) (w' : World) : Prop := ∃ ag cg, e = .returned (.tuple #[.slice ag (manyG ps ws cr).length cg, .int .i64 (manyE ps ws cr)]) ∧ ReadsG w' ag (manyG ps ws cr).length (manyG ps ws cr) ∧ Only (fun _ => False) w w'
theorem many_split {ps : List Pl} {ws : List Int} {cr : Int} (h : ¬ ManyNo ps ws ∧ ∀ k, k < ps.length → mEr ps ws cr k ≠ 1) : ¬ (ManyNo ps ws ∨ ∃ k, k < ps.length ∧ mEr ps ws cr k = 1) := by
  rintro (e | ⟨k, hk, e⟩)
  · exact h.1 e
  · exact h.2 k hk e
theorem ReadsG.nil (w : World) : ReadsG w none 0 [] := ⟨rfl, .inl rfl⟩
theorem many_u {ps : List Pl} {ws : List Int} {cr : Int} {w w' : World} {e : Ending} (h : ManyAt ps ws cr w e w') : ManyU ps ws cr w e w' := by
  unfold ManyU manyG manyE
  rcases h with ⟨h1, h2, h3⟩ | ⟨h1, h2, h3, h4⟩ | ⟨h1, h2, ⟨g, h3, h4, _⟩, h5⟩
  · rw [if_pos h1, if_pos h1]; exact ⟨none, 0, h2, ReadsG.nil _, h3⟩
  · rw [if_neg (many_split h1), if_neg (many_split h1), if_neg (by rw [h2]; decide), if_neg (by rw [h2]; decide)]; exact ⟨none, 0, h3, ReadsG.nil _, h4⟩
  · rw [if_neg (many_split h1), if_neg (many_split h1), if_pos h2, if_pos h2]
    have hl : ((List.range ps.length).map (mGr ps ws cr)).length = ps.length := by simp
    rw [hl]
    exact ⟨_, _, h3, h4, h5⟩
theorem rmany_u {ps : List Pl} {ws : List Int} {cr : Int} {w w' : World} {e : Ending} (h : RManyAt ps ws cr w e w') : ManyU ps ws cr w e w' := by
  unfold ManyU manyG manyE
  rcases h with ⟨h1, h2, h3⟩ | ⟨h1, h2, h3, h4⟩ | ⟨h1, h2, ⟨g, c, h3, h4⟩, h5⟩
  · rw [if_pos h1, if_pos h1]; exact ⟨none, 0, h2, ReadsG.nil _, h3⟩
  · rw [if_neg (many_split h1), if_neg (many_split h1), if_neg (by rw [h2]; decide), if_neg (by rw [h2]; decide)]; exact ⟨none, 0, h3, ReadsG.nil _, h4⟩
  · rw [if_neg (many_split h1), if_neg (many_split h1), if_pos h2, if_pos h2]
    have hl : ((List.range ps.length).map (mGr ps ws cr)).length = ps.length := by simp
    rw [hl]
    exact ⟨_, _, h3, h4, h5⟩
theorem gr_okA (p : Pl) (c u : Int) (h : pE p c u ≠ 1) : 0 ≤ c ∧ 0 ≤ (gr1 p c u).a ∧ (gr1 p c u).a ≤ c := by
  obtain ⟨D, F, T, G1, M1, B1, G2, M2, B2, a1, a2, n1, n2, c1, c2, t1, t2⟩ := p
  unfold gr1
  unfold pE at h ⊢
  dsimp only at h ⊢
  have hno : ¬ MkNo D F T G1 M1 B1 G2 M2 B2 t1 t2 c u := fun e => h (by unfold mkE; rw [if_pos e])
  have hf : ¬ FitNo D F T G1 M1 B1 G2 M2 B2 t1 t2 c u := fun e => hno (.inl e)
  obtain ⟨_, n, k, e1, e2, f1, f2, f3, f4, f5, hcan, _⟩ := fit_facts hf
  have h0 : 0 ≤ c := Int.not_lt.1 fun e => hf (.inr e)
  by_cases hz : fitU D F T G1 M1 B1 G2 M2 B2 t1 t2 c u = 0
  · have hE : mkE D F T G1 M1 B1 G2 M2 B2 t1 t2 c u = 9 := by unfold mkE; rw [if_neg hno, if_pos hz]
    rw [hE, if_pos rfl]
    exact ⟨h0, Int.le_refl _, h0⟩
  · have hE : mkE D F T G1 M1 B1 G2 M2 B2 t1 t2 c u = 0 := by unfold mkE; rw [if_neg hno, if_neg hz]
    have hG : mkG D F T G1 M1 B1 G2 M2 B2 t1 t2 c u = ⟨G1, n, k, decide (n < u)⟩ := by unfold mkG; rw [if_neg hno, if_neg hz, e1, e2]
    rw [hE, if_neg (by decide), hG]
    exact ⟨h0, f4, f5⟩
theorem many_sum (ps : List Pl) (ws : List Int) (cr : Int) : ∀ n, (∀ k, k < n → mEr ps ws cr k ≠ 1) → (((List.range n).map (mGr ps ws cr)).map Gr.a).sum = cr - mCr ps ws cr n ∧ (0 < n → 0 ≤ mCr ps ws cr n ∧ mCr ps ws cr n ≤ cr)
  | 0, _ => ⟨by show (0 : Int) = cr - cr; omega, fun h => absurd h (by omega)⟩
  | n + 1, h => by
    obtain ⟨i1, i2⟩ := many_sum ps ws cr n (fun k hk => h k (by omega))
    obtain ⟨o1, o2, o3⟩ := gr_okA (ps.getD n default) (mCr ps ws cr n) (ws.getD n 0) (h n (by omega))
    have e : mCr ps ws cr (n + 1) = mCr ps ws cr n - (mGr ps ws cr n).a := rfl
    have o2' : 0 ≤ (mGr ps ws cr n).a := o2
    have o3' : (mGr ps ws cr n).a ≤ mCr ps ws cr n := o3
    refine ⟨?_, fun _ => ?_⟩
    · rw [List.range_succ, List.map_append, List.map_append, List.sum_append, i1, e]
      simp
      omega
    · rw [e]
      by_cases hn : n = 0
      · subst hn
        have e0 : mCr ps ws cr 0 = cr := rfl
        omega
      · have := i2 (by omega); omega
theorem many_facts (ps : List Pl) (ws : List Int) (cr : Int) (hl : ps.length ≤ 1000) (hcr : InI cr) : (manyG ps ws cr).length ≤ 1000 ∧ (∀ x ∈ manyG ps ws cr, InI x.a) ∧ (manyE ps ws cr ≠ 0 ∨ 0 ≤ ((manyG ps ws cr).map Gr.a).sum ∧ ((manyG ps ws cr).map Gr.a).sum ≤ cr) := by
  unfold manyG manyE
  by_cases h : ManyNo ps ws ∨ ∃ k, k < ps.length ∧ mEr ps ws cr k = 1
  · rw [if_pos h, if_pos h]; exact ⟨by simp, by simp, .inl (by decide)⟩
  · rw [if_neg h, if_neg h]
    have hne : ∀ k, k < ps.length → mEr ps ws cr k ≠ 1 := fun k hk e => h (.inr ⟨k, hk, e⟩)
    have h1 : 0 < ps.length := by
      have : ¬ ps.length < 1 := fun e => h (.inl (.inl e))
      omega
    by_cases ha : mAny ps ws cr ps.length = true
    · rw [if_pos ha, if_pos ha]
      obtain ⟨s1, s2⟩ := many_sum ps ws cr ps.length hne
      have s3 := s2 h1
      refine ⟨by simpa using hl, fun x hx => ?_, .inr ?_⟩
      · obtain ⟨k, hk, rfl⟩ := List.mem_map.1 hx
        have hk' : k < ps.length := List.mem_range.1 hk
        obtain ⟨o1, o2, o3⟩ := gr_okA (ps.getD k default) (mCr ps ws cr k) (ws.getD k 0) (hne k hk')
        have hc := (mCr_in ps ws cr hcr k).1
        unfold InI at hc ⊢
        have o2' : 0 ≤ (mGr ps ws cr k).a := o2
        have o3' : (mGr ps ws cr k).a ≤ mCr ps ws cr k := o3
        omega
      · rw [s1]; omega
    · rw [if_neg ha, if_neg ha]; exact ⟨by simp, by simp, .inl (by decide)⟩
set_option maxRecDepth 100000 in
set_option maxHeartbeats 20000000 in
theorem gmany_any (a : Option Addr) (len cap : Nat) (ls : List Pl) (cr : Int) (aw : Option Addr) (lw cw : Nat) (ws : List Int) (w : World) (h : RowPl w a len cap ls) (hw : IntsR w aw lw cw ws) (hcr : InI cr) :
    Calls Try.prog 4 #[.slice a len cap, .int .i64 cr, .slice aw lw cw] w fun e w' => e = .returned (.bool true) ∧ Only (fun _ => False) w w' := by
  obtain ⟨ip, hip, hp0, hp1, hp2⟩ := info_parts info_rpl
  obtain ⟨it, hit, ht0, ht1, ht2⟩ := info_parts info_tpl
  obtain ⟨i0, hi0, hz0, hz1, hz2⟩ := info_parts info_i64
  have H := Lib.hid h
  have HW := Lib.hid hw
  have HCR := Lib.hid hcr
  have hcapm : len ≤ cap ∧ cap ≤ maxLen := ⟨h.2.1, h.2.2.1⟩
  unfold maxLen at hcapm
  clear h hw hcr
  go_enter Try.func4, Try.ntmps4
  go_upto_block 0 with fail
  go_cut [7, 8] from 15 to 40 (fun v7 v8 wx => ∃ (ps : List Pl), Hid (ps.length ≤ 6) ∧ Hid (OwnP 39 wx v7 ps) ∧ Hid (OwnP 37 wx v8 ps) ∧ Hid (∀ p ∈ ps, TOk wx p) ∧ Hid (Only (fun _ => False) w wx))
  case first =>
    go_wp2_with fail
    go_loopw [7, 8, 9] (fun s7 s8 iv wr => ∃ (i : Nat) (ps : List Pl) (v7 v8 : Value), i ≤ len ∧ i ≤ 6 ∧ iv = .int .i64 i ∧ v7 = s7 ∧ v8 = s8 ∧ Hid (ps.length = i) ∧ Hid (OwnP 39 wr v7 ps) ∧ Hid (OwnP 37 wr v8 ps) ∧ Hid (LQ w wr v7 v8 ps) ∧ Hid (Only (fun _ => False) w wr)) (fun _ _ iv _ => len - (intOf iv).toNat)
    case atStart => exact ⟨0, [], _, _, by omega, by omega, rfl, rfl, rfl, Lib.hid rfl, Lib.hid (OwnP.nil _ _), Lib.hid (OwnP.nil _ _), Lib.hid ⟨(fun q e => by cases e), (fun q e => by cases e), (fun q e => by cases e), (fun p hp => by cases hp)⟩, Lib.hid (Only.refl _ _)⟩
    case round =>
      obtain ⟨i, ps, v7, v8, hil, hi6, rfl, rfl, rfl, HPL, H7, H8, HL, HO⟩ := hrel
      by_cases h8 : i < len
      · by_cases h6 : i < 6
        · obtain ⟨b, off, rfl, hcell⟩ := H.out.2.2.2.1.resolve_left (by omega)
          obtain ⟨c0, c1', c2', c3, c4, c5, c6, c7, c8, c9, c10⟩ := (hcell i h8).only HO.out (fun f => f)
          obtain ⟨hta, htb⟩ := H.out.2.2.2.2 i h8
          clear hcell
          generalize ls.getD i default = p at *
          obtain ⟨D, F, T, G1, M1, B1, G2, M2, B2, a1, a2, n1, n2, c1, c2, t1, t2⟩ := p
          dsimp only at c0 c1' c2' c3 c4 c5 c6 c7 c8 c9 c10 hta htb
          have HTM := Lib.hid (gtame_any D F T G1 M1 B1 G2 M2 B2 a1 a2 n1 n2 c1 c2 t1 t2 wr (hta.only HO.out) (htb.only HO.out))
          have HS1 : Hid ((t1.take (min n1 9)).length ≤ 9 ∧ (t2.take (min n2 9)).length ≤ 9) := Lib.hid (by simp only [List.length_take]; omega)
          clear hta htb
          generalize t1.take (min n1 9) = s1 at *
          generalize t2.take (min n2 9) = s2 at *
          have hi0' : (0 : Int) ≤ i := by omega
          have hil' : (i : Int) < len := by omega
          have hi6' : (i : Int) < 6 := by omega
          go_wp2_with fail
          refine HTM.out.mono ?_
          rintro _ w1 ⟨a3, a4, q3, q4, rfl, hr3, hr4, k1, hb3, hb4⟩
          have K1 := Lib.hid k1
          have HTK : Hid (TOk w1 (⟨D, F, T, G1, M1, B1, G2, M2, B2, a3, a4, s1.length, s2.length, q3, q4, s1, s2⟩ : Pl)) := Lib.hid ⟨⟨by have := HS1.out; show s1.length ≤ 1000; omega, by have := HS1.out; show s2.length ≤ 1000; omega⟩, hr3, hr4⟩
          have HB3 := Lib.hid hb3
          have HB4 := Lib.hid hb4
          have HOW8 : Hid ((w1.alloc (.cells #[.int .i64 D, .int .i64 F, .int .i64 T, .int .i64 G1, .int .i64 M1, .int .i64 B1, .slice a3 s1.length q3, .int .i64 G2, .int .i64 M2, .int .i64 B2, .slice a4 s2.length q4] 37)).ownsRow 0 37 11 v8 ps.length (pv ps)) := Lib.hid (owns_only (S := fun _ => False) (K1.out.alloc _) H8.out (fun _ _ f => f))
          clear k1 hr3 hr4 hb3 hb4 HTM c0 c1' c2' c3 c4 c5 c6 c7 c8 c9 c10
          go_wp2_with (at_builtin; refine append_mine rfl _ _ 30 rfl 37 ip _ 11 120 Try.underlying30 hip hp0 hp1 hp2 rfl (by decide) _ ps.length _ rfl HOW8.out ⟨w1.heap.size, 0, none⟩ 1 1 (pv [(⟨D, F, T, G1, M1, B1, G2, M2, B2, a3, a4, s1.length, s2.length, q3, q4, s1, s2⟩ : Pl)]) rfl ?c1 ?c2 ?c3 ?c4 ?c5 ?_)
          case c1 => rfl
          case c2 => exact news_pl (x := (⟨D, F, T, G1, M1, B1, G2, M2, B2, a3, a4, s1.length, s2.length, q3, q4, s1, s2⟩ : Pl)) rfl _
          case c3 => exact pv_one [(⟨D, F, T, G1, M1, B1, G2, M2, B2, a3, a4, s1.length, s2.length, q3, q4, s1, s2⟩ : Pl)]
          case c4 => have := HPL.out; unfold maxLen; omega
          case c5 => have := HPL.out; omega
          intro v8' w2 hown8 hgrow8 hkk8
          have HN8 : Hid (OwnP 37 w2 v8' (ps ++ [(⟨D, F, T, G1, M1, B1, G2, M2, B2, a3, a4, s1.length, s2.length, q3, q4, s1, s2⟩ : Pl)])) := Lib.hid (by unfold OwnP; rw [List.length_append, pv_append]; exact hown8)
          have HG8 := Lib.hid (Only.of_grown hgrow8)
          have HK8 := Lib.hid hkk8
          clear hown8 hgrow8 hkk8 HOW8
          have hpl1 : (ps ++ [(⟨D, F, T, G1, M1, B1, G2, M2, B2, a3, a4, s1.length, s2.length, q3, q4, s1, s2⟩ : Pl)]).length = i + 1 := by rw [List.length_append, HPL.out]; rfl
          obtain ⟨a8, d8, hv8, hc8, hrd8⟩ := HN8.out.reads (by omega)
          rw [hpl1] at hv8 hrd8 hc8
          obtain ⟨b8, o8, ha8, hcc⟩ := hrd8.2.2.resolve_left (by omega)
          obtain ⟨c0, c1', c2', c3, c4, c5, c6, c7, c8, c9, c10⟩ := hcc i (by omega)
          have hgd : (ps ++ [(⟨D, F, T, G1, M1, B1, G2, M2, B2, a3, a4, s1.length, s2.length, q3, q4, s1, s2⟩ : Pl)]).getD i default = (⟨D, F, T, G1, M1, B1, G2, M2, B2, a3, a4, s1.length, s2.length, q3, q4, s1, s2⟩ : Pl) := by rw [List.getD_eq_getElem?_getD, List.getElem?_append_right (by rw [HPL.out]; exact Nat.le_refl _), HPL.out]; simp
          rw [hgd] at c0 c1' c2' c3 c4 c5 c6 c7 c8 c9 c10
          dsimp only at c0 c1' c2' c3 c4 c5 c6 c7 c8 c9 c10
          subst ha8
          subst hv8
          have hil1 : (i : Int) < ((i + 1 : Nat) : Int) := by omega
          clear hpl1 hrd8 hcc hgd
          go_wp2_with fail
          refine (gto_any D F T G1 M1 B1 G2 M2 B2 a3 a4 s1.length s2.length q3 q4 _).mono ?_
          rintro _ w3 ⟨rfl, k3⟩
          have K3 := Lib.hid k3
          have HOW7 : Hid ((w3.alloc (.cells #[.int .i64 D, .int .i64 F, .int .i64 T, .int .i64 G1, .int .i64 M1, .int .i64 B1, .slice a3 s1.length q3, .int .i64 G2, .int .i64 M2, .int .i64 B2, .slice a4 s2.length q4] 39)).ownsRow 0 39 11 v7 ps.length (pv ps)) := Lib.hid (owns_only (S := fun _ => False) (K3.out.alloc _) (owns_only HG8.out (owns_only (S := fun _ => False) (K1.out.alloc _) H7.out (fun _ _ f => f)) (fun q e e' => HL.out.2.2.1 q e e')) (fun _ _ f => f))
          clear k3 c0 c1' c2' c3 c4 c5 c6 c7 c8 c9 c10
          go_wp2_with (at_builtin; refine append_mine rfl _ _ 32 rfl 39 it _ 11 120 Try.underlying32 hit ht0 ht1 ht2 rfl (by decide) _ ps.length _ rfl HOW7.out ⟨w3.heap.size, 0, none⟩ 1 1 (pv [(⟨D, F, T, G1, M1, B1, G2, M2, B2, a3, a4, s1.length, s2.length, q3, q4, s1, s2⟩ : Pl)]) rfl ?c1 ?c2 ?c3 ?c4 ?c5 ?_)
          case c1 => rfl
          case c2 => exact news_pl (x := (⟨D, F, T, G1, M1, B1, G2, M2, B2, a3, a4, s1.length, s2.length, q3, q4, s1, s2⟩ : Pl)) rfl _
          case c3 => exact pv_one [(⟨D, F, T, G1, M1, B1, G2, M2, B2, a3, a4, s1.length, s2.length, q3, q4, s1, s2⟩ : Pl)]
          case c4 => have := HPL.out; unfold maxLen; omega
          case c5 => have := HPL.out; omega
          intro v7' w4 hown7 hgrow7 hkk7
          have HN7 : Hid (OwnP 39 w4 v7' (ps ++ [(⟨D, F, T, G1, M1, B1, G2, M2, B2, a3, a4, s1.length, s2.length, q3, q4, s1, s2⟩ : Pl)])) := Lib.hid (by unfold OwnP; rw [List.length_append, pv_append]; exact hown7)
          have HNX := Lib.hid (LQ.next HL.out H7.out H8.out HO.out K1.out ((Only.refl (fun _ => False) w1).alloc _) HTK.out HB3.out HB4.out HG8.out HN8.out (fun q hq => (HK8.out q hq).imp_right (fun e => by rw [size_alloc]; exact e)) (K3.out.alloc _) (Only.of_grown hgrow7) (fun q hq => (hkk7 q hq).imp_right (fun e => by first | exact e | (rw [size_alloc]; exact e) | simpa using e)))
          clear hown7 hgrow7 hkk7 HOW7
          go_wp2_with fail
          go_roundw
          case rel => exact ⟨i + 1, ps ++ [(⟨D, F, T, G1, M1, B1, G2, M2, B2, a3, a4, s1.length, s2.length, q3, q4, s1, s2⟩ : Pl)], _, _, by omega, by omega, by go_num, rfl, rfl, Lib.hid (by rw [List.length_append, HPL.out]; rfl), HN7, Lib.hid HNX.out.2.1, Lib.hid HNX.out.1, Lib.hid HNX.out.2.2⟩
          case measure => simp [intOf]; omega
        · obtain rfl : i = 6 := by omega
          have hil' : (6 : Int) < len := by omega
          go_wp2_with fail
          go_meet
          exact ⟨ps, Lib.hid (by have := HPL.out; omega), H7, H8, Lib.hid (fun p hp => (HL.out.2.2.2 p hp).1), HO⟩
      · obtain rfl : i = len := by omega
        go_wp2_with fail
        go_meet
        exact ⟨ps, Lib.hid (by have := HPL.out; omega), H7, H8, Lib.hid (fun p hp => (HL.out.2.2.2 p hp).1), HO⟩
  case rest =>
    obtain ⟨ps, HPL, H7, H8, HTK, HO⟩ := hcut
    rename World => W1
    go_upto_region 8 with fail
    go_cut [2] from 41 to 47 (fun v2 wx => ∃ (ao : Option Addr) (n c : Nat) (us : List Int), v2 = .slice ao n c ∧ Hid (ReadsI wx ao n us) ∧ Hid (Only (fun _ => False) W1 wx))
    case first =>
      obtain ⟨hr, hlc, hcm, hnone⟩ := HW.out
      unfold maxLen at hcm
      rcases aw with _ | x
      · have := hnone rfl
        obtain rfl : cw = 0 := this
        obtain rfl : lw = 0 := by omega
        have hm0 : min (0 : Int) 6 = 0 := by decide
        go_wp2_with fail
        go_meet
        exact ⟨_, _, _, [], rfl, Lib.hid (nil_reads _ _), Lib.hid ((Only.refl _ _).alloc _)⟩
      · rcases Nat.lt_or_ge 6 lw with hlen | hlen
        all_goals
          obtain ⟨n, hn, hn3, hnl⟩ : ∃ n, n = min lw 6 ∧ n ≤ 6 ∧ n ≤ lw := ⟨_, rfl, by omega, by omega⟩
          have HR : Hid (ReadsI W1 (some x) n (ws.take n)) := Lib.hid ((hr.only HO.out (fun _ _ f => f)).take n hnl)
          generalize ws.take n = l' at HR
          clear hr hnone
          have hmin : min (lw : Int) 6 = (n : Int) := by omega
          first | (rw [Nat.min_eq_right (by omega : 6 ≤ lw)] at hn; subst hn) | (rw [Nat.min_eq_left (by omega : lw ≤ 6)] at hn; subst hn)
          go_wp2_with (first | (at_builtin; refine wpList_append_own _ rfl _ _ 31 rfl W1.heap.size 3 i0 (.int .i64 0) 1 8 Try.underlying31 hi0 hz0 hz1 hz2 rfl (by decide) _ _ _ rfl (World.ownsRow_lit W1 #[] 0 (Nat.le_refl _) (by decide) rfl) x _ _ (iv l') rfl ?c1 ?c2 ?c3 ?c4 ?c5 ?c6 ?_))
          case c1 => rw [iv_length, HR.out.1, Nat.mul_one]
          case c2 => exact newsI (HR.out.only ((Only.refl (fun _ => False) W1).alloc _) (fun _ _ f => f))
          case c3 => exact iv_one l'
          case c4 => unfold maxLen; omega
          case c5 => omega
          case c6 => simp
          intro v' w2 hown hgrow hne
          obtain ⟨g, c1, hv, hg⟩ := form_of hown (by simpa using hne)
          rw [hv] at hown ⊢
          clear hv hne
          have R1 := Lib.hid (ReadsI.of_owns hown (by unfold maxLen; omega) HR.out.2.2.1)
          have hb1 : Below W1.heap.size W1 w2 := ((Below.refl _ _).alloc (Nat.le_refl _) _).grown hgrow (by simp) (by intro k hk; simp [Value.ownBlock] at hk; omega)
          have O1 := Lib.hid (Only.of_below hb1)
          clear hown hgrow HR hb1
          go_wp2_with fail
          go_meet
          exact ⟨_, _, _, l', rfl, R1, O1⟩
    case rest =>
      obtain ⟨ao, nw, c2, us, rfl, HUS, HO2⟩ := hcut
      rename World => W2
      obtain ⟨a7, c7, rfl, hc7, hrd7⟩ := H7.out.reads (by have := HPL.out; omega)
      obtain ⟨a8, c8, rfl, hc8, hrd8⟩ := H8.out.reads (by have := HPL.out; omega)
      have HTW : Hid (∀ k, k < ps.length → TOk W2 (ps.getD k default)) := Lib.hid (fun k hk => (HTK.out _ (by rw [List.getD_eq_getElem?_getD, List.getElem?_eq_getElem hk]; exact List.getElem_mem hk)).only HO2.out (fun _ f => f.elim))
      have HM := Lib.hid ((many_any a7 ps.length c7 ps cr ao nw c2 us W2 (hrd7.only HO2.out (fun _ _ f => f)) hc7 (fun k hk => (HTW.out k hk).2) HUS.out HCR.out).mono fun _ _ h => many_u h)
      have HRM := Lib.hid (fun w' (ho : Only (fun _ => False) W2 w') => (rmany_any a8 ps.length c8 ps cr ao nw c2 us w' (hrd8.only (HO2.out.trans ho) (fun _ _ f => f)) (fun k hk => ⟨(HTW.out k hk).1, (HTW.out k hk).2.1.only ho (fun _ _ f => f), (HTW.out k hk).2.2.only ho (fun _ _ f => f)⟩) (HUS.out.only ho (fun _ _ f => f)) HCR.out).mono fun _ _ h => rmany_u h)
      have HFA := Lib.hid (many_facts ps us cr (by have := HPL.out; omega) HCR.out)
      have HOW := Lib.hid (HO.out.trans HO2.out)
      clear hrd7 hrd8 hc7 hc8 H7 H8
      unfold ManyU at HM HRM
      generalize manyG ps us cr = gs at *
      generalize manyE ps us cr = er at *
      go_wp2_with fail
      refine HM.out.mono ?_
      rintro _ w3 ⟨ag, cg, rfl, hg3, k3⟩
      have HG3 := Lib.hid hg3
      have K3 := Lib.hid k3
      clear hg3 k3
      go_wp2_with fail
      refine (HRM.out _ K3.out).mono ?_
      rintro _ w4 ⟨ah, ch, rfl, hg4, k4⟩
      have HG4 := Lib.hid (HG3.out.only k4 (fun _ _ f => f))
      have HR4 := Lib.hid hg4
      have K4 := Lib.hid (K3.out.trans k4)
      clear hg4 k4 HM HRM HG3 K3
      have hee : (er != er) = false := by simp
      have hgl : gs.length ≤ 1000 := HFA.out.1
      have hll : ((gs.length : Int) != (gs.length : Int)) = false := by simp
      go_wp2_with fail
      refine (grants_any _).mono ?_
      rintro _ w5 ⟨rfl, k5⟩
      have HG5 := Lib.hid (HG4.out.only k5 (fun _ _ f => f))
      have HR5 := Lib.hid (HR4.out.only k5 (fun _ _ f => f))
      have K5 := Lib.hid (HOW.out.trans (K4.out.trans k5))
      clear k5 HG4 HR4 K4 HOW
      go_wp2_with fail
      go_loopw [14] (fun iv wr => ∃ k : Nat, k ≤ gs.length ∧ iv = .int .i64 k ∧ Hid (Only (fun _ => False) w5 wr)) (fun iv _ => gs.length - (intOf iv).toNat)
      case atStart => exact ⟨0, by omega, rfl, Lib.hid (Only.refl _ _)⟩
      case round =>
        obtain ⟨k, hk, rfl, HOL⟩ := hrel
        by_cases h8 : k < gs.length
        · obtain ⟨lb, lo, rfl, hlc⟩ := HG5.out.2.resolve_left (by omega)
          obtain ⟨mb, mo, rfl, hmc⟩ := HR5.out.2.resolve_left (by omega)
          have HC1 := Lib.hid (hlc k h8)
          have HC2 := Lib.hid (hmc k h8)
          clear hlc hmc
          generalize gs.getD k default = gk at *
          obtain ⟨gg, gu, ga, gf⟩ := gk
          have HSL : Hid (∀ w', Only (fun _ => False) wr w' → Only (fun _ => False) wr w' ∧ w'.cell? ⟨lb, lo + k * 4, none⟩ = some (.int .i64 gg) ∧ w'.cell? ⟨lb, lo + k * 4 + 1, none⟩ = some (.int .i64 gu) ∧ w'.cell? ⟨lb, lo + k * 4 + 2, none⟩ = some (.int .i64 ga) ∧ w'.cell? ⟨lb, lo + k * 4 + 3, none⟩ = some (.bool gf) ∧ w'.cell? ⟨mb, mo + k * 4, none⟩ = some (.int .i64 gg) ∧ w'.cell? ⟨mb, mo + k * 4 + 1, none⟩ = some (.int .i64 gu) ∧ w'.cell? ⟨mb, mo + k * 4 + 2, none⟩ = some (.int .i64 ga) ∧ w'.cell? ⟨mb, mo + k * 4 + 3, none⟩ = some (.bool gf)) := Lib.hid (fun w' ho => by
            obtain ⟨l0, l1, l2, l3⟩ := HC1.out
            obtain ⟨l4, l5, l6, l7⟩ := HC2.out
            have hh : ∀ {p : Addr} {v : Value}, w5.cell? p = some v → w'.cell? p = some v := fun h => (HOL.out.trans ho).cell' h (fun f => f)
            exact ⟨ho, hh l0, hh l1, hh l2, hh l3, hh l4, hh l5, hh l6, hh l7⟩)
          have k0' : (0 : Int) ≤ k := by omega
          have kl' : (k : Int) < gs.length := by omega
          clear HC1 HC2
          go_upto_region 16 with fail
          refine wp_region_noPanic ?_
          refine wp_region_held_drew (S := (fun w' => Only (fun _ => False) wr w' ∧ w'.cell? ⟨lb, lo + k * 4, none⟩ = some (.int .i64 gg) ∧ w'.cell? ⟨lb, lo + k * 4 + 1, none⟩ = some (.int .i64 gu) ∧ w'.cell? ⟨lb, lo + k * 4 + 2, none⟩ = some (.int .i64 ga) ∧ w'.cell? ⟨lb, lo + k * 4 + 3, none⟩ = some (.bool gf) ∧ w'.cell? ⟨mb, mo + k * 4, none⟩ = some (.int .i64 gg) ∧ w'.cell? ⟨mb, mo + k * 4 + 1, none⟩ = some (.int .i64 gu) ∧ w'.cell? ⟨mb, mo + k * 4 + 2, none⟩ = some (.int .i64 ga) ∧ w'.cell? ⟨mb, mo + k * 4 + 3, none⟩ = some (.bool gf))) (by kernel_rfl) (HSL.out _ (Only.refl _ _).drew) (fun hHeld => ?_)
          have hot := Lib.hid ((Only.refl (fun _ => False) wr).drew)
          refine wpAnyH_take (i := 0) (v := ?_) rfl (by kernel_rfl) (by kernel_rfl) (by kernel_rfl) (fun _ _ _ h => h) (Or.inl ⟨by rfl, ?_⟩) (by assumption) ?_
          rotate_left 1
          · intro w' hSw
            try dsimp only at hSw
            go_simp
            try with_reducible rfl
          try simp only [List.getElem_toArray, List.getElem_cons_zero, Act.put, List.setIfInBounds_toArray, List.set_cons_zero, List.set_cons_succ]
          refine wpAnyH_take (i := 1) (v := ?_) rfl (by kernel_rfl) (by kernel_rfl) (by kernel_rfl) (fun _ _ _ h => h) (Or.inl ⟨by rfl, ?_⟩) (by assumption) ?_
          rotate_left 1
          · intro w' hSw
            try dsimp only at hSw
            go_simp
            try with_reducible rfl
          try simp only [List.getElem_toArray, List.getElem_cons_zero, List.getElem_cons_succ, Act.put, List.setIfInBounds_toArray, List.set_cons_zero, List.set_cons_succ]
          refine wpAnyH_take (i := 2) (v := ?_) rfl (by kernel_rfl) (by kernel_rfl) (by kernel_rfl) (fun _ _ _ h => h) (Or.inl ⟨by rfl, ?_⟩) (by assumption) ?_
          rotate_left 1
          · intro w' hSw
            try dsimp only at hSw
            go_simp
            try with_reducible rfl
          try simp only [List.getElem_toArray, List.getElem_cons_zero, List.getElem_cons_succ, Act.put, List.setIfInBounds_toArray, List.set_cons_zero, List.set_cons_succ]
          refine wpAnyH_take (i := 3) (v := ?_) rfl (by kernel_rfl) (by kernel_rfl) (by kernel_rfl) (fun _ _ _ h => h) (Or.inl ⟨by rfl, ?_⟩) (by assumption) ?_
          rotate_left 1
          · intro w' hSw
            try dsimp only at hSw
            go_simp
            try with_reducible rfl
          try simp only [List.getElem_toArray, List.getElem_cons_zero, List.getElem_cons_succ, Act.put, List.setIfInBounds_toArray, List.set_cons_zero, List.set_cons_succ]
          refine wpAnyH_take (i := 4) (v := ?_) rfl (by kernel_rfl) (by kernel_rfl) (by kernel_rfl) (fun _ _ _ h => h) (Or.inl ⟨by rfl, ?_⟩) (by assumption) ?_
          rotate_left 1
          · intro w' hSw
            try dsimp only at hSw
            go_simp
            try with_reducible rfl
          try simp only [List.getElem_toArray, List.getElem_cons_zero, List.getElem_cons_succ, Act.put, List.setIfInBounds_toArray, List.set_cons_zero, List.set_cons_succ]
          refine wpAnyH_take (i := 5) (v := ?_) rfl (by kernel_rfl) (by kernel_rfl) (by kernel_rfl) (fun _ _ _ h => h) (Or.inl ⟨by rfl, ?_⟩) (by assumption) ?_
          rotate_left 1
          · intro w' hSw
            try dsimp only at hSw
            go_simp
            try with_reducible rfl
          try simp only [List.getElem_toArray, List.getElem_cons_zero, List.getElem_cons_succ, Act.put, List.setIfInBounds_toArray, List.set_cons_zero, List.set_cons_succ]
          refine wpAnyH_take (i := 6) (v := ?_) rfl (by kernel_rfl) (by kernel_rfl) (by kernel_rfl) (fun _ _ _ h => h) (Or.inl ⟨by rfl, ?_⟩) (by assumption) ?_
          rotate_left 1
          · intro w' hSw
            try dsimp only at hSw
            go_simp
            try with_reducible rfl
          try simp only [List.getElem_toArray, List.getElem_cons_zero, List.getElem_cons_succ, Act.put, List.setIfInBounds_toArray, List.set_cons_zero, List.set_cons_succ]
          refine wpAnyH_take (i := 7) (v := ?_) rfl (by kernel_rfl) (by kernel_rfl) (by kernel_rfl) (fun _ _ _ h => h) (Or.inl ⟨by rfl, ?_⟩) (by assumption) ?_
          rotate_left 1
          · intro w' hSw
            try dsimp only at hSw
            go_simp
            try with_reducible rfl
          try simp only [List.getElem_toArray, List.getElem_cons_zero, List.getElem_cons_succ, Act.put, List.setIfInBounds_toArray, List.set_cons_zero, List.set_cons_succ]
          refine wpAnyH_ready (rs := [8]) (by kernel_rfl) (by simp) ?_
          refine AllReadyH.cons rfl (fun K hK => ?_) AllReadyH.nil
          try simp only [List.getElem_toArray, List.getElem_cons_zero, List.getElem_cons_succ]
          go_simp
          go_at_call 19
          with_reducible refine (like_yes gg gu ga gf _).mono ?_
          rintro _ wn ⟨rfl, ho⟩
          replace hot := Lib.hid (hot.out.trans ho)
          clear ho
          try dsimp only
          refine hK.out _ _ (HSL.out _ hot.out) (fun hHeld1 => ?_)
          clear hK K
          try simp only [List.getElem_toArray, List.getElem_cons_zero, List.getElem_cons_succ, Act.put, List.setIfInBounds_toArray, List.set_cons_zero, List.set_cons_succ]
          refine wpAnyH_take (i := 9) (v := ?_) rfl (by kernel_rfl) (by kernel_rfl) (by kernel_rfl) (fun _ _ _ h => h) (Or.inl ⟨by rfl, ?_⟩) (by assumption) ?_
          rotate_left 1
          · intro w' hSw
            try dsimp only at hSw
            go_simp
            try with_reducible rfl
          try simp only [List.getElem_toArray, List.getElem_cons_zero, List.getElem_cons_succ, Act.put, List.setIfInBounds_toArray, List.set_cons_zero, List.set_cons_succ]
          refine wpAnyH_done (by kernel_rfl) ?_ _
          refine NoPanic.normal ?_
          go_wp2_with fail
          go_roundw
          case rel => exact ⟨k + 1, by omega, by go_num, Lib.hid (HOL.out.trans hot.out)⟩
          case measure => simp [intOf]; omega
        · obtain rfl : k = gs.length := by omega
          obtain ⟨f1, f2, f3⟩ := HFA.out
          have HH := Lib.hid (fun w' (ho : Only (fun _ => False) wr w') => held_any ag gs.length cg gs w' (HG5.out.only (HOL.out.trans ho) (fun _ _ f => f)) f2 f1)
          have HRH := Lib.hid (fun w' (ho : Only (fun _ => False) wr w') => rheld_any ah gs.length ch gs w' (HR5.out.only (HOL.out.trans ho) (fun _ _ f => f)) f2 f1)
          have HIS : Hid (er ≠ 0 ∨ intOr (gs.map Gr.a).sum ≤ cr) := Lib.hid (by
            rcases f3 with e | ⟨e1, e2⟩
            · exact .inl e
            · right
              have hI := HCR.out
              unfold InI at hI
              have h2 : isInt (gs.map Gr.a).sum = true := (isInt_iff _).2 (by omega)
              unfold intOr
              rw [if_pos h2]
              exact e2)
          clear f1 f2 f3 HFA
          generalize intOr (gs.map Gr.a).sum = hv at *
          have hvv : (hv == hv) = true := by simp
          go_wp2_with fail
          refine (HH.out _ (Only.refl _ _)).mono ?_
          rintro _ w6 ⟨rfl, k6⟩
          have K6 := Lib.hid k6
          clear k6
          go_wp2_with fail
          refine (HRH.out _ K6.out).mono ?_
          rintro _ w7 ⟨rfl, k7⟩
          have K7 := Lib.hid (K6.out.trans k7)
          clear k7
          by_cases hz : er = 0
          · subst hz
            have hle : hv ≤ cr := HIS.out.resolve_left (by simp)
            go_wp2_with fail
            refine (HH.out _ K7.out).mono ?_
            rintro _ w8 ⟨rfl, k8⟩
            have K8 := Lib.hid (K5.out.trans (HOL.out.trans (K7.out.trans k8)))
            clear k8
            go_wp2_with fail
            go_ret
            exact ⟨rfl, K8.out⟩
          · have hzb : (er != 0) = true := by simpa using hz
            have K8 := Lib.hid (K5.out.trans (HOL.out.trans K7.out))
            go_wp2_with fail
            go_ret
            exact ⟨rfl, K8.out⟩
theorem gmany_walk (a : Option Addr) (len cap : Nat) (cr : Int) (aw : Option Addr) (lw cw : Nat) (w : World) (h : ∃ ls, RowPl w a len cap ls) (hw : ∃ ws, IntsR w aw lw cw ws) (hcr : InI cr) :
    Calls Try.prog 4 #[.slice a len cap, .int .i64 cr, .slice aw lw cw] w fun e w' => e = .returned (.bool true) ∧ Below w.heap.size w w' :=
  h.elim fun ls h => hw.elim fun ws hw => (gmany_any a len cap ls cr aw lw cw ws w h hw hcr).mono fun _ _ ⟨h1, h2⟩ => ⟨h1, h2.none⟩
end Go.Proofs.Ytghajamcjcflaaa.tirw
namespace Go.Proofs.Ytghajamcjcflaaa.grantMany
open Go.ChangeShapes Go.WideShapes Go.ChangeAt Go.RowKit
set_option linter.unusedVariables false

theorem own : ownKnob Try.prog.godebug = none := by kernel_rfl
theorem laidOut : laidOutB Try.prog = true := by kernel_rfl

set_option maxRecDepth 100000 in
theorem lifted (os : Os) (started : os.Started) (H : Type) (enc : TypeId × Value → H) :
    ReturnsInHanded {} Try.checked os 4 .any (Rows.grantManySpec.pre6 enc Try.prog Try.f4 Rows.grantManyRow.domain false) (Rows.grantManySpec.post enc Try.prog Try.f4 false true false false) := by
  refine returnsInHanded_of_change (C := Try.checked) own started (by kernel_rfl) Try.func4
    (ChangeSpec.witness6 (enc := enc) (C := Try.checked) false ⟨#[], #[.slice none 0 0, .int .i64 0, .slice none 0 0], []⟩ 8 (by kernel_rfl) (by kernel_rfl) (by kernel_rfl) (by kernel_rfl)) ?_
  intro W base args ds gs before hval0 hW hcnd _
  have hval : ∀ (j : Nat) t v, Try.f4.params[j]? = some t → args[j]? = some v → Value.okWide Try.prog W .any base t v := hval0
  have hW' := hW
  obtain ⟨p, q, hA0, hV, rfl, hfz, hnd⟩ := hW
  have hA : DataW.TrodAll enc Try.prog W 0 (fun _ => true) true Try.f4.params.toList args.toList ds p := hA0
  rw [Try.params4] at hA hval
  obtain ⟨v0, vs0, d0, ds0, p0, q0, hargs, rfl, rfl, h0, r0⟩ := trodAll_cons hA
  obtain ⟨v1, vs1, d1, ds1, p1, q1, rfl, rfl, rfl, h1, r1⟩ := trodAll_cons r0
  obtain ⟨v2, vs2, d2, ds2, p2, q2, rfl, rfl, rfl, h2, r2⟩ := trodAll_cons r1
  obtain ⟨rfl, rfl, rfl⟩ := trodAll_nil r2
  obtain rfl : args = #[v0, v1, v2] := by cases args; simp_all
  obtain ⟨rfl, rfl⟩ := trodVars_none hV
  obtain ⟨a0, len0, cap0, rfl⟩ := okWide_slice Try.underlying30 (hval 0 30 v0 rfl rfl)
  have k0 := h0
  have lt0 : ∀ x ∈ p0, x.block < W.heap.size := by obtain ⟨m, hm⟩ := k0; exact DataW.trod_lt m _ _ _ hm
  have w0 := Exists.elim h0 (fun _ hf => tirw.plans_open hf)
  obtain ⟨a1, rfl, rfl, rfl, w1⟩ := open_int Try.underlying3 (hval 1 3 v1 rfl rfl) h1
  obtain ⟨a2, len2, cap2, rfl⟩ := okWide_slice Try.underlying31 (hval 2 31 v2 rfl rfl)
  have k2 := h2
  have lt2 : ∀ x ∈ p2, x.block < W.heap.size := by obtain ⟨m, hm⟩ := k2; exact DataW.trod_lt m _ _ _ hm
  have w2 := Exists.elim h2 (fun _ hf => tirw.ints_openI hf)
  clear hA0 hval0
  refine Calls.mono (tirw.gmany_walk a0 len0 cap0 a1 a2 len2 cap2 W w0 w2 (tirw.int_of_wf w1)) fun e W' ⟨he, bel⟩ => ?_
  subst he
  exact ⟨_, rfl, _, _, _, [], _, [], hW', trodAll_mk1 (shut_bool Try.underlying4 _), (trodAll_cons_mk (Below.trod laidOut (by kernel_rfl) (of_decide_eq_true (by kernel_rfl)) k0 bel lt0) (trodAll_cons_mk (shut_int Try.underlying3 w1) (trodAll_cons_mk (Below.trod laidOut (by kernel_rfl) (of_decide_eq_true (by kernel_rfl)) k2 bel lt2) trodAll_mk0))), rfl, bel.frame _, fun h => by cases h⟩

theorem over : Rows.grantManyRow.holds Try.pinned (OpenSpec.ofChange Rows.grantManySpec) :=
  OpenClaim.holds_of_wide 4 Try.f4 rfl rfl rfl rfl rfl rfl rfl ⟨rfl, rfl, rfl, rfl, rfl⟩ rfl rfl rfl rfl rfl (by kernel_rfl) Try.func4 (by kernel_rfl)
    (of_decide_eq_true (by kernel_rfl)) (by unfold Func.isWrapper; first | (rw [if_pos (by decide +kernel)]; kernel_rfl) | (rw [if_neg (by decide +kernel)]; exact ⟨rfl, rfl⟩))
    (fun os started H enc _ => lifted os started H enc)

/-- THE STATEMENT -/
theorem proved : Rows.GrantManySaid := over
end Go.Proofs.Ytghajamcjcflaaa.grantMany
