/- Grants: the walk of the program's Many. -/
import Derived.Test.YtghajamcjcflaaaGrJ
import Derived.Deep.RegionHeld3
namespace Go.Proofs.Ytghajamcjcflaaa.tirw
open Go.RowKit mem tirm intm bigm bigw
set_option linter.unusedVariables false

theorem mixG_zero (f g : Nat → Gr) : mixG f g 0 = g := by funext j; unfold mixG; rw [if_neg (by omega)]
theorem mixG_next {f g : Nat → Gr} {k : Nat} : ∀ j, j ≠ k → mixG f g (k + 1) j = mixG f g k j := by
  intro j hj
  unfold mixG
  by_cases h : j < k
  · rw [if_pos h, if_pos (by omega)]
  · rw [if_neg h, if_neg (by omega)]
theorem mixG_at (f g : Nat → Gr) (k : Nat) : mixG f g (k + 1) k = f k := by unfold mixG; rw [if_pos (by omega)]
def mAny (ps : List Pl) (ws : List Int) (cr : Int) (k : Nat) : Bool := (List.range k).any fun j => decide (mEr ps ws cr j = 0)
theorem mAny_succ (ps : List Pl) (ws : List Int) (cr : Int) (k : Nat) : mAny ps ws cr (k + 1) = (mAny ps ws cr k || decide (mEr ps ws cr k = 0)) := by
  unfold mAny
  rw [List.range_succ, List.any_append]
  simp
def ManyNo (ps : List Pl) (ws : List Int) : Prop := ps.length < 1 ∨ 4 < ps.length ∨ ps.length ≠ ws.length ∨ ¬ Unl ps
/-- what Many answers -/
def ManyAt (ps : List Pl) (ws : List Int) (cr : Int) (w : World) (e : Ending) (w' : World) : Prop :=
  (ManyNo ps ws ∨ ∃ k, k < ps.length ∧ mEr ps ws cr k = 1) ∧ e = .returned (.tuple #[.slice none 0 0, .int .i64 1]) ∧ Only (fun _ => False) w w'
  ∨ (¬ ManyNo ps ws ∧ ∀ k, k < ps.length → mEr ps ws cr k ≠ 1) ∧ mAny ps ws cr ps.length = false ∧ e = .returned (.tuple #[.slice none 0 0, .int .i64 9]) ∧ Only (fun _ => False) w w'
  ∨ (¬ ManyNo ps ws ∧ ∀ k, k < ps.length → mEr ps ws cr k ≠ 1) ∧ mAny ps ws cr ps.length = true ∧ (∃ g, e = .returned (.tuple #[.slice (some ⟨g, 0, none⟩) ps.length ps.length, .int .i64 0]) ∧ ReadsG w' (some ⟨g, 0, none⟩) ps.length ((List.range ps.length).map (mGr ps ws cr)) ∧ w.heap.size ≤ g) ∧ Only (fun _ => False) w w'
set_option maxRecDepth 100000 in
set_option maxHeartbeats 4000000 in
theorem many_any (a : Option Addr) (len cap : Nat) (ps : List Pl) (cr : Int) (aw : Option Addr) (lw cw : Nat) (ws : List Int) (w : World) (h : ReadsP w a len ps) (hcap : len ≤ cap) (ht : ∀ i, i < len → ReadsT w (ps.getD i default).a1 (ps.getD i default).n1 (ps.getD i default).t1 ∧ ReadsT w (ps.getD i default).a2 (ps.getD i default).n2 (ps.getD i default).t2) (hw : ReadsI w aw lw ws) (hcr : InI cr) :
    Calls Try.prog 16 #[.slice a len cap, .int .i64 cr, .slice aw lw cw] w (ManyAt ps ws cr w) := by
  have H := Lib.hid h
  have HT := Lib.hid ht
  have HWS := Lib.hid hw
  have hm := h.2.1
  have hmw := hw.2.1
  unfold maxLen at hmw
  have HL : Hid (ps.length = len ∧ ws.length = lw) := Lib.hid ⟨h.1, hw.1⟩
  have HUN := Lib.hid (unlike_any a len cap ps w h hcap)
  have HCI := Lib.hid (mCr_in ps ws cr hcr)
  obtain ⟨Q, hQ⟩ : ∃ Q, ManyAt ps ws cr w = Q := ⟨_, rfl⟩
  rw [hQ]
  have HQ1 : Hid (∀ w', (ManyNo ps ws ∨ ∃ k, k < len ∧ mEr ps ws cr k = 1) → Only (fun _ => False) w w' → Q (.returned (.tuple #[.slice none 0 0, .int .i64 1])) w') := Lib.hid (fun w' h1 h2 => by rw [← hQ]; exact .inl ⟨by rw [HL.out.1]; exact h1, rfl, h2⟩)
  have HQ2 : Hid (∀ w', ¬ ManyNo ps ws → (∀ k, k < len → mEr ps ws cr k ≠ 1) → mAny ps ws cr len = false → Only (fun _ => False) w w' → Q (.returned (.tuple #[.slice none 0 0, .int .i64 9])) w') := Lib.hid (fun w' h1 h2 h3 h4 => by rw [← hQ]; exact .inr (.inl ⟨⟨h1, by rw [HL.out.1]; exact h2⟩, by rw [HL.out.1]; exact h3, rfl, h4⟩))
  have HQ3 : Hid (∀ g w', ¬ ManyNo ps ws → (∀ k, k < len → mEr ps ws cr k ≠ 1) → mAny ps ws cr len = true → ReadsG w' (some ⟨g, 0, none⟩) len ((List.range len).map (mGr ps ws cr)) → w.heap.size ≤ g → Only (fun _ => False) w w' → Q (.returned (.tuple #[.slice (some ⟨g, 0, none⟩) len len, .int .i64 0])) w') := Lib.hid (fun g w' h1 h2 h3 h4 h5 h6 => by
    rw [← hQ]
    refine .inr (.inr ⟨⟨h1, by rw [HL.out.1]; exact h2⟩, by rw [HL.out.1]; exact h3, ⟨g, ?_, ?_, h5⟩, h6⟩)
    · rw [HL.out.1]
    · rw [HL.out.1]; exact h4)
  have HNO : Hid (len < 1 ∨ 4 < len ∨ len ≠ lw ∨ ¬ Unl ps → ManyNo ps ws) := Lib.hid (fun e => by unfold ManyNo; rw [HL.out.1, HL.out.2]; exact e)
  have HNN : Hid (¬ (len < 1) → ¬ (4 < len) → ¬ (len ≠ lw) → Unl ps → ¬ ManyNo ps ws) := Lib.hid (fun e1 e2 e3 e4 => by
    unfold ManyNo
    rw [HL.out.1, HL.out.2]
    rintro (e | e | e | e)
    · exact e1 e
    · exact e2 e
    · exact e3 e
    · exact e e4)
  clear h ht hw hcr hQ
  by_cases h1 : len < 1
  · have HF := Lib.hid (HQ1.out w (.inl (HNO.out (.inl h1))) (Only.refl _ _))
    have h1' : (len : Int) < 1 := by omega
    go_enter Try.func16, Try.ntmps16
    go_wp2_with fail
    exact HF.out
  by_cases h2 : 4 < len
  · have HF := Lib.hid (HQ1.out w (.inl (HNO.out (.inr (.inl h2)))) (Only.refl _ _))
    have h1' : ¬ (len : Int) < 1 := by omega
    have h2' : (4 : Int) < (len : Int) := by omega
    go_enter Try.func16, Try.ntmps16
    go_wp2_with fail
    exact HF.out
  by_cases h3 : len ≠ lw
  · have HF := Lib.hid (HQ1.out w (.inl (HNO.out (.inr (.inr (.inl h3))))) (Only.refl _ _))
    have h1' : ¬ (len : Int) < 1 := by omega
    have h2' : ¬ (4 : Int) < (len : Int) := by omega
    have h3' : ((len : Int) != (lw : Int)) = true := by rw [bne_iff_ne]; omega
    go_enter Try.func16, Try.ntmps16
    go_wp2_with fail
    exact HF.out
  have h3e : lw = len := by omega
  subst h3e
  have h1' : ¬ (lw : Int) < 1 := by omega
  have h2' : ¬ (4 : Int) < (lw : Int) := by omega
  have h3' : ((lw : Int) != (lw : Int)) = false := by simp
  by_cases h4 : Unl ps
  rotate_left
  · have HF := Lib.hid (fun w' => HQ1.out w' (.inl (HNO.out (.inr (.inr (.inr h4))))))
    rw [decide_eq_false h4] at HUN
    clear h4
    go_enter Try.func16, Try.ntmps16
    go_wp2_with fail
    refine HUN.out.mono ?_
    rintro _ w1 ⟨rfl, k1⟩
    have K1 := Lib.hid (HF.out _ k1)
    clear k1
    go_wp2_with fail
    exact K1.out
  rw [decide_eq_true h4] at HUN
  have HNM := Lib.hid (HNN.out h1 h2 h3 h4)
  have hmk := make_grants lw (by omega)
  clear h4 h1 h2 h3 HNO HNN
  go_enter Try.func16, Try.ntmps16
  go_wp2_with fail
  refine HUN.out.mono ?_
  rintro _ w1 ⟨rfl, k1⟩
  have K1 := Lib.hid k1
  clear k1 HUN
  have HM := Lib.hid (made_rowG w1 lw)
  go_wp2_with fail
  clear hmk
  go_loopw [1, 9, 39] (fun cv av i wr => ∃ (k : Nat) (c : Int) (b : Bool), k ≤ lw ∧ i = .int .i64 k ∧ cv = .int .i64 c ∧ av = .bool b ∧ Hid (mCr ps ws cr k = c) ∧ Hid (mAny ps ws cr k = b) ∧ Hid (∀ j, j < k → mEr ps ws cr j ≠ 1) ∧ Hid (RowG wr w1.heap.size lw (mixG (mGr ps ws cr) (fun _ => Gr0) k)) ∧ Hid (Only (fun _ => False) w1 wr ∧ w1.heap.size < wr.heap.size)) (fun _ _ i _ => lw - (intOf i).toNat)
  case atStart => exact ⟨0, cr, false, by omega, rfl, rfl, rfl, Lib.hid rfl, Lib.hid rfl, Lib.hid (fun j hj => by omega), Lib.hid (by rw [mixG_zero]; exact HM.out), Lib.hid ⟨(Only.refl _ _).alloc _, by rw [size_alloc]; omega⟩⟩
  case round =>
    obtain ⟨k, c, bb, hk, rfl, rfl, rfl, HC, HB, HE, HR, HO⟩ := hrel
    by_cases h8 : k < lw
    · obtain ⟨b, off, rfl, hcell⟩ := H.out.2.2.resolve_left (by omega)
      obtain ⟨bw, ow, rfl, hwc⟩ := HWS.out.2.2.2.resolve_left (by omega)
      have HOR : Hid (Only (fun _ => False) w wr) := Lib.hid (K1.out.trans HO.out.1)
      obtain ⟨c0, c1, c2, c3, c4, c5, c6, c7, c8, c9, c10⟩ := (hcell k h8).only HOR.out (fun f => f)
      have wk0 := HOR.out.cell' (hwc k h8) (fun f => f)
      have HTT := Lib.hid (HT.out k h8)
      have HCB := HCI.out k
      rw [HC.out] at HCB
      have HCB := Lib.hid HCB
      have HCN : Hid (mCr ps ws cr (k + 1) = c - (mGr ps ws cr k).a) := Lib.hid (by
        show mCr ps ws cr k - _ = _
        rw [← HC.out]; rfl)
      have HAN : Hid (mAny ps ws cr (k + 1) = (bb || decide (mEr ps ws cr k = 0))) := Lib.hid (by rw [mAny_succ, HB.out])
      have HGK : Hid (mGr ps ws cr k = gr1 (ps.getD k default) c (ws.getD k 0)) := Lib.hid (by unfold mGr; rw [HC.out])
      have HEK : Hid (mEr ps ws cr k = pE (ps.getD k default) c (ws.getD k 0)) := Lib.hid (by unfold mEr; rw [HC.out])
      have HMKC := Lib.hid (fun c' u w' h1 h2 h3 => make_any (ps.getD k default).D (ps.getD k default).F (ps.getD k default).T (ps.getD k default).G1 (ps.getD k default).M1 (ps.getD k default).B1 (ps.getD k default).G2 (ps.getD k default).M2 (ps.getD k default).B2 (ps.getD k default).a1 (ps.getD k default).a2 (ps.getD k default).n1 (ps.getD k default).n2 (ps.getD k default).c1 (ps.getD k default).c2 (ps.getD k default).t1 (ps.getD k default).t2 c' u w' h1 h2 h3)
      have HPC := Lib.hid (pE_cases (ps.getD k default) c (ws.getD k 0))
      unfold gr1 at HGK
      unfold pE at HGK HEK HPC
      have hk0 : (0 : Int) ≤ k := by omega
      have hkl : (k : Int) < lw := by omega
      have HRN := Lib.hid (fun (W : World) (h : RowG W w1.heap.size lw (mixG (mGr ps ws cr) (fun _ => Gr0) k)) => h.set (f' := mixG (mGr ps ws cr) (fun _ => Gr0) (k + 1)) k h8 (fun j _ hj => mixG_next j hj))
      rw [mixG_at] at HRN
      generalize mGr ps ws cr k = mg at *
      obtain ⟨me, hme⟩ : ∃ m, mEr ps ws cr k = m := ⟨_, rfl⟩
      rw [hme] at HEK HAN
      have HMEK := Lib.hid hme
      clear hme
      generalize ws.getD k 0 = wk at *
      generalize ps.getD k default = p at *
      obtain ⟨D, F, T, G1, M1, B1, G2, M2, B2, a1, a2, n1, n2, c1', c2', t1, t2⟩ := p
      dsimp only at c0 c1 c2 c3 c4 c5 c6 c7 c8 c9 c10 HTT HMKC HPC HGK HEK
      obtain ⟨W2, hW2⟩ : ∃ W, W = wr.alloc (.cells #[.int .i64 D, .int .i64 F, .int .i64 T, .int .i64 G1, .int .i64 M1, .int .i64 B1, .slice a1 n1 c1', .int .i64 G2, .int .i64 M2, .int .i64 B2, .slice a2 n2 c2'] 39) := ⟨_, rfl⟩
      have HO2 : Hid (Only (fun _ => False) wr W2 ∧ W2.heap.size = wr.heap.size + 1) := Lib.hid (by rw [hW2]; exact ⟨(Only.refl _ _).alloc _, by simp⟩)
      have HPB : Hid (BoxV W2 wr.heap.size [.int .i64 D, .int .i64 F, .int .i64 T, .int .i64 G1, .int .i64 M1, .int .i64 B1, .slice a1 n1 c1', .int .i64 G2, .int .i64 M2, .int .i64 B2, .slice a2 n2 c2']) := Lib.hid (by rw [hW2]; exact BoxV.new _ [.int .i64 D, .int .i64 F, .int .i64 T, .int .i64 G1, .int .i64 M1, .int .i64 B1, .slice a1 n1 c1', .int .i64 G2, .int .i64 M2, .int .i64 B2, .slice a2 n2 c2'] _ _ rfl)
      have HMK : Hid (∀ w', Only (fun _ => False) W2 w' → Calls Try.prog 22 #[.agg #[.int .i64 D, .int .i64 F, .int .i64 T, .int .i64 G1, .int .i64 M1, .int .i64 B1, .slice a1 n1 c1', .int .i64 G2, .int .i64 M2, .int .i64 B2, .slice a2 n2 c2'], .int .i64 c, .int .i64 wk] w' fun e w'' => e = .returned (.tuple #[(mkG D F T G1 M1 B1 G2 M2 B2 t1 t2 c wk).val, .int .i64 (mkE D F T G1 M1 B1 G2 M2 B2 t1 t2 c wk)]) ∧ Only (fun _ => False) w' w'') := Lib.hid (fun w' ho => HMKC.out c wk w' (HTT.out.1.only (HOR.out.trans (HO2.out.1.trans ho)) (fun _ _ f => f)) (HTT.out.2.only (HOR.out.trans (HO2.out.1.trans ho)) (fun _ _ f => f)) (by have := HCB.out.1; unfold InI at this; omega))
      generalize mkG D F T G1 M1 B1 G2 M2 B2 t1 t2 c wk = xg at *
      generalize mkE D F T G1 M1 B1 G2 M2 B2 t1 t2 c wk = xe at *
      obtain ⟨gg, gu, ga, gf⟩ := xg
      have HMK : Hid (∀ w', Only (fun _ => False) W2 w' → Calls Try.prog 22 #[.agg #[.int .i64 D, .int .i64 F, .int .i64 T, .int .i64 G1, .int .i64 M1, .int .i64 B1, .slice a1 n1 c1', .int .i64 G2, .int .i64 M2, .int .i64 B2, .slice a2 n2 c2'], .int .i64 c, .int .i64 wk] w' fun e w'' => e = .returned (.tuple #[.agg #[.int .i64 gg, .int .i64 gu, .int .i64 ga, .bool gf], .int .i64 xe]) ∧ Only (fun _ => False) w' w'') := HMK
      have HS : Hid (∀ w', Only (fun _ => False) W2 w' → Only (fun _ => False) W2 w' ∧ w'.cell? ⟨wr.heap.size, 0, none⟩ = some (.int .i64 D) ∧ w'.cell? ⟨wr.heap.size, 1, none⟩ = some (.int .i64 F) ∧ w'.cell? ⟨wr.heap.size, 2, none⟩ = some (.int .i64 T) ∧ w'.cell? ⟨wr.heap.size, 3, none⟩ = some (.int .i64 G1) ∧ w'.cell? ⟨wr.heap.size, 4, none⟩ = some (.int .i64 M1) ∧ w'.cell? ⟨wr.heap.size, 5, none⟩ = some (.int .i64 B1) ∧ w'.cell? ⟨wr.heap.size, 6, none⟩ = some (.slice a1 n1 c1') ∧ w'.cell? ⟨wr.heap.size, 7, none⟩ = some (.int .i64 G2) ∧ w'.cell? ⟨wr.heap.size, 8, none⟩ = some (.int .i64 M2) ∧ w'.cell? ⟨wr.heap.size, 9, none⟩ = some (.int .i64 B2) ∧ w'.cell? ⟨wr.heap.size, 10, none⟩ = some (.slice a2 n2 c2') ∧ w'.cell? ⟨bw, ow + k, none⟩ = some (.int .i64 wk)) := Lib.hid (fun w' ho => by
        have hb := HPB.out.only ho (fun f => f)
        exact ⟨ho, (hb 0 _ rfl).1, (hb 1 _ rfl).1, (hb 2 _ rfl).1, (hb 3 _ rfl).1, (hb 4 _ rfl).1, (hb 5 _ rfl).1, (hb 6 _ rfl).1, (hb 7 _ rfl).1, (hb 8 _ rfl).1, (hb 9 _ rfl).1, (hb 10 _ rfl).1, (HO2.out.1.trans ho).cell' wk0 (fun f => f)⟩)
      have HNEW : Hid (∀ (W W' : World), Only (fun _ => False) ((W.alloc (.cells #[.int .i64 0, .int .i64 0, .int .i64 0, .bool false] 50)).drew) W' → BoxV W' W.heap.size zerosG) := Lib.hid (fun W W' ho => (BoxV.new W zerosG _ _ rfl).only ((Only.refl (fun _ => False) _).drew.trans ho) (fun f => f))
      have HNEW2 : Hid (∀ (W W' : World), Only (fun _ => False) (W.alloc (.cells #[.int .i64 0, .int .i64 0, .int .i64 0, .bool false] 50)) W' → BoxV W' W.heap.size zerosG) := Lib.hid (fun W W' ho => (BoxV.new W zerosG _ _ rfl).only ho (fun f => f))
      clear hcell hwc HMKC
      go_wp2_with fail
      rw [← hW2]
      clear hW2 c0 c1 c2 c3 c4 c5 c6 c7 c8 c9 c10
      go_region_held3 (fun w' => Only (fun _ => False) W2 w' ∧ w'.cell? ⟨wr.heap.size, 0, none⟩ = some (.int .i64 D) ∧ w'.cell? ⟨wr.heap.size, 1, none⟩ = some (.int .i64 F) ∧ w'.cell? ⟨wr.heap.size, 2, none⟩ = some (.int .i64 T) ∧ w'.cell? ⟨wr.heap.size, 3, none⟩ = some (.int .i64 G1) ∧ w'.cell? ⟨wr.heap.size, 4, none⟩ = some (.int .i64 M1) ∧ w'.cell? ⟨wr.heap.size, 5, none⟩ = some (.int .i64 B1) ∧ w'.cell? ⟨wr.heap.size, 6, none⟩ = some (.slice a1 n1 c1') ∧ w'.cell? ⟨wr.heap.size, 7, none⟩ = some (.int .i64 G2) ∧ w'.cell? ⟨wr.heap.size, 8, none⟩ = some (.int .i64 M2) ∧ w'.cell? ⟨wr.heap.size, 9, none⟩ = some (.int .i64 B2) ∧ w'.cell? ⟨wr.heap.size, 10, none⟩ = some (.slice a2 n2 c2') ∧ w'.cell? ⟨bw, ow + k, none⟩ = some (.int .i64 wk))
        ((refine HS.out _ ?_; first | with_reducible exact Only.refl _ _ | with_reducible exact (Only.refl _ _).drew | with_reducible exact (Only.refl _ _).alloc _ | with_reducible exact ((Only.refl _ _).alloc _).drew | with_reducible exact ((Only.refl _ _).drew).alloc _ | with_reducible exact hot.out.alloc _ | with_reducible exact hot.out | exact puts_only _ [.int .i64 gg, .int .i64 gu, .int .i64 ga, .bool gf] 0 W2 _ hot.out (.inr (by first | exact Nat.le_refl _ | assumption))))
        ((go_at_call 22; (with_reducible refine (HMK.out _ (by go_split_ands; assumption)).mono ?_); rintro _ wn ⟨rfl, ho⟩; have hot := Lib.hid (show Only (fun _ => False) W2 wn from by go_split_ands; exact Only.trans (by assumption) ho); (try (with_reducible have hbx := HNEW.out _ _ ho)); (try (with_reducible have hbx := HNEW2.out _ _ ho)); (try (obtain ⟨⟨z0, z1, z2, z3⟩, y0, y1, y2, y3⟩ := hbx.gz))))
      all_goals
        first
        | (obtain ⟨q, W3, hqq, hb, hoW, hq9, hW⟩ := gbox_put hbx hot.out (by first | exact Nat.le_refl _ | assumption) (.int .i64 gg) (.int .i64 gu) (.int .i64 ga) (.bool gf)
           rw [hqq, ← hW])
        | (obtain ⟨q, W3, hqq, hb, hoW, hq9, hW⟩ := gbox_new hot.out (.int .i64 gg) (.int .i64 gu) (.int .i64 ga) (.bool gf) 50
           rw [hqq, ← hW])
        clear hW hqq
        have HGB := Lib.hid hb
        have K3 := Lib.hid (HO2.out.1.trans hoW)
        have HQ9 : Hid (w1.heap.size < q) := Lib.hid (by have := HO.out.2; have := HO2.out.2; omega)
        have HPB3 := Lib.hid (HPB.out.only hoW (fun f => f))
        have HR3 := Lib.hid (HR.out.only (HO2.out.1.trans hoW) (fun f => f))
        try clear hbx z0 z1 z2 z3 y0 y1 y2 y3
        clear ho hot hb hoW hq9
        have hKO : Hid (Only (fun _ => False) w1 W3) := Lib.hid (HO.out.1.trans K3.out)
        rcases HPC.out with e | e | e
        · subst e
          have HGE : Hid (mg = ⟨gg, gu, ga, gf⟩) := Lib.hid (by rw [HGK.out, if_neg (by decide)])
          have HEE : Hid (me = 0) := HEK
          have hb3 := HGB.out
          have g0 := (hb3 0 _ rfl).1; have g1 := (hb3 1 _ rfl).1; have g2 := (hb3 2 _ rfl).1; have g3 := (hb3 3 _ rfl).1
          obtain ⟨⟨d0, d1, d2, d3⟩, f0, f1, f2, f3⟩ := HR3.out k h8
          have hset := HRN.out W3 HR3.out
          rw [HGE.out] at hset
          dsimp only at hset
          have HSET := Lib.hid hset
          have hcn := HCN.out
          rw [HGE.out] at hcn
          dsimp only at hcn
          have HCN2 := Lib.hid hcn
          have HCI2 := Lib.hid (HCI.out (k + 1)).1
          have hci := (HCI.out (k + 1)).1
          rw [hcn] at hci
          have v1 : IntKind.i64.wrap (c - ga) = c - ga := by unfold InI at hci; rw [wrap_i64]; omega
          have v2 : wrap64 (c - ga) = c - ga := by unfold InI at hci; rw [wrap64_eq]; omega
          have HX := Lib.hid (Only.set (fun x => x = w1.heap.size) W3 w1.heap.size (k * 4) (.int .i64 gg) rfl)
          have HST : Hid (Only (fun _ => False) w1 ((((W3.setCell ⟨w1.heap.size, k * 4, none⟩ (.int .i64 gg)).setCell ⟨w1.heap.size, k * 4 + 1, none⟩ (.int .i64 gu)).setCell ⟨w1.heap.size, k * 4 + 2, none⟩ (.int .i64 ga)).setCell ⟨w1.heap.size, k * 4 + 3, none⟩ (.bool gf))) := Lib.hid ((((hKO.out.setCell (p := ⟨w1.heap.size, k * 4, none⟩) (.inr (Nat.le_refl _)) _).setCell (p := ⟨w1.heap.size, k * 4 + 1, none⟩) (.inr (Nat.le_refl _)) _).setCell (p := ⟨w1.heap.size, k * 4 + 2, none⟩) (.inr (Nat.le_refl _)) _).setCell (p := ⟨w1.heap.size, k * 4 + 3, none⟩) (.inr (Nat.le_refl _)) _)
          have hqr : ¬ (q = w1.heap.size) := by have := HQ9.out; omega
          have hqr2 : ¬ (w1.heap.size = q) := fun e => hqr e.symm
          clear hb3 hset hcn hci
          have HKS := Lib.hid (Nat.lt_of_lt_of_le HO.out.2 K3.out.size)
          have HEN : Hid (∀ j, j < k + 1 → mEr ps ws cr j ≠ 1) := Lib.hid (fun j hj => by
            by_cases e : j = k
            · subst e; rw [HMEK.out, HEE.out]; decide
            · exact HE.out j (by omega))
          have HAN2 : Hid (mAny ps ws cr (k + 1) = true) := Lib.hid (by rw [HAN.out, HEE.out]; simp)
          cases bb
          all_goals
            go_wp2_with fail
            exact ⟨⟨k + 1, c - ga, true, by omega, by go_num, rfl, rfl, HCN2, HAN2, HEN, HSET, Lib.hid ⟨HST.out, by simpa using HKS.out⟩⟩, by simp [intOf]; omega⟩
        · subst e
          have HFF := Lib.hid (HQ1.out W3 (.inr ⟨k, h8, by rw [HMEK.out]; exact HEK.out⟩) (K1.out.trans hKO.out))
          go_wp2_with fail
          exact HFF.out
        · subst e
          have HGE : Hid (mg = ⟨G1, 0, 0, true⟩) := Lib.hid (by rw [HGK.out, if_pos rfl])
          have HEE : Hid (me = 9) := HEK
          have hb3 := HGB.out
          have g0 := (hb3 0 _ rfl).1; have g1 := (hb3 1 _ rfl).1; have g2 := (hb3 2 _ rfl).1; have g3 := (hb3 3 _ rfl).1
          have y0 := (hb3 0 _ rfl).2; have y1 := (hb3 1 _ rfl).2; have y2 := (hb3 2 _ rfl).2; have y3 := (hb3 3 _ rfl).2
          have p3 := (HPB3.out 3 _ rfl).1
          obtain ⟨W4, hW4, HG4, KO4⟩ : ∃ W, W = (((W3.setCell ⟨q, 0, none⟩ (.int .i64 G1)).setCell ⟨q, 1, none⟩ (.int .i64 0)).setCell ⟨q, 2, none⟩ (.int .i64 0)).setCell ⟨q, 3, none⟩ (.bool true) ∧ BoxV W q [.int .i64 G1, .int .i64 0, .int .i64 0, .bool true] ∧ Only (fun x => x = q) W3 W :=
            ⟨_, rfl, hb3.put [.int .i64 G1, .int .i64 0, .int .i64 0, .bool true] rfl, puts_only q [.int .i64 G1, .int .i64 0, .int .i64 0, .bool true] 0 W3 W3 (Only.refl (fun x => x = q) _) (.inl rfl)⟩
          have hKO4 : Hid (Only (fun _ => False) w1 W4) := Lib.hid (hKO.out.then KO4 (fun x hx e => by have e' : x = q := e; have := HQ9.out; omega))
          have HR4 := Lib.hid (HR3.out.only KO4 (fun e => by have e' : w1.heap.size = q := e; have := HQ9.out; omega))
          have q0 := (HG4 0 _ rfl).1; have q1 := (HG4 1 _ rfl).1; have q2 := (HG4 2 _ rfl).1; have q3 := (HG4 3 _ rfl).1
          obtain ⟨⟨d0, d1, d2, d3⟩, f0, f1, f2, f3⟩ := HR4.out k h8
          have hset := HRN.out W4 HR4.out
          rw [HGE.out] at hset
          dsimp only at hset
          have HSET := Lib.hid hset
          have hcn := HCN.out
          rw [HGE.out] at hcn
          dsimp only at hcn
          have HCN2 : Hid (mCr ps ws cr (k + 1) = c) := Lib.hid (by rw [hcn]; omega)
          have hci := HCB.out.1
          have v1 : IntKind.i64.wrap (c - 0) = c := by unfold InI at hci; rw [wrap_i64]; omega
          have v2 : wrap64 (c - 0) = c := by unfold InI at hci; rw [wrap64_eq]; omega
          have v3 : IntKind.i64.wrap c = c := by unfold InI at hci; rw [wrap_i64]; omega
          have v4 : wrap64 c = c := by unfold InI at hci; rw [wrap64_eq]; omega
          have HST : Hid (Only (fun _ => False) w1 ((((W4.setCell ⟨w1.heap.size, k * 4, none⟩ (.int .i64 G1)).setCell ⟨w1.heap.size, k * 4 + 1, none⟩ (.int .i64 0)).setCell ⟨w1.heap.size, k * 4 + 2, none⟩ (.int .i64 0)).setCell ⟨w1.heap.size, k * 4 + 3, none⟩ (.bool true))) := Lib.hid ((((hKO4.out.setCell (p := ⟨w1.heap.size, k * 4, none⟩) (.inr (Nat.le_refl _)) _).setCell (p := ⟨w1.heap.size, k * 4 + 1, none⟩) (.inr (Nat.le_refl _)) _).setCell (p := ⟨w1.heap.size, k * 4 + 2, none⟩) (.inr (Nat.le_refl _)) _).setCell (p := ⟨w1.heap.size, k * 4 + 3, none⟩) (.inr (Nat.le_refl _)) _)
          have HKS := Lib.hid (Nat.lt_of_lt_of_le HO.out.2 (Nat.le_trans K3.out.size KO4.size))
          have HEN : Hid (∀ j, j < k + 1 → mEr ps ws cr j ≠ 1) := Lib.hid (fun j hj => by
            by_cases e : j = k
            · subst e; rw [HMEK.out, HEE.out]; decide
            · exact HE.out j (by omega))
          have HAN2 : Hid (mAny ps ws cr (k + 1) = bb) := Lib.hid (by rw [HAN.out, HEE.out]; simp)
          have hqr : ¬ (q = w1.heap.size) := by have := HQ9.out; omega
          have hqr2 : ¬ (w1.heap.size = q) := fun e => hqr e.symm
          rw [hW4] at q0 q1 q2 q3 d0 d1 d2 d3 f0 f1 f2 f3
          have HW4 := Lib.hid hW4
          clear hb3 hset hcn hci hW4 KO4 HG4
          cases bb
          all_goals
            go_wp2_with fail
            rw [← HW4.out]
            exact ⟨⟨k + 1, c, _, by omega, by go_num, rfl, rfl, HCN2, HAN2, HEN, HSET, Lib.hid ⟨HST.out, by simpa using HKS.out⟩⟩, by simp [intOf]; omega⟩
    · obtain rfl : k = lw := by omega
      have hrd := HR.out.reads
      have e : (List.range k).map (mixG (mGr ps ws cr) (fun _ => Gr0) k) = (List.range k).map (mGr ps ws cr) := List.map_congr_left (fun j hj => by unfold mixG; rw [if_pos (List.mem_range.1 hj)])
      rw [e] at hrd
      have HRD := Lib.hid hrd
      clear hrd e
      cases bb
      · have HFF := Lib.hid (HQ2.out wr HNM.out HE.out HB.out (K1.out.trans HO.out.1))
        go_wp2_with fail
        exact HFF.out
      · have HFF := Lib.hid (HQ3.out w1.heap.size wr HNM.out HE.out HB.out HRD.out K1.out.size (K1.out.trans HO.out.1))
        go_wp2_with fail
        exact HFF.out
end Go.Proofs.Ytghajamcjcflaaa.tirw
