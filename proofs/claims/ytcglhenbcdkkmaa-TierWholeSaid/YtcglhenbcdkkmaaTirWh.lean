/- TierWhole's walk. -/
import Derived.Test.YtcglhenbcdkkmaaTirX
import Derived.Test.YtcglhenbcdkkmaaTirMw
namespace Go.Proofs.Ytcglhenbcdkkmaa.tirw
open Go.RowKit mem tirm intm bigm bigw
set_option linter.unusedVariables false

theorem whole_ok {G B : Int} {ts : List Tr} {P E1 E2 : Int} (hc : tchk G 1 B ts = 0) (q1 : 0 ≤ E1 ∧ E1 < 536870912) (q2 : 0 ≤ E2 ∧ E2 < 536870912) (q3 : 0 ≤ P ∧ P < 549755813888) :
    MergeOf (splL G 1 B ts P E1 ++ splL G 1 B ts (P + E1) E2) (splL G 1 B ts P (E1 + E2)) := by
  obtain ⟨_, _, _, _, hts⟩ := (tchk_ok G 1 B ts).1 hc
  have e : ∀ p n, 0 ≤ p → p ≤ 1099511627776 → 0 ≤ n → n ≤ 1073741824 → splL G 1 B ts p n = gradF (p + n) 0 p ts := by
    intro p n h1 h2 h3 h4
    by_cases hn : n = 0
    · have e : splL G 1 B ts p n = [] := by unfold splL; rw [if_pos (.inr (.inr hn))]
      rw [e, hn, Int.add_zero, gradF_none ts p hts h1]
    · have e1 : ¬ (tchk G 1 B ts ≠ 0 ∨ outB p n ∨ n = 0) := fun e => e.elim (fun e => e hc) (fun e => e.elim (fun e => by unfold outB at e; omega) hn)
      unfold splL
      rw [if_neg e1, if_neg (by omega)]
  rw [e P E1 (by omega) (by omega) (by omega) (by omega), e (P + E1) E2 (by omega) (by omega) (by omega) (by omega), e P (E1 + E2) (by omega) (by omega) (by omega) (by omega)]
  have h := gradF_joins ts P E1 E2 hts (by omega) (by omega) (by omega)
  rw [Int.add_assoc P E1 E2] at h ⊢
  exact h

set_option maxRecDepth 100000 in
set_option maxHeartbeats 1000000 in
theorem whole_any (G M B : Int) (a : Option Addr) (len cap : Nat) (ts : List Tr) (p p0 p1 P E1 E2 : Int) (w : World) (h : TiersR w a len cap ts) (hP : IntKind.u64.wrap p % 549755813888 = P) (hE1 : IntKind.u64.wrap p0 % 536870912 = E1) (hE2 : IntKind.u64.wrap p1 % 536870912 = E2) :
    Calls Try.prog 4 #[.agg #[.int .i64 G, .int .i64 M, .int .i64 B, .slice a len cap], .int .i64 p, .agg #[.int .i64 p0, .int .i64 p1]] w fun e w' => e = .returned (.bool true) ∧ Only (fun _ => False) w w' := by
  have HTM := Lib.hid (fun w' (ho : Only (fun _ => False) w w') => tame2_any G M B a len cap (min len 9) ts w' ⟨h.1.only ho (fun _ _ f => f), h.2⟩ rfl)
  have HL9 : Hid ((ts.take (min len 9)).length ≤ 9) := Lib.hid (by rw [List.length_take]; omega)
  generalize ts.take (min len 9) = l' at *
  have t0 : (IntKind.u64.wrap p).tmod 549755813888 = P := by rw [Int.tmod_eq_emod_of_nonneg (by rw [u64_wrapT]; omega)]; exact hP
  have t1 : (IntKind.u64.wrap p0).tmod 536870912 = E1 := by rw [Int.tmod_eq_emod_of_nonneg (by rw [u64_wrapT]; omega)]; exact hE1
  have t2 : (IntKind.u64.wrap p1).tmod 536870912 = E2 := by rw [Int.tmod_eq_emod_of_nonneg (by rw [u64_wrapT]; omega)]; exact hE2
  have q0 : 0 ≤ P ∧ P < 549755813888 := by rw [← hP]; omega
  have q1 : 0 ≤ E1 ∧ E1 < 536870912 := by rw [← hE1]; omega
  have q2 : 0 ≤ E2 ∧ E2 < 536870912 := by rw [← hE2]; omega
  have v1 : IntKind.i64.wrap E1 = E1 := by rw [wrap_i64]; omega
  have v2 : IntKind.i64.wrap E2 = E2 := by rw [wrap_i64]; omega
  have v3 : wrap64 E1 = E1 := by rw [wrap64_eq]; omega
  have v4 : wrap64 E2 = E2 := by rw [wrap64_eq]; omega
  have v5 : IntKind.i64.wrap P = P := by rw [wrap_i64]; omega
  have v6 : wrap64 P = P := by rw [wrap64_eq]; omega
  have v7 : wrap64 (P + E1) = P + E1 := by rw [wrap64_eq]; omega
  have v8 : wrap64 (E1 + E2) = E1 + E2 := by rw [wrap64_eq]; omega
  have HQ0 := Lib.hid q0
  have HQ1 := Lib.hid q1
  have HQ2 := Lib.hid q2
  obtain ⟨q3, q4⟩ := q1
  obtain ⟨q5, q6⟩ := q2
  obtain ⟨q7, q8⟩ := q0
  obtain ⟨W0, hW0⟩ : ∃ W0, W0 = (w.alloc (.cells #[.int .i64 G, .int .i64 M, .int .i64 B, .slice a len cap] 32)).alloc (.cells #[.int .i64 p0, .int .i64 p1] 33) := ⟨_, rfl⟩
  have HO0 : Hid (Only (fun _ => False) w W0) := Lib.hid (by rw [hW0]; exact ((Only.refl _ w).alloc _).alloc _)
  have HFT : Hid (Four W0 w.heap.size) := Lib.hid (by rw [hW0]; exact (Four.new rfl).only ((Only.refl (fun _ => False) _).alloc _) (fun f => f))
  have HPC : Hid (W0.cell? ⟨w.heap.size + 1, 0, none⟩ = some (.int .i64 p0) ∧ W0.cell? ⟨w.heap.size + 1, 1, none⟩ = some (.int .i64 p1)) := Lib.hid (by rw [hW0]; exact ⟨alloc_new _ _ _ _ _ _ (by simp) rfl, alloc_new _ _ _ _ _ _ (by simp) rfl⟩)
  clear h hE1 hE2 hP
  go_enter Try.func4, Try.ntmps4
  go_wp2_with fail
  rw [← hW0]
  clear hW0
  refine (HTM.out _ HO0.out).mono ?_
  rintro _ w1 ⟨g, cp, rfl, hrd, ⟨hcp, hcx⟩, hg, ho⟩
  have HRD := Lib.hid hrd
  have HGG : Hid (w.heap.size < g) := Lib.hid (by
    obtain ⟨u0, hu0⟩ := HFT.out.1
    have h1 : w.heap.size < W0.heap.size := World.block_lt_of_cell? W0 _ hu0
    omega)
  have H1 := Lib.hid (HO0.out.trans ho)
  have HF1 := HFT.out.only ho (fun f => f)
  have HE := Lib.hid (HF1.set (.int .i64 G) (.int .i64 M) (.int .i64 B) (.slice (some ⟨g, 0, none⟩) l'.length cp))
  obtain ⟨⟨_, r0⟩, ⟨_, r1⟩, ⟨_, r2⟩, ⟨_, r3⟩, g0, g1, g2, g3⟩ := HF1
  obtain ⟨WA, hWA⟩ : ∃ WA, WA = (((w1.setCell ⟨w.heap.size, 0, none⟩ (.int .i64 G)).setCell ⟨w.heap.size, 1, none⟩ (.int .i64 M)).setCell ⟨w.heap.size, 2, none⟩ (.int .i64 B)).setCell ⟨w.heap.size, 3, none⟩ (.slice (some ⟨g, 0, none⟩) l'.length cp) := ⟨_, rfl⟩
  have HA : Hid (TarAt WA w.heap.size G M B (.slice (some ⟨g, 0, none⟩) l'.length cp) ∧ Only (fun q => q = w.heap.size) w1 WA) := Lib.hid (by rw [hWA]; exact ⟨⟨HE.out.1, HE.out.2.1, HE.out.2.2.1, HE.out.2.2.2.1⟩, HE.out.2.2.2.2⟩)
  have HRB : Hid (∀ w', Only (fun _ => False) WA w' → ReadsT w' (some ⟨g, 0, none⟩) l'.length l') := Lib.hid (fun w' ho' => (HRD.out.only HA.out.2 (fun y hy e => by injection hy with hy; subst hy; have e' : g = w.heap.size := e; have := HGG.out; omega)).only ho' (fun _ _ f => f))
  have HWA : Hid (Only (fun _ => False) w WA) := Lib.hid (H1.out.then HA.out.2 (fun q hq e => by have e' : q = w.heap.size := e; omega))
  have HS : Hid (∀ w', Only (fun _ => False) WA w' → Only (fun _ => False) WA w' ∧ w'.cell? ⟨w.heap.size, 0, none⟩ = some (.int .i64 G) ∧ w'.cell? ⟨w.heap.size, 1, none⟩ = some (.int .i64 M) ∧ w'.cell? ⟨w.heap.size, 2, none⟩ = some (.int .i64 B) ∧ w'.cell? ⟨w.heap.size, 3, none⟩ = some (.slice (some ⟨g, 0, none⟩) l'.length cp)) := Lib.hid (fun w' ho => ⟨ho, HA.out.1.only ho (fun f => f)⟩)
  have x0 : WA.cell? ⟨w.heap.size + 1, 0, none⟩ = some (.int .i64 p0) := HA.out.2.cell' (ho.cell' HPC.out.1 (fun f => f)) (fun e => by have e' : w.heap.size + 1 = w.heap.size := e; omega)
  have x1 : WA.cell? ⟨w.heap.size + 1, 1, none⟩ = some (.int .i64 p1) := HA.out.2.cell' (ho.cell' HPC.out.2 (fun f => f)) (fun e => by have e' : w.heap.size + 1 = w.heap.size := e; omega)
  have HX := Lib.hid (And.intro x0 x1)
  obtain ⟨a0, a1, a2, a3⟩ := HA.out.1
  rw [hWA] at a0 a1 a2 a3 x0 x1
  clear hrd hg ho hcp hcx
  go_wp2_with fail
  rw [← hWA]
  clear hWA a0 a1 a2 a3 r0 r1 r2 r3 g0 g1 g2 g3 x0 x1
  obtain ⟨x0, x1⟩ := HX.out
  go_quiet (fail)
  have HSP := Lib.hid (fun P N w' (ho : Only (fun _ => False) WA w') => split_any G M B (some ⟨g, 0, none⟩) l'.length cp l' P N w' (HRB.out w' ho))
  have HCK := Lib.hid (fun w' (ho : Only (fun _ => False) WA w') => rtcheck_any G M B (some ⟨g, 0, none⟩) l'.length cp l' w' (HRB.out w' ho))
  clear x0 x1
  obtain ⟨a0, a1, a2, a3⟩ := HA.out.1
  go_wp2_with fail
  with_reducible refine (HSP.out P E1 _ (only_drewN (Only.refl _ _) _)).mono ?_
  rintro _ w2 ⟨al, cl, rfl, hnl, h2⟩
  have H2 : Hid (Only (fun _ => False) WA w2) := Lib.hid ((only_drewN (Only.refl _ _) _).trans h2)
  have HNL := Lib.hid hnl
  clear h2 hnl a0 a1 a2 a3
  obtain ⟨_, a0, a1, a2, a3⟩ := HS.out _ H2.out
  go_wp2_with fail
  with_reducible refine (HSP.out (P + E1) E2 _ H2.out).mono ?_
  rintro _ w3 ⟨am, cm, rfl, hnm, h3⟩
  have H3 := Lib.hid (H2.out.trans h3)
  have HNM := Lib.hid hnm
  have HNL3 := Lib.hid (HNL.out.only h3 (fun _ _ f => f))
  clear h3 hnm a0 a1 a2 a3 HNL
  obtain ⟨_, a0, a1, a2, a3⟩ := HS.out _ H3.out
  go_wp2_with fail
  with_reducible refine (HSP.out P (E1 + E2) _ H3.out).mono ?_
  rintro _ w4 ⟨ar, cr, rfl, hnr, h4⟩
  have H4 := Lib.hid (H3.out.trans h4)
  have HNR := Lib.hid hnr
  have HNL4 := Lib.hid (HNL3.out.only h4 (fun _ _ f => f))
  have HNM4 := Lib.hid (HNM.out.only h4 (fun _ _ f => f))
  clear h4 hnr a0 a1 a2 a3 HNL3 HNM
  obtain ⟨_, a0, a1, a2, a3⟩ := HS.out _ H4.out
  by_cases hc : tchk G M B l' = 0
  · obtain ⟨hM0, hMM, hB0, hl0, hts⟩ := (tchk_ok G M B l').1 hc
    have hno1 : ¬ outB P E1 := by unfold outB; omega
    have hno2 : ¬ outB (P + E1) E2 := by unfold outB; omega
    have hno3 : ¬ outB P (E1 + E2) := by unfold outB; omega
    rw [spl_err hc hno1, spl_err hc hno2, spl_err hc hno3]
    have hl9 := HL9.out
    have HF3 := Lib.hid (spl_facts hc hno3)
    have HN3 : Hid ((splL G M B l' P (E1 + E2)).length ≤ 1000) := Lib.hid (spl_len (by omega))
    have HBL : Hid (∀ w', Only (fun _ => False) w4 w' → Calls Try.prog 20 #[.slice ar (splL G M B l' P (E1 + E2)).length cr] w' fun e w'' => e = .returned (.tuple #[.int .i64 (E1 + E2), .bool true]) ∧ Only (fun _ => False) w' w'') := Lib.hid (fun w' ho => by
      have hb := blocks_any ar _ cr _ w' (HNR.out.only ho (fun _ _ f => f)) (spl_ints hc hno3) (by have := HN3.out; omega)
      unfold BlocksAt at hb
      have e3 : isInt (E1 + E2) = true := by rw [isInt_iff]; omega
      rw [HF3.out.2] at hb
      unfold intOr at hb
      rw [e3] at hb
      exact hb)
    have hcb : (tchk G M B l' == 0) = true := by simpa using hc
    rw [hc] at HCK
    by_cases hM : M = 2
    · subst hM
      by_cases hz : E1 + E2 = 0
      · have e1 : splL G 2 B l' P (E1 + E2) = [] := by unfold splL; rw [if_pos (.inr (.inr hz))]
        rw [e1] at HBL ⊢
        rw [hz] at HBL
        generalize (splL G 2 B l' P E1).length = u1 at *
        generalize (splL G 2 B l' (P + E1) E2).length = u2 at *
        clear hcb hM0 hMM hB0 hl0 hts hno1 hno2 hno3 HF3 HN3 e1
        go_wp2_with fail
        refine (tiers_any _).mono ?_
        rintro _ w5 ⟨rfl, h5⟩
        have H5 := Lib.hid h5
        clear h5 a0 a1 a2 a3
        obtain ⟨_, a0, a1, a2, a3⟩ := HS.out _ (H4.out.trans H5.out)
        go_wp2_with fail
        refine (HCK.out _ (H4.out.trans H5.out)).mono ?_
        rintro _ w6 ⟨rfl, h6⟩
        have H6 := Lib.hid (H5.out.trans h6)
        clear h6 a0 a1 a2 a3
        obtain ⟨_, a0, a1, a2, a3⟩ := HS.out _ (H4.out.trans H6.out)
        go_wp2_with fail
        refine (HBL.out _ H6.out).mono ?_
        rintro _ w7 ⟨rfl, h7⟩
        have H7 := Lib.hid (H6.out.trans h7)
        clear h7 a0 a1 a2 a3
        obtain ⟨_, a0, a1, a2, a3⟩ := HS.out _ (H4.out.trans H7.out)
        go_wp2_with fail
        go_quiet (fail)
        go_wp2_with fail
        go_ret
        exact ⟨rfl, only_drewN (HWA.out.trans (H4.out.trans H7.out)) _⟩
      · have hix := idxF_in (P + (E1 + E2)) l' 0 0 hts (by intro e; rw [e] at hl0; simp at hl0)
        have e1 : splL G 2 B l' P (E1 + E2) = [⟨idxF (P + (E1 + E2)) 0 l', E1 + E2, (l'.getD (idxF (P + (E1 + E2)) 0 l').toNat default).p⟩] := by
          unfold splL
          rw [if_neg (fun e => e.elim (fun e => e hc) (fun e => e.elim hno3 hz)), if_pos rfl]
        obtain ⟨j, hj⟩ : ∃ j : Nat, idxF (P + (E1 + E2)) 0 l' = (j : Int) := ⟨(idxF (P + (E1 + E2)) 0 l').toNat, by omega⟩
        rw [hj] at e1 hix
        have hjt : ((j : Int)).toNat = j := by omega
        rw [hjt] at e1
        have hjl : j < l'.length := by omega
        have HPR : Hid (∀ w', Only (fun _ => False) WA w' → w'.cell? ⟨g, j * 2 + 1, none⟩ = some (.int .i64 (l'.getD j default).p)) := Lib.hid (fun w' ho' => by
          obtain ⟨b, off, ha, hcell⟩ := (HRB.out w' ho').2.2.2.resolve_left (by omega)
          injection ha with ha
          injection ha with ha1 ha2
          subst ha1 ha2
          have h9 := (hcell j hjl).2
          rw [Nat.zero_add] at h9
          exact h9)
        rw [e1] at HBL HNR ⊢
        generalize (l'.getD j default).p = y at *
        have hj0 : (0 : Int) ≤ (j : Int) := by omega
        have hjl2 : (j : Int) < (l'.length : Int) := by omega
        generalize (splL G 2 B l' P E1).length = u1 at *
        generalize (splL G 2 B l' (P + E1) E2).length = u2 at *
        clear hcb hM0 hMM hB0 hl0 hts hno1 hno2 hno3 HF3 HN3 e1 hix hj hjt
        go_wp2_with fail
        refine (tiers_any _).mono ?_
        rintro _ w5 ⟨rfl, h5⟩
        have H5 := Lib.hid h5
        clear h5 a0 a1 a2 a3
        obtain ⟨_, a0, a1, a2, a3⟩ := HS.out _ (H4.out.trans H5.out)
        go_wp2_with fail
        refine (HCK.out _ (H4.out.trans H5.out)).mono ?_
        rintro _ w6 ⟨rfl, h6⟩
        have H6 := Lib.hid (H5.out.trans h6)
        clear h6 a0 a1 a2 a3
        obtain ⟨_, a0, a1, a2, a3⟩ := HS.out _ (H4.out.trans H6.out)
        go_wp2_with fail
        refine (HBL.out _ H6.out).mono ?_
        rintro _ w7 ⟨rfl, h7⟩
        have H7 := Lib.hid (H6.out.trans h7)
        clear h7 a0 a1 a2 a3
        obtain ⟨_, a0, a1, a2, a3⟩ := HS.out _ (H4.out.trans H7.out)
        have d3 := HPR.out _ (H4.out.trans H7.out)
        obtain ⟨bl, ol, rfl, hcl⟩ := (HNR.out.only H7.out (fun _ _ f => f)).2.resolve_left (by simp)
        have d := hcl 0 (by simp)
        simp at d
        obtain ⟨d0, d1, d2⟩ := d
        clear hcl
        go_wp2_with fail
        go_quiet (fail)
        go_wp2_with fail
        go_ret
        exact ⟨rfl, only_drewN (HWA.out.trans (H4.out.trans H7.out)) _⟩
    · obtain rfl : M = 1 := by omega
      have HMO := Lib.hid (whole_ok (E1 := E1) (E2 := E2) hc HQ1.out HQ2.out HQ0.out)
      have HOK : Hid (okM (splL G 1 B l' P E1 ++ splL G 1 B l' (P + E1) E2)) := Lib.hid (okM_of HMO.out (fun x hx => by
        have := (HF3.out.1 x hx).2.1
        rw [isInt_iff]; omega))
      have hn1 : (splL G 1 B l' P E1).length ≤ 1000 := spl_len (by omega)
      have hn2 : (splL G 1 B l' (P + E1) E2).length ≤ 1000 := spl_len (by omega)
      have HMG : Hid (∀ w', Only (fun _ => False) w4 w' → Calls Try.prog 16 #[.slice al (splL G 1 B l' P E1).length cl, .slice am (splL G 1 B l' (P + E1) E2).length cm] w' fun e w'' => ∃ a cap, e = .returned (.tuple #[.slice a (splL G 1 B l' P (E1 + E2)).length cap, .bool true]) ∧ ReadsN w'' a (splL G 1 B l' P (E1 + E2)).length (splL G 1 B l' P (E1 + E2)) ∧ Only (fun _ => False) w' w'') := Lib.hid (fun w' ho =>
        (merge_any al am _ _ cl cm _ _ w' (HNL4.out.only ho (fun _ _ f => f)) (HNM4.out.only ho (fun _ _ f => f)) (by omega) (by omega) (spl_ints hc hno1) (spl_ints hc hno2)).mono (fun e w'' hm => by
          rcases hm with ⟨_, out, a, cap, he, hmo, hrd, _, ho2⟩ | ⟨hno, _⟩
          · have eo := hmo.uniq HMO.out
            subst eo
            exact ⟨a, cap, he, hrd, ho2⟩
          · exact absurd HOK.out hno))
      generalize splL G 1 B l' P (E1 + E2) = L at *
      generalize (splL G 1 B l' P E1).length = u1 at *
      generalize (splL G 1 B l' (P + E1) E2).length = u2 at *
      clear hcb hM0 hMM hB0 hl0 hts hno1 hno2 hno3 HF3 HMO HOK hn1 hn2 hM
      go_wp2_with fail
      refine (tiers_any _).mono ?_
      rintro _ w5 ⟨rfl, h5⟩
      have H5 := Lib.hid h5
      clear h5 a0 a1 a2 a3
      obtain ⟨_, a0, a1, a2, a3⟩ := HS.out _ (H4.out.trans H5.out)
      go_wp2_with fail
      refine (HCK.out _ (H4.out.trans H5.out)).mono ?_
      rintro _ w6 ⟨rfl, h6⟩
      have H6 := Lib.hid (H5.out.trans h6)
      clear h6 a0 a1 a2 a3
      obtain ⟨_, a0, a1, a2, a3⟩ := HS.out _ (H4.out.trans H6.out)
      go_wp2_with fail
      refine (HBL.out _ H6.out).mono ?_
      rintro _ w7 ⟨rfl, h7⟩
      have H7 := Lib.hid (H6.out.trans h7)
      clear h7 a0 a1 a2 a3
      obtain ⟨_, a0, a1, a2, a3⟩ := HS.out _ (H4.out.trans H7.out)
      go_wp2_with fail
      refine (HMG.out _ H7.out).mono ?_
      rintro _ w8 ⟨av, cv, rfl, hrv, h8⟩
      have H8 := Lib.hid (H7.out.trans h8)
      have HRV := Lib.hid hrv
      have HNR8 := Lib.hid (HNR.out.only H8.out (fun _ _ f => f))
      have HSM := Lib.hid (lsame_yes av ar L.length cv cr L w8 HRV.out HNR8.out HN3.out)
      clear h8 hrv a0 a1 a2 a3
      generalize L.length = u3 at *
      go_wp2_with fail
      refine HSM.out.mono ?_
      rintro _ w9 ⟨rfl, h9⟩
      have H9 := Lib.hid (H8.out.trans h9)
      clear h9
      go_wp2_with fail
      go_ret
      exact ⟨rfl, HWA.out.trans (H4.out.trans H9.out)⟩
  · have e1 : ∀ p n, splE G M B l' p n = 1 := fun p n => by unfold splE; rw [if_pos (.inl hc)]
    have e2 : ∀ p n, splL G M B l' p n = [] := fun p n => by unfold splL; rw [if_pos (.inl hc)]
    rw [e1, e1, e1, e2, e2, e2]
    have hcb : (tchk G M B l' == 0) = false := by simpa using hc
    clear e1 e2 hc
    generalize tchk G M B l' = c at *
    go_wp2_with fail
    refine (tiers_any _).mono ?_
    rintro _ w5 ⟨rfl, h5⟩
    have H5 := Lib.hid (H4.out.trans h5)
    clear h5 a0 a1 a2 a3
    obtain ⟨_, a0, a1, a2, a3⟩ := HS.out _ H5.out
    go_wp2_with fail
    refine (HCK.out _ H5.out).mono ?_
    rintro _ w6 ⟨rfl, h6⟩
    have H6 := Lib.hid (H5.out.trans h6)
    clear h6
    go_wp2_with fail
    go_ret
    exact ⟨rfl, HWA.out.trans H6.out⟩
theorem whole_walk (G M B : Int) (a : Option Addr) (len cap : Nat) (ts : List Tr) (p p0 p1 : Int) (w : World) (h : TiersR w a len cap ts) :
    Calls Try.prog 4 #[.agg #[.int .i64 G, .int .i64 M, .int .i64 B, .slice a len cap], .int .i64 p, .agg #[.int .i64 p0, .int .i64 p1]] w fun e w' => e = .returned (.bool true) ∧ Below w.heap.size w w' :=
  (whole_any G M B a len cap ts p p0 p1 _ _ _ w h rfl rfl rfl).mono fun _ _ ⟨h1, h2⟩ => ⟨h1, h2.none⟩
end Go.Proofs.Ytcglhenbcdkkmaa.tirw
