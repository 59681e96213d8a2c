/- TierVolumes's walk. -/
import Derived.Test.YtlldecklngcklabTirG
namespace Go.Proofs.Ytlldecklngcklab.tirw
open Go.RowKit mem tirm intm
set_option linter.unusedVariables false

theorem u64_wrapT (n : Int) : IntKind.u64.wrap n = n % 18446744073709551616 := by rfl
/-- a tariff's four cells -/
def TarAt (w : World) (q : Nat) (G M B : Int) (v : Value) : Prop := w.cell? ⟨q, 0, none⟩ = some (.int .i64 G) ∧ w.cell? ⟨q, 1, none⟩ = some (.int .i64 M) ∧ w.cell? ⟨q, 2, none⟩ = some (.int .i64 B) ∧ w.cell? ⟨q, 3, none⟩ = some v
theorem TarAt.only {S : Nat → Prop} {w w' : World} {q : Nat} {G M B : Int} {v : Value} (h : TarAt w q G M B v) (ho : Only S w w') (hs : ¬ S q) : TarAt w' q G M B v :=
  ⟨ho.cell' h.1 hs, ho.cell' h.2.1 hs, ho.cell' h.2.2.1 hs, ho.cell' h.2.2.2 hs⟩

set_option maxRecDepth 100000 in
set_option maxHeartbeats 4000000 in
theorem vol_no (G M B : Int) (a : Option Addr) (len cap : Nat) (ts : List Tr) (p n E1 E2 : Int) (w : World) (h : TiersR w a len cap ts) (hE1 : IntKind.u64.wrap p % 1099511627776 = E1) (hE2 : IntKind.u64.wrap n % 1073741824 = E2) (hc : tchk G 2 B (ts.take (min len 9)) ≠ 0) :
    Calls Try.prog 8 #[.agg #[.int .i64 G, .int .i64 M, .int .i64 B, .slice a len cap], .int .i64 p, .int .i64 n] w fun e w' => e = .returned (.bool true) ∧ Only (fun _ => False) w w' := by
  have HTM := Lib.hid (fun w' (ho : Only (fun _ => False) w w') => tame_any G M B a len cap (min len 9) ts w' ⟨h.1.only ho (fun _ _ f => f), h.2⟩ rfl)
  generalize ts.take (min len 9) = l' at *
  have t1 : (IntKind.u64.wrap p).tmod 1099511627776 = E1 := by rw [Int.tmod_eq_emod_of_nonneg (by rw [u64_wrapT]; omega)]; exact hE1
  have t2 : (IntKind.u64.wrap n).tmod 1073741824 = E2 := by rw [Int.tmod_eq_emod_of_nonneg (by rw [u64_wrapT]; omega)]; exact hE2
  have q1 : 0 ≤ E1 ∧ E1 < 1099511627776 := by rw [← hE1]; omega
  have q2 : 0 ≤ E2 ∧ E2 < 1073741824 := by rw [← hE2]; omega
  have v1 : IntKind.i64.wrap E1 = E1 := by rw [wrap_i64]; omega
  have v2 : IntKind.i64.wrap E2 = E2 := by rw [wrap_i64]; omega
  have v3 : wrap64 E1 = E1 := by rw [wrap64_eq]; omega
  have v4 : wrap64 E2 = E2 := by rw [wrap64_eq]; omega
  obtain ⟨q3, q4⟩ := q1
  obtain ⟨q5, q6⟩ := q2
  obtain ⟨W0, hW0⟩ : ∃ W0, W0 = w.alloc (.cells #[.int .i64 G, .int .i64 M, .int .i64 B, .slice a len cap] 24) := ⟨_, rfl⟩
  have HO0 : Hid (Only (fun _ => False) w W0) := Lib.hid (by rw [hW0]; exact (Only.refl _ w).alloc _)
  have HFT : Hid (Four W0 w.heap.size) := Lib.hid (by rw [hW0]; exact Four.new rfl)
  have HC := Lib.hid hc
  clear h hE1 hE2 hc
  go_enter Try.func8, Try.ntmps8
  go_wp2_with fail
  rw [← hW0]
  clear hW0
  refine (HTM.out _ HO0.out).mono ?_
  rintro _ w1 ⟨g, cp, rfl, hrd, hcp, hg, ho⟩
  have HRD := Lib.hid hrd
  have HGG : Hid (w.heap.size < g) := Lib.hid (by
    obtain ⟨u0, hu0⟩ := HFT.out.1
    have h1 : w.heap.size < W0.heap.size := World.block_lt_of_cell? W0 _ hu0
    omega)
  have H1 := Lib.hid (HO0.out.trans ho)
  have HF1 := HFT.out.only ho (fun f => f)
  have HE := Lib.hid (HF1.set (.int .i64 G) (.int .i64 M) (.int .i64 B) (.slice (some ⟨g, 0, none⟩) l'.length cp))
  obtain ⟨⟨_, r0⟩, ⟨_, r1⟩, ⟨_, r2⟩, ⟨_, r3⟩, g0, g1, g2, g3⟩ := HF1
  obtain ⟨WA, hWA⟩ : ∃ WA, WA = (((w1.setCell ⟨w.heap.size, 0, none⟩ (.int .i64 G)).setCell ⟨w.heap.size, 1, none⟩ (.int .i64 M)).setCell ⟨w.heap.size, 2, none⟩ (.int .i64 B)).setCell ⟨w.heap.size, 3, none⟩ (.slice (some ⟨g, 0, none⟩) l'.length cp) := ⟨_, rfl⟩
  obtain ⟨WB, hWB⟩ : ∃ WB, WB = WA.setCell ⟨w.heap.size, 1, none⟩ (.int .i64 2) := ⟨_, rfl⟩
  have HA : Hid (TarAt WA w.heap.size G M B (.slice (some ⟨g, 0, none⟩) l'.length cp) ∧ Only (fun q => q = w.heap.size) w1 WA) := Lib.hid (by rw [hWA]; exact ⟨⟨HE.out.1, HE.out.2.1, HE.out.2.2.1, HE.out.2.2.2.1⟩, HE.out.2.2.2.2⟩)
  have HBB : Hid (TarAt WB w.heap.size G 2 B (.slice (some ⟨g, 0, none⟩) l'.length cp) ∧ Only (fun q => q = w.heap.size) w1 WB) := Lib.hid (by
    rw [hWB]
    exact ⟨⟨by rw [cell_other (off_ne (by omega))]; exact HA.out.1.1, cell_same HA.out.1.2.1, by rw [cell_other (off_ne (by omega))]; exact HA.out.1.2.2.1, by rw [cell_other (off_ne (by omega))]; exact HA.out.1.2.2.2⟩, HA.out.2.setCell (p := ⟨w.heap.size, 1, none⟩) (.inl rfl) _⟩)
  have HRB : Hid (∀ w', Only (fun _ => False) WB w' → ReadsT w' (some ⟨g, 0, none⟩) l'.length l') := Lib.hid (fun w' ho' => (HRD.out.only HBB.out.2 (fun y hy e => by injection hy with hy; subst hy; have e' : g = w.heap.size := e; have := HGG.out; omega)).only ho' (fun _ _ f => f))
  have HWB : Hid (Only (fun _ => False) w WB) := Lib.hid (H1.out.then HBB.out.2 (fun q hq e => by have e' : q = w.heap.size := e; omega))
  have a1 := HA.out.1.2.1
  have a0 := HA.out.1.1
  have a2 := HA.out.1.2.2.1
  have a3 := HA.out.1.2.2.2
  have fA : WA.frozen? ⟨w.heap.size, 1, none⟩ = false := by rw [hWA, frozen_set, frozen_set, frozen_set, frozen_set]; exact g1
  have hWB2 := hWB
  rw [hWA] at a0 a1 a2 a3 fA hWB2
  obtain ⟨b0, b1, b2, b3⟩ := HBB.out.1
  rw [hWB2] at b0 b1 b2 b3
  clear hrd hcp hg ho
  go_wp2_with fail
  rw [← hWB2]
  clear hWB hWB2 hWA a0 a1 a2 a3 fA b0 b1 b2 b3 r0 r1 r2 r3 g0 g1 g2 g3
  have hcb : (tchk G 2 B l' == 0) = false := by simpa using HC.out
  have HCK := Lib.hid (fun w' (ho : Only (fun _ => False) WB w') => rtcheck_any G 2 B (some ⟨g, 0, none⟩) l'.length cp l' w' (HRB.out w' ho))
  refine (split_no G 2 B (some ⟨g, 0, none⟩) l'.length cp l' E1 (1 + E2) WB (HRB.out WB (Only.refl _ _)) HC.out).mono ?_
  rintro _ w2 ⟨rfl, h2⟩
  have H2 := Lib.hid h2
  clear h2
  obtain ⟨b0, b1, b2, b3⟩ := HBB.out.1.only H2.out (fun f => f)
  generalize hcc : tchk G 2 B l' = c at *
  go_wp2_with fail
  refine (Index_no G 2 B (some ⟨g, 0, none⟩) l'.length cp l' (E1 + (1 + E2)) w2 (HRB.out w2 H2.out) (.inr (by rw [hcc]; exact HC.out))).mono ?_
  rintro _ w3 ⟨rfl, h3⟩
  have H3 := Lib.hid (H2.out.trans h3)
  clear h3 b0 b1 b2 b3
  replace hcc := Lib.hid hcc
  go_wp2_with fail
  refine (tiers_any _).mono ?_
  rintro _ w4 ⟨rfl, h4⟩
  have H4 := Lib.hid (H3.out.trans h4)
  clear h4
  obtain ⟨b0, b1, b2, b3⟩ := HBB.out.1.only H4.out (fun f => f)
  go_wp2_with fail
  refine (HCK.out _ H4.out).mono ?_
  rintro _ w5 ⟨rfl, h5⟩
  have H5 := Lib.hid (H4.out.trans h5)
  clear h5
  go_wp2_with fail
  go_quiet (fail)
  go_wp2_with fail
  go_ret
  exact ⟨rfl, only_drewN (HWB.out.trans H5.out) _⟩
set_option maxRecDepth 100000 in
set_option maxHeartbeats 4000000 in
theorem vol_yes (G M B : Int) (a : Option Addr) (len cap : Nat) (ts : List Tr) (p n E1 E2 : Int) (w : World) (h : TiersR w a len cap ts) (hE1 : IntKind.u64.wrap p % 1099511627776 = E1) (hE2 : IntKind.u64.wrap n % 1073741824 = E2) (hc : tchk G 2 B (ts.take (min len 9)) = 0) :
    Calls Try.prog 8 #[.agg #[.int .i64 G, .int .i64 M, .int .i64 B, .slice a len cap], .int .i64 p, .int .i64 n] w fun e w' => e = .returned (.bool true) ∧ Only (fun _ => False) w w' := by
  have HTM := Lib.hid (fun w' (ho : Only (fun _ => False) w w') => tame_any G M B a len cap (min len 9) ts w' ⟨h.1.only ho (fun _ _ f => f), h.2⟩ rfl)
  generalize ts.take (min len 9) = l' at *
  have t1 : (IntKind.u64.wrap p).tmod 1099511627776 = E1 := by rw [Int.tmod_eq_emod_of_nonneg (by rw [u64_wrapT]; omega)]; exact hE1
  have t2 : (IntKind.u64.wrap n).tmod 1073741824 = E2 := by rw [Int.tmod_eq_emod_of_nonneg (by rw [u64_wrapT]; omega)]; exact hE2
  have q1 : 0 ≤ E1 ∧ E1 < 1099511627776 := by rw [← hE1]; omega
  have q2 : 0 ≤ E2 ∧ E2 < 1073741824 := by rw [← hE2]; omega
  have v1 : IntKind.i64.wrap E1 = E1 := by rw [wrap_i64]; omega
  have v2 : IntKind.i64.wrap E2 = E2 := by rw [wrap_i64]; omega
  have v3 : wrap64 E1 = E1 := by rw [wrap64_eq]; omega
  have v4 : wrap64 E2 = E2 := by rw [wrap64_eq]; omega
  obtain ⟨q3, q4⟩ := q1
  obtain ⟨q5, q6⟩ := q2
  obtain ⟨W0, hW0⟩ : ∃ W0, W0 = w.alloc (.cells #[.int .i64 G, .int .i64 M, .int .i64 B, .slice a len cap] 24) := ⟨_, rfl⟩
  have HO0 : Hid (Only (fun _ => False) w W0) := Lib.hid (by rw [hW0]; exact (Only.refl _ w).alloc _)
  have HFT : Hid (Four W0 w.heap.size) := Lib.hid (by rw [hW0]; exact Four.new rfl)
  have HC := Lib.hid hc
  clear h hE1 hE2 hc
  go_enter Try.func8, Try.ntmps8
  go_wp2_with fail
  rw [← hW0]
  clear hW0
  refine (HTM.out _ HO0.out).mono ?_
  rintro _ w1 ⟨g, cp, rfl, hrd, hcp, hg, ho⟩
  have HRD := Lib.hid hrd
  have HGG : Hid (w.heap.size < g) := Lib.hid (by
    obtain ⟨u0, hu0⟩ := HFT.out.1
    have h1 : w.heap.size < W0.heap.size := World.block_lt_of_cell? W0 _ hu0
    omega)
  have H1 := Lib.hid (HO0.out.trans ho)
  have HF1 := HFT.out.only ho (fun f => f)
  have HE := Lib.hid (HF1.set (.int .i64 G) (.int .i64 M) (.int .i64 B) (.slice (some ⟨g, 0, none⟩) l'.length cp))
  obtain ⟨⟨_, r0⟩, ⟨_, r1⟩, ⟨_, r2⟩, ⟨_, r3⟩, g0, g1, g2, g3⟩ := HF1
  obtain ⟨WA, hWA⟩ : ∃ WA, WA = (((w1.setCell ⟨w.heap.size, 0, none⟩ (.int .i64 G)).setCell ⟨w.heap.size, 1, none⟩ (.int .i64 M)).setCell ⟨w.heap.size, 2, none⟩ (.int .i64 B)).setCell ⟨w.heap.size, 3, none⟩ (.slice (some ⟨g, 0, none⟩) l'.length cp) := ⟨_, rfl⟩
  obtain ⟨WB, hWB⟩ : ∃ WB, WB = WA.setCell ⟨w.heap.size, 1, none⟩ (.int .i64 2) := ⟨_, rfl⟩
  have HA : Hid (TarAt WA w.heap.size G M B (.slice (some ⟨g, 0, none⟩) l'.length cp) ∧ Only (fun q => q = w.heap.size) w1 WA) := Lib.hid (by rw [hWA]; exact ⟨⟨HE.out.1, HE.out.2.1, HE.out.2.2.1, HE.out.2.2.2.1⟩, HE.out.2.2.2.2⟩)
  have HBB : Hid (TarAt WB w.heap.size G 2 B (.slice (some ⟨g, 0, none⟩) l'.length cp) ∧ Only (fun q => q = w.heap.size) w1 WB) := Lib.hid (by
    rw [hWB]
    exact ⟨⟨by rw [cell_other (off_ne (by omega))]; exact HA.out.1.1, cell_same HA.out.1.2.1, by rw [cell_other (off_ne (by omega))]; exact HA.out.1.2.2.1, by rw [cell_other (off_ne (by omega))]; exact HA.out.1.2.2.2⟩, HA.out.2.setCell (p := ⟨w.heap.size, 1, none⟩) (.inl rfl) _⟩)
  have HRB : Hid (∀ w', Only (fun _ => False) WB w' → ReadsT w' (some ⟨g, 0, none⟩) l'.length l') := Lib.hid (fun w' ho' => (HRD.out.only HBB.out.2 (fun y hy e => by injection hy with hy; subst hy; have e' : g = w.heap.size := e; have := HGG.out; omega)).only ho' (fun _ _ f => f))
  have HWB : Hid (Only (fun _ => False) w WB) := Lib.hid (H1.out.then HBB.out.2 (fun q hq e => by have e' : q = w.heap.size := e; omega))
  have a1 := HA.out.1.2.1
  have a0 := HA.out.1.1
  have a2 := HA.out.1.2.2.1
  have a3 := HA.out.1.2.2.2
  have fA : WA.frozen? ⟨w.heap.size, 1, none⟩ = false := by rw [hWA, frozen_set, frozen_set, frozen_set, frozen_set]; exact g1
  have hWB2 := hWB
  rw [hWA] at a0 a1 a2 a3 fA hWB2
  obtain ⟨b0, b1, b2, b3⟩ := HBB.out.1
  rw [hWB2] at b0 b1 b2 b3
  clear hrd hcp hg ho
  go_wp2_with fail
  rw [← hWB2]
  clear hWB hWB2 hWA a0 a1 a2 a3 fA b0 b1 b2 b3 r0 r1 r2 r3 g0 g1 g2 g3
  have HCK := Lib.hid (fun w' (ho : Only (fun _ => False) WB w') => rtcheck_any G 2 B (some ⟨g, 0, none⟩) l'.length cp l' w' (HRB.out w' ho))
  rw [HC.out] at HCK
  obtain ⟨hM0, _, hB0, hl0, hts⟩ := (tchk_ok G 2 B l').1 HC.out
  have hix := idxF_in (E1 + (1 + E2)) l' 0 0 hts (by intro e; rw [e] at hl0; simp at hl0)
  obtain ⟨j, hj⟩ : ∃ j : Nat, idxF (E1 + (1 + E2)) 0 l' = (j : Int) := ⟨(idxF (E1 + (1 + E2)) 0 l').toNat, by omega⟩
  have HSP := Lib.hid (split_vol G B (some ⟨g, 0, none⟩) l'.length cp l' E1 (1 + E2) WB (HRB.out WB (Only.refl _ _)) HC.out (by omega) (by omega) (by omega) (by omega))
  have HIX := Lib.hid (fun w' (ho : Only (fun _ => False) WB w') => Index_yes G 2 B (some ⟨g, 0, none⟩) l'.length cp l' (E1 + (1 + E2)) w' (HRB.out w' ho) (by omega) HC.out)
  rw [hj] at HSP HIX hix
  have hjl : j < l'.length := by omega
  have hjt : ((j : Int)).toNat = j := by omega
  rw [hjt] at HSP
  have HPR : Hid (∀ w', Only (fun _ => False) WB w' → w'.cell? ⟨g, j * 2 + 1, none⟩ = some (.int .i64 (l'.getD j default).p)) := Lib.hid (fun w' ho' => by
    obtain ⟨b, off, ha, hcell⟩ := (HRB.out w' ho').2.2.2.resolve_left (by omega)
    injection ha with ha
    injection ha with ha1 ha2
    subst ha1 ha2
    have h9 := (hcell j hjl).2
    rw [Nat.zero_add] at h9
    exact h9)
  generalize (l'.getD j default).p = y at *
  replace HSP : Hid (Calls Try.prog 16 #[.agg #[.int .i64 G, .int .i64 2, .int .i64 B, .slice (some ⟨g, 0, none⟩) l'.length cp], .int .i64 E1, .int .i64 (1 + E2)] WB fun e w' => ∃ a cap, e = .returned (.tuple #[.slice a 1 cap, .int .i64 0]) ∧ ReadsN w' a 1 [⟨j, 1 + E2, y⟩] ∧ Only (fun _ => False) WB w') := Lib.hid HSP.out
  have hj0 : (0 : Int) ≤ (j : Int) := by omega
  have hjl2 : (j : Int) < (l'.length : Int) := by omega
  clear hM0 hB0 hl0 hts hix hj hjt
  refine HSP.out.mono ?_
  rintro _ w2 ⟨al, cl, rfl, hnl, h2⟩
  have H2 := Lib.hid h2
  have HNL := Lib.hid hnl
  clear h2 hnl
  obtain ⟨b0, b1, b2, b3⟩ := HBB.out.1.only H2.out (fun f => f)
  go_wp2_with fail
  refine (HIX.out _ H2.out).mono ?_
  rintro _ w3 ⟨rfl, h3⟩
  have H3 := Lib.hid (H2.out.trans h3)
  have HN3 := Lib.hid (HNL.out.only h3 (fun _ _ f => f))
  clear h3 b0 b1 b2 b3
  go_wp2_with fail
  refine (tiers_any _).mono ?_
  rintro _ w4 ⟨rfl, h4⟩
  have H4 := Lib.hid (H3.out.trans h4)
  have HN4 := Lib.hid (HN3.out.only h4 (fun _ _ f => f))
  clear h4
  obtain ⟨b0, b1, b2, b3⟩ := HBB.out.1.only H4.out (fun f => f)
  go_wp2_with fail
  refine (HCK.out _ H4.out).mono ?_
  rintro _ w5 ⟨rfl, h5⟩
  have H5 := Lib.hid (H4.out.trans h5)
  have HN5 := HN4.out.only h5 (fun _ _ f => f)
  clear h5 b0 b1 b2 b3
  obtain ⟨b0, b1, b2, b3⟩ := HBB.out.1.only H5.out (fun f => f)
  obtain ⟨bl, ol, rfl, hcl⟩ := HN5.2.resolve_left (by simp)
  have d := hcl 0 (by simp)
  simp at d
  obtain ⟨d0, d1, d2⟩ := d
  have d3 := HPR.out _ H5.out
  clear hcl HN5
  have HS : Hid (∀ w', Only (fun _ => False) w5 w' → Only (fun _ => False) w5 w' ∧ w'.cell? ⟨bl, ol, none⟩ = some (.int .i64 j) ∧ w'.cell? ⟨bl, ol + 1, none⟩ = some (.int .i64 (1 + E2)) ∧ w'.cell? ⟨bl, ol + 2, none⟩ = some (.int .i64 y) ∧ w'.cell? ⟨w.heap.size, 3, none⟩ = some (.slice (some ⟨g, 0, none⟩) l'.length cp) ∧ w'.cell? ⟨g, j * 2 + 1, none⟩ = some (.int .i64 y)) := Lib.hid (fun w' ho => ⟨ho, ho.cell' d0 (fun f => f), ho.cell' d1 (fun f => f), ho.cell' d2 (fun f => f), ho.cell' b3 (fun f => f), ho.cell' d3 (fun f => f)⟩)
  go_wp2_with fail
  go_region_held3 (fun w' => Only (fun _ => False) w5 w' ∧ w'.cell? ⟨bl, ol, none⟩ = some (.int .i64 j) ∧ w'.cell? ⟨bl, ol + 1, none⟩ = some (.int .i64 (1 + E2)) ∧ w'.cell? ⟨bl, ol + 2, none⟩ = some (.int .i64 y) ∧ w'.cell? ⟨w.heap.size, 3, none⟩ = some (.slice (some ⟨g, 0, none⟩) l'.length cp) ∧ w'.cell? ⟨g, j * 2 + 1, none⟩ = some (.int .i64 y))
    ((refine HS.out _ ?_; first | exact (Only.refl _ _).drew | exact Only.refl _ _ | exact only_drewN (Only.refl _ _) _))
    (fail)
  go_wp2_with fail

  go_ret
  exact ⟨rfl, only_drewN (HWB.out.trans H5.out) _⟩
theorem vol_walk (G M B : Int) (a : Option Addr) (len cap : Nat) (ts : List Tr) (p n : Int) (w : World) (h : TiersR w a len cap ts) :
    Calls Try.prog 8 #[.agg #[.int .i64 G, .int .i64 M, .int .i64 B, .slice a len cap], .int .i64 p, .int .i64 n] w fun e w' => e = .returned (.bool true) ∧ Below w.heap.size w w' := by
  by_cases hc : tchk G 2 B (ts.take (min len 9)) = 0
  · exact (vol_yes G M B a len cap ts p n _ _ w h rfl rfl hc).mono fun _ _ ⟨h1, h2⟩ => ⟨h1, h2.none⟩
  · exact (vol_no G M B a len cap ts p n _ _ w h rfl rfl hc).mono fun _ _ ⟨h1, h2⟩ => ⟨h1, h2.none⟩
end Go.Proofs.Ytlldecklngcklab.tirw
