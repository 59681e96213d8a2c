/- TierRises's walk. -/
import Derived.Test.YtcglhenbcdkkmaaTirX
namespace Go.Proofs.Ytcglhenbcdkkmaa.tirw
open Go.RowKit mem tirm intm bigm bigw
set_option linter.unusedVariables false

theorem ne_yes {c : Int} (h : c ≠ 0) : (c != 0) = true := by simpa using h

set_option maxRecDepth 100000 in
set_option maxHeartbeats 600000 in
theorem rises_any (G M B : Int) (a : Option Addr) (len cap : Nat) (ts : List Tr) (p n E1 E2 : Int) (w : World) (h : TiersR w a len cap ts) (hE1 : IntKind.u64.wrap p % 1099511627776 = E1) (hE2 : IntKind.u64.wrap n % 1073741824 = E2) :
    Calls Try.prog 5 #[.agg #[.int .i64 G, .int .i64 M, .int .i64 B, .slice a len cap], .int .i64 p, .int .i64 n] w fun e w' => e = .returned (.bool true) ∧ Only (fun _ => False) w w' := by
  have HTM := Lib.hid (fun w' (ho : Only (fun _ => False) w w') => tame2_any G M B a len cap (min len 9) ts w' ⟨h.1.only ho (fun _ _ f => f), h.2⟩ rfl)
  have HL9 : Hid ((ts.take (min len 9)).length ≤ 9) := Lib.hid (by rw [List.length_take]; omega)
  generalize ts.take (min len 9) = l' at *
  have t1 : (IntKind.u64.wrap p).tmod 1099511627776 = E1 := by rw [Int.tmod_eq_emod_of_nonneg (by rw [u64_wrapT]; omega)]; exact hE1
  have t2 : (IntKind.u64.wrap n).tmod 1073741824 = E2 := by rw [Int.tmod_eq_emod_of_nonneg (by rw [u64_wrapT]; omega)]; exact hE2
  have q1 : 0 ≤ E1 ∧ E1 < 1099511627776 := by rw [← hE1]; omega
  have q2 : 0 ≤ E2 ∧ E2 < 1073741824 := by rw [← hE2]; omega
  have v1 : IntKind.i64.wrap E1 = E1 := by rw [wrap_i64]; omega
  have v2 : IntKind.i64.wrap E2 = E2 := by rw [wrap_i64]; omega
  have v3 : wrap64 E1 = E1 := by rw [wrap64_eq]; omega
  have v4 : wrap64 E2 = E2 := by rw [wrap64_eq]; omega
  have v5 : wrap64 (1 + E1) = 1 + E1 := by rw [wrap64_eq]; omega
  have v6 : wrap64 (1 + E1 + E2) = 1 + E1 + E2 := by rw [wrap64_eq]; omega
  have v7 : wrap64 (1 + E1 - 1) = E1 := by rw [wrap64_eq]; omega
  have v8 : IntKind.i64.wrap (1 + E1 + E2) = 1 + E1 + E2 := by rw [wrap_i64]; omega
  obtain ⟨q3, q4⟩ := q1
  obtain ⟨q5, q6⟩ := q2
  obtain ⟨W0, hW0⟩ : ∃ W0, W0 = w.alloc (.cells #[.int .i64 G, .int .i64 M, .int .i64 B, .slice a len cap] 32) := ⟨_, rfl⟩
  have HO0 : Hid (Only (fun _ => False) w W0) := Lib.hid (by rw [hW0]; exact (Only.refl _ w).alloc _)
  have HFT : Hid (Four W0 w.heap.size) := Lib.hid (by rw [hW0]; exact Four.new rfl)
  clear h hE1 hE2
  go_enter Try.func5, Try.ntmps5
  go_wp2_with fail
  rw [← hW0]
  clear hW0
  refine (HTM.out _ HO0.out).mono ?_
  rintro _ w1 ⟨g, cp, rfl, hrd, ⟨hcp, hcx⟩, hg, ho⟩
  have HRD := Lib.hid hrd
  have HGG : Hid (w.heap.size < g) := Lib.hid (by
    obtain ⟨u0, hu0⟩ := HFT.out.1
    have h1 : w.heap.size < W0.heap.size := World.block_lt_of_cell? W0 _ hu0
    omega)
  have H1 := Lib.hid (HO0.out.trans ho)
  have HF1 := HFT.out.only ho (fun f => f)
  have HE := Lib.hid (HF1.set (.int .i64 G) (.int .i64 M) (.int .i64 B) (.slice (some ⟨g, 0, none⟩) l'.length cp))
  obtain ⟨⟨_, r0⟩, ⟨_, r1⟩, ⟨_, r2⟩, ⟨_, r3⟩, g0, g1, g2, g3⟩ := HF1
  obtain ⟨WA, hWA⟩ : ∃ WA, WA = (((w1.setCell ⟨w.heap.size, 0, none⟩ (.int .i64 G)).setCell ⟨w.heap.size, 1, none⟩ (.int .i64 M)).setCell ⟨w.heap.size, 2, none⟩ (.int .i64 B)).setCell ⟨w.heap.size, 3, none⟩ (.slice (some ⟨g, 0, none⟩) l'.length cp) := ⟨_, rfl⟩
  have HA : Hid (TarAt WA w.heap.size G M B (.slice (some ⟨g, 0, none⟩) l'.length cp) ∧ Only (fun q => q = w.heap.size) w1 WA) := Lib.hid (by rw [hWA]; exact ⟨⟨HE.out.1, HE.out.2.1, HE.out.2.2.1, HE.out.2.2.2.1⟩, HE.out.2.2.2.2⟩)
  have HRB : Hid (∀ w', Only (fun _ => False) WA w' → ReadsT w' (some ⟨g, 0, none⟩) l'.length l') := Lib.hid (fun w' ho' => (HRD.out.only HA.out.2 (fun y hy e => by injection hy with hy; subst hy; have e' : g = w.heap.size := e; have := HGG.out; omega)).only ho' (fun _ _ f => f))
  have HWA : Hid (Only (fun _ => False) w WA) := Lib.hid (H1.out.then HA.out.2 (fun q hq e => by have e' : q = w.heap.size := e; omega))
  have HS : Hid (∀ w', Only (fun _ => False) WA w' → Only (fun _ => False) WA w' ∧ w'.cell? ⟨w.heap.size, 0, none⟩ = some (.int .i64 G) ∧ w'.cell? ⟨w.heap.size, 1, none⟩ = some (.int .i64 M) ∧ w'.cell? ⟨w.heap.size, 2, none⟩ = some (.int .i64 B) ∧ w'.cell? ⟨w.heap.size, 3, none⟩ = some (.slice (some ⟨g, 0, none⟩) l'.length cp)) := Lib.hid (fun w' ho => ⟨ho, HA.out.1.only ho (fun f => f)⟩)
  obtain ⟨a0, a1, a2, a3⟩ := HA.out.1
  rw [hWA] at a0 a1 a2 a3
  clear hrd hg ho hcp hcx
  go_wp2_with fail
  rw [← hWA]
  clear hWA a0 a1 a2 a3 r0 r1 r2 r3 g0 g1 g2 g3
  obtain ⟨a0, a1, a2, a3⟩ := HA.out.1
  have HIX : Hid (∀ m w', Only (fun _ => False) WA w' → Calls Try.prog 25 #[.agg #[.int .i64 G, .int .i64 M, .int .i64 B, .slice (some ⟨g, 0, none⟩) l'.length cp], .int .i64 m] w' fun e w'' => e = .returned (.int .i64 (idxA G M B l' m)) ∧ Only (fun _ => False) w' w'') := Lib.hid (fun m w' ho => Index_any G M B _ l'.length cp l' m w' (HRB.out w' ho))
  generalize hip : idxA G M B l' (1 + E1) = ip at *
  generalize hin : idxA G M B l' (1 + E1 + E2) = iq at *
  have HI1 : Hid (∀ w', Only (fun _ => False) WA w' → Calls Try.prog 25 #[.agg #[.int .i64 G, .int .i64 M, .int .i64 B, .slice (some ⟨g, 0, none⟩) l'.length cp], .int .i64 (1 + E1)] w' fun e w'' => e = .returned (.int .i64 ip) ∧ Only (fun _ => False) w' w'') := Lib.hid (fun w' ho => by rw [← hip]; exact HIX.out _ w' ho)
  have HI2 : Hid (∀ w', Only (fun _ => False) WA w' → Calls Try.prog 25 #[.agg #[.int .i64 G, .int .i64 M, .int .i64 B, .slice (some ⟨g, 0, none⟩) l'.length cp], .int .i64 (1 + E1 + E2)] w' fun e w'' => e = .returned (.int .i64 iq) ∧ Only (fun _ => False) w' w'') := Lib.hid (fun w' ho => by rw [← hin]; exact HIX.out _ w' ho)
  have HIP := Lib.hid hip
  have HIQ := Lib.hid hin
  clear HIX hip hin
  go_region_held3 (fun w' => Only (fun _ => False) WA w' ∧ w'.cell? ⟨w.heap.size, 0, none⟩ = some (.int .i64 G) ∧ w'.cell? ⟨w.heap.size, 1, none⟩ = some (.int .i64 M) ∧ w'.cell? ⟨w.heap.size, 2, none⟩ = some (.int .i64 B) ∧ w'.cell? ⟨w.heap.size, 3, none⟩ = some (.slice (some ⟨g, 0, none⟩) l'.length cp))
    ((refine HS.out _ ?_; first | exact (Only.refl _ _).drew | exact Only.refl _ _ | exact ((Only.refl _ _).drew).trans ho | (go_split_ands; exact Only.trans (by assumption) ho)))
    (first | (go_at_call 25; (with_reducible refine (HI1.out _ (by go_split_ands; assumption)).mono ?_); rintro _ wn ⟨rfl, ho⟩) | (go_at_call 25; (with_reducible refine (HI2.out _ (by go_split_ands; assumption)).mono ?_); rintro _ wn ⟨rfl, ho⟩))
  have HFF : Hid (Only (fun _ => False) WA wn) := Lib.hid (by go_split_ands; assumption)
  clear HI1 HI2
  obtain ⟨_, b0, b1, b2, b3⟩ := HS.out _ HFF.out
  go_wp2_with fail
  have HSP := Lib.hid (split_any G M B (some ⟨g, 0, none⟩) l'.length cp l' (1 + E1 - 1) E2 wn (HRB.out wn HFF.out))
  have e7 : 1 + E1 - 1 = E1 := by omega
  with_reducible refine HSP.out.mono ?_
  rw [e7]
  clear HSP e7
  rintro _ w3 ⟨al, cl, rfl, hnl, h3⟩
  have H3 := Lib.hid (HFF.out.trans h3)
  have HNL := Lib.hid hnl
  clear h3 hnl b0 b1 b2 b3 a0 a1 a2 a3
  obtain ⟨_, b0, b1, b2, b3⟩ := HS.out _ H3.out
  have HCK := Lib.hid (fun w' (ho : Only (fun _ => False) WA w') => rtcheck_any G M B (some ⟨g, 0, none⟩) l'.length cp l' w' (HRB.out w' ho))
  by_cases hc : tchk G M B l' = 0
  · obtain ⟨hM0, hMM, hB0, hl0, hts⟩ := (tchk_ok G M B l').1 hc
    have hno : ¬ outB E1 E2 := by unfold outB; omega
    have hne : l' ≠ [] := by intro e; rw [e] at hl0; simp at hl0
    have e1 : ip = idxF (1 + E1) 0 l' := by rw [← HIP.out]; unfold idxA; rw [if_neg (fun e => e.elim (fun e => by omega) (fun e => e hc))]
    have e2 : iq = idxF (1 + E1 + E2) 0 l' := by rw [← HIQ.out]; unfold idxA; rw [if_neg (fun e => e.elim (fun e => by omega) (fun e => e hc))]
    have k1 := idxF_in (1 + E1) l' 0 0 hts hne
    have k2 := idxF_mono (1 + E1) (1 + E1 + E2) (by omega) l' 0 0 hts
    rw [← e1] at k1 k2
    rw [← e2] at k2
    have k3 := k1.1
    rw [spl_err hc hno]
    have HCO := Lib.hid (spl_cost hc hno)
    have HLI := Lib.hid (spl_ints hc hno)
    have HLE : Hid ((splL G M B l' E1 E2).length ≤ 1000) := Lib.hid (spl_len (by have := HL9.out; omega))
    generalize splL G M B l' E1 E2 = L at *
    rw [hc] at HCK
    clear hc hM0 hMM hB0 hl0 hts hno hne e1 e2 k1 HIP HIQ
    go_wp2_with fail
    refine (tiers_any _).mono ?_
    rintro _ w4 ⟨rfl, h4⟩
    have H4 := Lib.hid (H3.out.trans h4)
    have HN4 := Lib.hid (HNL.out.only h4 (fun _ _ f => f))
    clear h4 b0 b1 b2 b3
    obtain ⟨_, b0, b1, b2, b3⟩ := HS.out _ H4.out
    go_wp2_with fail
    refine (HCK.out _ H4.out).mono ?_
    rintro _ w5 ⟨rfl, h5⟩
    have H5 := Lib.hid (H4.out.trans h5)
    have HN5 := Lib.hid (HN4.out.only h5 (fun _ _ f => f))
    clear h5 b0 b1 b2 b3
    obtain ⟨_, b0, b1, b2, b3⟩ := HS.out _ H5.out
    go_wp2_with fail
    have hst : ∀ k d, k < l'.length → dearF d (l'.drop k) = dearF (max d (l'.getD k default).p) (l'.drop (k + 1)) := fun k d hk => by rw [drop_getT l' k hk]; rfl
    have HST := Lib.hid hst
    obtain ⟨D, hD⟩ : ∃ D, dearF 0 l' = D := ⟨_, rfl⟩
    rw [hD] at HCO
    have HDD := Lib.hid hD
    clear hst hD
    go_loop [11, 12] (fun dv i => ∃ (k : Nat) (d : Int), k ≤ l'.length ∧ i = .int .i64 k ∧ dv = .int .i64 d ∧ Hid (dearF d (l'.drop k) = D)) (fun _ i => l'.length - (intOf i).toNat)
    case atStart => exact ⟨0, 0, by omega, rfl, rfl, Lib.hid HDD.out⟩
    case round =>
      obtain ⟨k, d, hk, rfl, rfl, HD⟩ := hrel
      by_cases h8 : k < l'.length
      · obtain ⟨b, off, hb, hcell⟩ := (HRB.out _ H5.out).2.2.2.resolve_left (by omega)
        injection hb with hb
        injection hb with hb1 hb2
        subst hb1 hb2
        have c1 := (hcell k h8).2
        rw [Nat.zero_add] at c1
        have hd := HD.out
        rw [HST.out k d h8] at hd
        generalize (l'.getD k default).p = x at *
        clear hcell
        have hl9 := HL9.out
        by_cases hx : d < x
        · rw [Int.max_eq_right (by omega)] at hd
          have HN := Lib.hid hd
          clear hd
          go_wp2_with fail
          go_round
          case rel => exact ⟨k + 1, x, by omega, by go_num, rfl, HN⟩
          case measure => simp [intOf]; omega
        · rw [Int.max_eq_left (by omega)] at hd
          have HN := Lib.hid hd
          clear hd
          go_wp2_with fail
          go_round
          case rel => exact ⟨k + 1, d, by omega, by go_num, rfl, HN⟩
          case measure => simp [intOf]; omega
      · obtain rfl : k = l'.length := by omega
        have hd := HD.out
        rw [List.drop_length] at hd
        have hd2 : d = D := hd
        clear hd
        subst hd2
        have HC := Lib.hid (cost_any al L.length cl L w5 HN5.out HLI.out (by have := HLE.out; omega))
        unfold CostAt at HC
        rw [HCO.out.1, HCO.out.2.1] at HC
        obtain ⟨_, _, k5, k6, k7, k8⟩ := HCO.out
        generalize costB L = c at *
        have hP : E2 * d ≤ 1073741824 * 1048576 := Int.mul_le_mul (by omega) k8 k7 (by omega)
        have hP0 : 0 ≤ E2 * d := Int.mul_nonneg (by omega) k7
        have v9 : wrap64 (E2 * d) = E2 * d := by rw [wrap64_eq]; omega
        have v10 : IntKind.i64.wrap (E2 * d) = E2 * d := by rw [wrap_i64]; omega
        go_wp2_with fail
        refine HC.out.mono ?_
        rintro _ w6 ⟨rfl, h6⟩
        have H6 := Lib.hid (HWA.out.trans (H5.out.trans h6))
        clear h6
        go_wp2_with fail
        go_ret
        exact ⟨rfl, H6.out⟩
  · have e1 : ip = -1 := by rw [← HIP.out]; unfold idxA; rw [if_pos (.inr hc)]
    have e2 : iq = -1 := by rw [← HIQ.out]; unfold idxA; rw [if_pos (.inr hc)]
    have e3 : splE G M B l' E1 E2 = 1 := by unfold splE; rw [if_pos (.inl hc)]
    have e4 : splL G M B l' E1 E2 = [] := by unfold splL; rw [if_pos (.inl hc)]
    rw [e3, e4]
    have hcb := ne_yes hc
    subst e1 e2
    clear e3 e4 hc
    generalize tchk G M B l' = c at *
    go_wp2_with fail
    refine (tiers_any _).mono ?_
    rintro _ w4 ⟨rfl, h4⟩
    have H4 := Lib.hid (H3.out.trans h4)
    clear h4 b0 b1 b2 b3
    obtain ⟨_, b0, b1, b2, b3⟩ := HS.out _ H4.out
    go_wp2_with fail
    refine (HCK.out _ H4.out).mono ?_
    rintro _ w5 ⟨rfl, h5⟩
    have H5 := Lib.hid (H4.out.trans h5)
    clear h5
    go_wp2_with fail
    go_ret
    exact ⟨rfl, HWA.out.trans H5.out⟩
theorem rises_walk (G M B : Int) (a : Option Addr) (len cap : Nat) (ts : List Tr) (p n : Int) (w : World) (h : TiersR w a len cap ts) :
    Calls Try.prog 5 #[.agg #[.int .i64 G, .int .i64 M, .int .i64 B, .slice a len cap], .int .i64 p, .int .i64 n] w fun e w' => e = .returned (.bool true) ∧ Below w.heap.size w w' :=
  (rises_any G M B a len cap ts p n _ _ w h rfl rfl).mono fun _ _ ⟨h1, h2⟩ => ⟨h1, h2.none⟩
end Go.Proofs.Ytcglhenbcdkkmaa.tirw
