/- FundsActs' walk. -/
import Derived.Test.YtfpeimihlihphaaFuT
import Derived.Test.YtfpeimihlihphaaFuNl
import Derived.Test.YtfpeimihlihphaaOpF
import Derived.Deep.CutRange
import Derived.Deep.CutBlock
namespace Go.Proofs.Ytfpeimihlihphaa.fnd
open Go.RowKit mem tre
set_option linter.unusedVariables false

theorem RowF.only' {w w' : World} {a : Option Addr} {len : Nat} (h : RowF w a len) (ho : Only (fun _ => False) w w') : RowF w' a len := by
  refine ⟨h.1, h.2.imp (fun x => x) fun ⟨b, off, e, hc⟩ => ⟨b, off, e, fun i hi => ?_⟩⟩
  obtain ⟨d, hd, hin⟩ := hc i hi
  have ho' : Only (fun q => w.heap.size ≤ q) w w' := ho.mono (fun _ _ f => f.elim)
  exact ⟨d, hd.keep (Nat.le_refl _) ho', hin.keep (Nat.le_refl _) ho'⟩
set_option maxRecDepth 100000 in
set_option maxHeartbeats 8000000 in
theorem acts_any (a1 : Option Addr) (l1 c1 : Nat) (ask : Int) (w0 : World) (h0 : RowF w0 a1 l1) :
    Calls Try.prog 7 #[.slice a1 l1 c1, .int .i64 ask] w0 fun e w' => e = .returned (.bool true) ∧ Only (fun _ => False) w0 w' := by
  have hm1 := h0.1
  unfold maxLen at hm1
  have H0 := Lib.hid h0
  clear h0
  have hc1 : ∀ w : World, (Op.equalIn 10000 63 (.agg #[.int .i64 0, .int .i64 0, .int .i64 0, .int .i64 0, .int .i64 0]) (.agg #[.int .i64 0, .int .i64 0, .int .i64 0, .int .i64 0, .int .i64 0])).run Try.prog w = .ok true w := fun w => (ac_cmpN 9990 zA zA ins_zA ins_zA w).trans (by simp)
  have hc2 : ∀ w : World, (Op.equalIn 9999 63 (.agg #[.int .i64 0, .int .i64 0, .int .i64 0, .int .i64 0, .int .i64 0]) (.agg #[.int .i64 0, .int .i64 0, .int .i64 0, .int .i64 0, .int .i64 0])).run Try.prog w = .ok true w := fun w => (ac_cmpN 9989 zA zA ins_zA ins_zA w).trans (by simp)
  have HC1 := Lib.hid hc1
  have HC2 := Lib.hid hc2
  go_enter Try.func7, Try.ntmps7
  go_wp2_with fail
  refine (nonek _).mono ?_
  rintro _ x1 ⟨rfl, k1⟩
  have K1 : Hid (Only (fun _ => False) w0 x1) := Lib.hid (k1)
  clear k1
  go_wp2_with fail
  refine (room_nil _ _ _ _ _ _ _).mono ?_
  rintro _ x2 ⟨rfl, k2⟩
  have K2 : Hid (Only (fun _ => False) w0 x2) := Lib.hid (K1.out.trans k2)
  clear k2 K1
  go_wp2_with fail
  refine (nonek _).mono ?_
  rintro _ x3 ⟨rfl, k3⟩
  have K3 : Hid (Only (fun _ => False) w0 x3) := Lib.hid (K2.out.trans k3)
  clear k3 K2
  go_wp2_with fail
  refine (roll_nil _ _ _).mono ?_
  rintro _ x4 ⟨rfl, k4⟩
  have K4 : Hid (Only (fun _ => False) w0 x4) := Lib.hid (K3.out.trans k4)
  clear k4 K3
  go_wp2_with fail
  refine (haves_any _).mono ?_
  rintro _ x5 ⟨rfl, k5⟩
  have K5 : Hid (Only (fun _ => False) w0 x5) := Lib.hid (K4.out.trans k5)
  clear k5 K4
  go_wp2_with fail
  refine (nonek _).mono ?_
  rintro _ x6 ⟨rfl, k6⟩
  have K6 : Hid (Only (fun _ => False) w0 x6) := Lib.hid (K5.out.trans k6)
  clear k6 K5
  go_wp2_with fail
  refine (available_nil _ _).mono ?_
  rintro _ x7 ⟨rfl, k7⟩
  have K7 : Hid (Only (fun _ => False) w0 x7) := Lib.hid (K6.out.trans k7)
  clear k7 K6
  go_wp2_with fail
  refine (nonek _).mono ?_
  rintro _ x8 ⟨rfl, k8⟩
  have K8 : Hid (Only (fun _ => False) w0 x8) := Lib.hid (K7.out.trans k8)
  clear k8 K7
  go_wp2_with fail
  refine (get_nil _ _).mono ?_
  rintro _ x9 ⟨rfl, k9⟩
  have K9 : Hid (Only (fun _ => False) w0 x9) := Lib.hid (K8.out.trans k9)
  clear k9 K8
  unfold aggA zA
  dsimp only
  go_wp2_with fail
  refine (nonek _).mono ?_
  rintro _ x10 ⟨rfl, k10⟩
  have K10 : Hid (Only (fun _ => False) w0 x10) := Lib.hid (K9.out.trans k10)
  clear k10 K9
  go_wp2_with fail
  refine (set_nil _ _ _ _ _ _ _).mono ?_
  rintro _ x11 ⟨rfl, k11⟩
  have K11 : Hid (Only (fun _ => False) w0 x11) := Lib.hid (K10.out.trans k11)
  clear k11 K10
  go_wp2_with fail
  refine (nonek _).mono ?_
  rintro _ x12 ⟨rfl, k12⟩
  have K12 : Hid (Only (fun _ => False) w0 x12) := Lib.hid (K11.out.trans k12)
  clear k12 K11
  go_wp2_with fail
  refine (nodes_nil _).mono ?_
  rintro _ x13 ⟨rfl, k13⟩
  have K13 : Hid (Only (fun _ => False) w0 x13) := Lib.hid (K12.out.trans k13)
  clear k13 K12
  go_wp2_with fail
  refine (nonek _).mono ?_
  rintro _ x14 ⟨rfl, k14⟩
  have K14 : Hid (Only (fun _ => False) w0 x14) := Lib.hid (K13.out.trans k14)
  clear k14 K13
  go_wp2_with fail
  refine (topup_nil _ _ _).mono ?_
  rintro _ x15 ⟨rfl, k15⟩
  have K15 : Hid (Only (fun _ => False) w0 x15) := Lib.hid (K14.out.trans k15)
  clear k15 K14
  go_wp2_with fail
  refine (nonek _).mono ?_
  rintro _ x16 ⟨rfl, k16⟩
  have K16 : Hid (Only (fun _ => False) w0 x16) := Lib.hid (K15.out.trans k16)
  clear k16 K15
  go_wp2_with fail
  refine (hold_nil _ _ _ _ _ _ _ _).mono ?_
  rintro _ x17 ⟨rfl, k17⟩
  have K17 : Hid (Only (fun _ => False) w0 x17) := Lib.hid (K16.out.trans k17)
  clear k17 K16
  go_wp2_with fail
  refine (nonek _).mono ?_
  rintro _ x18 ⟨rfl, k18⟩
  have K18 : Hid (Only (fun _ => False) w0 x18) := Lib.hid (K17.out.trans k18)
  clear k18 K17
  go_wp2_with fail
  refine (release_nil _ _ _ _ _).mono ?_
  rintro _ x19 ⟨rfl, k19⟩
  have K19 : Hid (Only (fun _ => False) w0 x19) := Lib.hid (K18.out.trans k19)
  clear k19 K18
  go_wp2_with fail
  refine (nonek _).mono ?_
  rintro _ x20 ⟨rfl, k20⟩
  have K20 : Hid (Only (fun _ => False) w0 x20) := Lib.hid (K19.out.trans k20)
  clear k20 K19
  go_wp2_with fail
  refine (commit_nil _ _ _ _ _).mono ?_
  rintro _ x21 ⟨rfl, k21⟩
  have K21 : Hid (Only (fun _ => False) w0 x21) := Lib.hid (K20.out.trans k21)
  clear k21 K20
  go_wp2_with fail
  refine (nonek _).mono ?_
  rintro _ x22 ⟨rfl, k22⟩
  have K22 : Hid (Only (fun _ => False) w0 x22) := Lib.hid (K21.out.trans k22)
  clear k22 K21
  go_wp2_with fail
  refine (refund_nil _ _ _ _ _).mono ?_
  rintro _ x23 ⟨rfl, k23⟩
  have K23 : Hid (Only (fun _ => False) w0 x23) := Lib.hid (K22.out.trans k23)
  clear k23 K22
  clear hc1 hc2
  rename World => w
  have H1 := Lib.hid (H0.out.only' K23.out)
  clear H0
  go_wp2_with fail
  refine (bnew_any w).mono ?_
  rintro _ w1 ⟨rfl, ht, ho⟩
  have hp0 : w.heap.size < w1.heap.size := ht.lt
  have HB0 : Hid (FB w.heap.size (w1.alloc (.cells Try.zeroCells72 72)) w.heap.size w1.heap.size A0) := Lib.hid ⟨ht.only ((Only.refl (fun _ => False) _).alloc _) (fun f => f), BkAt.fresh rbzero w1 _, Nat.le_refl _, by omega, by omega, Bok.new⟩
  have HO0 : Hid (Only (fun x => w.heap.size ≤ x) w (w1.alloc (.cells Try.zeroCells72 72))) := Lib.hid ((ho.mono (fun _ _ f => f.elim)).alloc _)
  clear ht ho
  obtain ⟨p, hp⟩ : ∃ p, p = w.heap.size := ⟨_, rfl⟩
  obtain ⟨q, hq⟩ : ∃ q, q = w1.heap.size := ⟨_, rfl⟩
  obtain ⟨w2, hw2⟩ : ∃ x, x = w1.alloc (.cells Try.zeroCells72 72) := ⟨_, rfl⟩
  have HP := Lib.hid hp
  go_upto_block 0 with fail
  simp only [← hp, ← hq, ← hw2] at HB0 HO0 hp0 ⊢
  clear hp hq hw2 hp0
  go_cut [11] from 89 to 136 (fun iv wx => ∃ (k : Int) (A : List Ac), iv = .int .i64 k ∧ Hid (FB p wx p q A) ∧ Hid (Only (fun x => p ≤ x) w wx))
  case first =>
    go_wp2_with fail
    go_loopw [11] (fun iv wr => ∃ (k : Nat) (A : List Ac), k ≤ 50 ∧ iv = .int .i64 (k : Int) ∧ Hid (FB p wr p q A) ∧ Hid (Only (fun x => p ≤ x) w wr)) (fun iv _ => 50 - (intOf iv).toNat)
    case atStart => exact ⟨0, A0, by omega, rfl, HB0, HO0⟩
    case round =>
      obtain ⟨k, A, hk, rfl, HB, HO⟩ := hrel
      by_cases h8 : k < l1
      · by_cases h20 : k < 50
        · obtain ⟨b, off, rfl, hcell⟩ := H1.out.2.resolve_left (by omega)
          obtain ⟨d, hd, hin⟩ := hcell k h8
          obtain ⟨z0, z1, z2, z3, z4, z5, z6, z7, z8, z9, z10, z11, z12⟩ := d
          have HD0 := Lib.hid hd
          have HI0 := Lib.hid hin
          replace hd := hd.keep (Nat.le_of_eq HP.out.symm) HO.out
          replace hin := hin.keep (Nat.le_of_eq HP.out.symm) HO.out
          obtain ⟨d0, d1, d2, d3, d4, d5, d6, d7, d8, d9, d10⟩ := hd
          obtain ⟨i0, i1, i2, i3⟩ := hin
          dsimp only at *
          have HDO := Lib.hid (do_any p p q A z0 z1 z2 z3 z4 z5 z6 z7 z8 z9 z10 z11 z12 wr HB.out i0 i1 i2 i3)
          clear hcell i0 i1 i2 i3
          have hk1 : (k : Int) < l1 := by omega
          have hk2 : (k : Int) < 50 := by omega
          have hk0 : (0 : Int) ≤ k := by omega
          go_wp2_with fail
          refine HDO.out.mono ?_
          rintro _ w5 ⟨rfl, ⟨A', hb⟩, ho⟩
          have HB5 := Lib.hid hb
          have HO5 : Hid (Only (fun x => p ≤ x) w w5) := Lib.hid (HO.out.trans (ho.mono (fun k _ e => e.elim (fun e => by omega) (fun e => by have := HB.out.2.2.2.1; omega))))
          clear hb ho d0 d1 d2 d3 d4 d5 d6 d7 d8 d9 d10 HDO HB HO
          obtain ⟨d0, d1, d2, d3, d4, d5, d6, d7, d8, d9, d10⟩ := HD0.out.keep (Nat.le_of_eq HP.out.symm) HO5.out
          obtain ⟨n0, n1, n2, n3⟩ := HI0.out.keep (Nat.le_of_eq HP.out.symm) HO5.out
          dsimp only at d0 d1 d2 d3 d4 d5 d6 d7 d8 d9 d10 n0 n1 n2 n3
          have HLS := Lib.hid (lists_any z0 z1 z2 z3 z4 z5 z6 z7 z8 z9 z10 z11 z12 w5 n0 n1 n2 n3)
          unfold aggAct at HLS
          clear n0 n1 n2 n3 HD0 HI0
          go_wp2_with fail
          refine HLS.out.mono ?_
          rintro _ w6 ⟨x1, f1, x2, f2, rfl, hr1, hc1, hr2, hc2, hb1, hb2, ho⟩
          have HB6 := Lib.hid (HB5.out.only ho)
          have HO6 : Hid (Only (fun x => p ≤ x) w w6) := Lib.hid (HO5.out.trans (ho.mono (fun _ _ f => f.elim)))
          generalize z5.take 5 = l at *
          generalize z9.take 5 = ls at *
          generalize hln : l.length = n at *
          generalize hlm : ls.length = m at *
          have HRM := Lib.hid (room_any p A' x1 n f1 l x2 m f2 ls w6 HB6.out.1 HB6.out.2.2.2.2.2 hr1 hc1 hr2)
          have HRR : Hid (∀ w', Only (fun _ => False) w6 w' → _) := Lib.hid (fun w' (ho : Only (fun _ => False) w6 w') => rroom_any q A' x1 n f1 l x2 m f2 ls w' (HB6.out.2.1.only ho (fun f => f)) HB6.out.2.2.2.2.2 (hr1.only ho (fun _ _ f => f)) hc1 (hr2.only ho (fun _ _ f => f)))
          clear hr1 hc1 hr2 hc2 hb1 hb2 ho HLS HB5 HO5 d0 d1 d2 d3 d4 d5 d6 d7 d8 d9 d10 hln hlm
          generalize roomN A' l ls = R at *
          generalize roomE l ls = E at *
          go_wp2_with fail
          refine HRM.out.mono ?_
          rintro _ w7 ⟨rfl, ho⟩
          have HO7 := Lib.hid ho
          clear ho HRM
          go_wp2_with fail
          refine (HRR.out _ HO7.out).mono ?_
          rintro _ w8 ⟨rfl, ho⟩
          have HB8 := Lib.hid (HB6.out.only (HO7.out.trans ho))
          have HO8 : Hid (Only (fun x => p ≤ x) w w8) := Lib.hid (HO6.out.trans ((HO7.out.trans ho).mono (fun _ _ f => f.elim)))
          clear ho HO7 HB6 HO6 HRR
          go_wp2_with fail
          go_roundw
          case rel => exact ⟨k + 1, A', by omega, by go_num, HB8, HO8⟩
          case measure => simp [intOf]; omega
        · have hk2 : ¬ (k : Int) < 50 := by omega
          go_wp2_with fail
          go_meet
          exact ⟨_, A, rfl, HB, HO⟩
      · go_wp2_with fail
        go_meet
        exact ⟨_, A, rfl, HB, HO⟩
  case rest =>
    obtain ⟨k, A, rfl, HB, HO⟩ := hcut
    rename World => wr
    clear HB0 HO0 H1
    have HHV : Hid (∀ w', Only (fun x => p ≤ x) w w' → Only (fun _ => False) w0 w') := Lib.hid (fun w' ho => K23.out.then ho (fun q hq e => by have := HP.out; have := K23.out.size; omega))
    have HLK := Lib.hid (like_any p q A wr HB.out.1 HB.out.2.1 HB.out.2.2.2.2.2)
    go_wp2_with fail
    refine HLK.out.mono ?_
    rintro _ w2 ⟨rfl, ho⟩
    have HB2 := Lib.hid (HB.out.only ho)
    have HO2 : Hid (Only (fun x => p ≤ x) w w2) := Lib.hid (HO.out.trans (ho.mono (fun _ _ f => f.elim)))
    clear ho HB HO HLK
    by_cases hn : NodeOk ask
    · obtain ⟨i1, i2⟩ := hn
      go_wp2_with fail
      refine (rNode_yes _ _ i1 i2).mono ?_
      rintro _ _ ⟨rfl, rfl⟩
      go_wp2_with fail
      go_ret
      exact ⟨rfl, HHV.out _ HO2.out⟩
    · have hn' : ¬ (1 ≤ ask ∧ ask ≤ 32) := hn
      have hz : acG A ask = zA := by unfold acG; rw [if_neg hn]
      have HV := Lib.hid (available_any p A ask w2 HB2.out.1 HB2.out.2.2.2.2.2)
      have HG : Hid (∀ w', Only (fun _ => False) w2 w' → _) := Lib.hid (fun w' (ho : Only (fun _ => False) w2 w') => get_any p A ask w' (HB2.out.1.only ho (fun f => f)))
      have hl : left zA = 0 := rfl
      rw [hz] at HV HG
      rw [hl] at HV
      unfold aggA zA at HG
      dsimp only at HG
      have hc1 := HC1.out
      have hc2 := HC2.out
      clear hz hl hn
      go_wp2_with fail
      refine (rNode_no _ _ hn').mono ?_
      rintro _ _ ⟨rfl, rfl⟩
      clear hn'
      go_wp2_with fail
      refine HV.out.mono ?_
      rintro _ w3 ⟨rfl, ho⟩
      have HO3 := Lib.hid ho
      clear ho HV
      go_wp2_with fail
      refine (HG.out _ HO3.out).mono ?_
      rintro _ w4 ⟨rfl, ho⟩
      have HO4 := Lib.hid (HHV.out _ (HO2.out.trans ((HO3.out.trans ho).mono (fun _ _ f => f.elim))))
      clear ho HG HO3 HO2
      go_wp2_with fail
      go_ret
      exact ⟨rfl, HO4.out⟩
end Go.Proofs.Ytfpeimihlihphaa.fnd
