/- PurserPaths: two projects of one team. -/
import Derived.Test.YtkbaafgaaiekpaaZ7
namespace Go.Proofs.Ytkbaafgaaiekpaa.puw
open Go.RowKit mem
set_option linter.unusedVariables false

set_option maxRecDepth 100000 in
set_option maxHeartbeats 16000000 in
theorem paths_walk (a : Option Addr) (len cap : Nat) (w : World) (hr : RowM w a len) : Calls Try.prog 5 #[.slice a len cap] w fun e w' => e = .returned (.bool true) ∧ Only (fun _ => False) w w' := by
  have HR := Lib.hid hr
  have hml := hr.1
  unfold maxLen at hml
  clear hr
  go_enter Try.func5, Try.ntmps5
  go_wp2_with fail
  refine (tre.new_any w).mono ?_
  rintro _ w1 ⟨rfl, ht1, ho1⟩
  obtain ⟨t, hte⟩ : ∃ x, x = w.heap.size := ⟨_, rfl⟩
  rw [← hte] at ht1
  rw [← hte]
  have HT1 : Hid (tre.TreeAt w1 t T0) := Lib.hid ht1
  have HTE := Lib.hid hte
  have HO1 : Hid (Only (fun q => q = t) w w1) := Lib.hid (ho1.mono (fun _ _ f => f.elim))
  clear ht1 ho1 hte
  have HMK := Lib.hid (make4 1 0 1 (-1) HT1.out)
  go_wp2_with fail
  refine HMK.out.mono ?_
  rintro _ w2 ⟨⟨E2, rfl⟩, ht2, ho2⟩
  have HT2 : Hid (tre.TreeAt w2 t T1) := Lib.hid ht2
  have HO2 := Lib.hid (HO1.out.trans ho2)
  clear ht2 ho2 HMK HT1 HO1
  have HMK := Lib.hid (make4 2 1 2 (-1) HT2.out)
  go_wp2_with fail
  refine HMK.out.mono ?_
  rintro _ w3 ⟨⟨E3, rfl⟩, ht3, ho3⟩
  have HT3 : Hid (tre.TreeAt w3 t T2) := Lib.hid ht3
  have HO3 := Lib.hid (HO2.out.trans ho3)
  clear ht3 ho3 HMK HT2 HO2
  have HMK := Lib.hid (make4 3 2 3 (-1) HT3.out)
  go_wp2_with fail
  refine HMK.out.mono ?_
  rintro _ w4 ⟨⟨E4, rfl⟩, ht4, ho4⟩
  have HT4 : Hid (tre.TreeAt w4 t T3) := Lib.hid ht4
  have HO4 := Lib.hid (HO3.out.trans ho4)
  clear ht4 ho4 HMK HT3 HO3
  have HMK := Lib.hid (make4 4 2 3 (-1) HT4.out)
  go_wp2_with fail
  refine HMK.out.mono ?_
  rintro _ w5 ⟨⟨E5, rfl⟩, ht5, ho5⟩
  have HT5 : Hid (tre.TreeAt w5 t T4v) := Lib.hid (by rw [← T4_eq]; exact ht5)
  have HO5 := Lib.hid (HO4.out.trans ho5)
  clear ht5 ho5 HMK HT4 HO4
  go_wp2_with fail
  refine (pnew_any w5).mono ?_
  rintro _ w6 ⟨p, pb, pj, rfl, hp6, ho6⟩
  have HV6 := Lib.hid (pnew_v hp6)
  have HO6 := Lib.hid ho6
  clear hp6 ho6
  go_wp2_with fail
  refine (ppc.stands_any w6).mono ?_
  rintro _ w7 ⟨rfl, ho7⟩
  obtain ⟨base, hbase⟩ : ∃ x, x = w5.heap.size := ⟨_, rfl⟩
  have HBA := Lib.hid hbase
  have HB7 : Hid (base ≤ w7.heap.size) := Lib.hid (by have := HO6.out.size; have := ho7.size; omega)
  have HBT : Hid (t < base) := Lib.hid (by have := HT5.out.lt; omega)
  have HT7 : Hid (tre.TreeAt w7 t T4v) := Lib.hid ((HT5.out.only HO6.out (fun f => f)).only ho7 (fun f => f))
  have HO7 : Hid (Only (fun q => q = t) w w7) := Lib.hid (HO5.out.trans ((HO6.out.trans ho7).mono (fun _ _ f => f.elim)))
  have HK7 : Hid (∃ (S : Nat → Prop) (C : AcC → Option (List Int)) (L : List jnw.Ps), Pv S w7 p pb pj (Af 0) 0 0 C L ∧ (∀ q, S q → base ≤ q ∧ q < w7.heap.size) ∧ Jk C L) := Lib.hid ⟨_, _, _, HV6.out.quiet ho7, fun q hq => ⟨by have := hq.1; omega, by have := hq.2; have := ho7.size; omega⟩, Jk.nil⟩
  clear ho7 HV6 HO6 HT5 HO5 hbase
  go_wp2_with fail
  go_loopw [5] (fun nv wx => ∃ k : Nat, k ≤ 4 ∧ nv = .int .i64 ((k + 1 : Nat) : Int) ∧ Hid (∃ (S : Nat → Prop) (C : AcC → Option (List Int)) (L : List jnw.Ps), Pv S wx p pb pj (Af k) k 0 C L ∧ (∀ q, S q → base ≤ q ∧ q < wx.heap.size) ∧ Jk C L) ∧ Hid (Only (fun q => base ≤ q) w7 wx)) (fun nv _ => 5 - (intOf nv).toNat)
  case atStart => exact ⟨0, by omega, rfl, HK7, Lib.hid (Only.refl _ _)⟩
  case round =>
    clear HK7
    obtain ⟨k, hk, rfl, HK, HX⟩ := hrel
    rename World => wx
    by_cases h4 : k < 4
    · have hin : ((k + 1 : Nat) : Int) ≤ 4 := by omega
      obtain ⟨S, C, L, hv, hb, hj⟩ := HK.out
      have HTP := hv.top (by omega) ((k + 1 : Nat) : Int) 1000 (in_small _ (by omega))
      rw [Af_err k h4] at HTP
      have HTP := Lib.hid HTP
      have HNX : Hid (∀ e w', PvR S wx p pb pj k 0 C L 1 1000 0 [((k + 1 : Nat) : Int)] (fnd.topA (Af k) ((k + 1 : Nat) : Int) 1000) 0 e w' → e = .returned (.int .i64 0) ∧ Only (fun q => base ≤ q) wx w' ∧ ∃ (S' : Nat → Prop) (C' : AcC → Option (List Int)) (L' : List jnw.Ps), Pv S' w' p pb pj (Af (k + 1)) (k + 1) 0 C' L' ∧ (∀ q, S' q → base ≤ q ∧ q < w'.heap.size) ∧ Jk C' L') := Lib.hid (fun e w' hm => hm.ex hv (fun q hq => (hb q hq).1) (by have := HX.out.size; have := HB7.out; omega) (by omega) hj (legs1 1000 (by omega) 0 _ (by omega)))
      clear hv hb hj HK
      go_wp2_with fail
      refine HTP.out.mono ?_
      rintro e8 w8 h8
      obtain ⟨rfl, ho8, hk8⟩ := HNX.out e8 w8 h8
      have HK8 := Lib.hid hk8
      have HX8 := Lib.hid (HX.out.trans ho8)
      clear h8 ho8 hk8 HNX HTP HX
      go_wp2_with fail
      go_roundw
      case rel => exact ⟨k + 1, by omega, by go_num, HK8, HX8⟩
      case measure => (simp [intOf]; omega)
    · have hin : ¬ ((k + 1 : Nat) : Int) ≤ 4 := by omega
      obtain rfl : k = 4 := by omega
      obtain ⟨S, C, L, hv, hb, hj⟩ := HK.out
      have HST : Hid (St base wx.heap.size wx p pb pj 4) := Lib.hid ⟨S, _, 0, C, L, hv, hb, Af_eq 4 (by omega), hj⟩
      clear hv hb hj HK
      have HX0 := Lib.hid HX.out
      clear HX
      rename World => w8
      go_wp2_with fail
      go_loopw [6] (fun iv wx => ∃ i : Nat, (i ≤ len ∧ i ≤ 40) ∧ iv = .int .i64 (i : Int) ∧ Hid (St base wx.heap.size wx p pb pj (4 + i)) ∧ Hid (Only (fun q => base ≤ q) w7 wx)) (fun iv _ => len - (intOf iv).toNat)
      case atStart => exact ⟨0, by omega, rfl, HST, HX0⟩
      case round =>
        clear HST HX0
        obtain ⟨i, hi, rfl, HS, HX⟩ := hrel
        rename World => wx
        by_cases h8 : i < len
        · have hin : (i : Int) < (len : Int) := by omega
          by_cases h40 : i < 40
          · have hin2 : (i : Int) < 40 := by omega
            have hi0 : (0 : Int) ≤ (i : Int) := by omega
            obtain ⟨b, off, rfl, hcell⟩ := HR.out.2.resolve_left (by omega)
            obtain ⟨x, y, z, d0, d1, d2⟩ := hcell i h8
            have HBW : Hid (b < t) := Lib.hid (by rw [HTE.out]; exact World.block_lt_of_cell? w _ d0)
            have HCE : Hid (∀ v, Only (fun q => base ≤ q) w7 v → v.cell? ⟨b, off + i * 3, none⟩ = some (.int .i64 x) ∧ v.cell? ⟨b, off + i * 3 + 1, none⟩ = some (.int .i64 y) ∧ v.cell? ⟨b, off + i * 3 + 2, none⟩ = some (.int .i64 z)) := Lib.hid (fun v ho => by
              have hb := HBW.out
              have hb2 := HBT.out
              exact ⟨ho.cell' (HO7.out.cell' d0 (by show ¬ b = t; omega)) (by show ¬ base ≤ b; omega), ho.cell' (HO7.out.cell' d1 (by show ¬ b = t; omega)) (by show ¬ base ≤ b; omega), ho.cell' (HO7.out.cell' d2 (by show ¬ b = t; omega)) (by show ¬ base ≤ b; omega)⟩)
            obtain ⟨c0, c1, c2⟩ := HCE.out wx HX.out
            obtain ⟨K1, hK1, k1a, k1b⟩ := kmod2 y 2 (by omega) (by omega)
            obtain ⟨K2, hK2, k2a, k2b⟩ := kmod2 z 60 (by omega) (by omega)
            obtain ⟨K3, hK3, k3a, k3b⟩ := kmod2 x 6 (by omega) (by omega)
            obtain ⟨K4, hK4, k4a, k4b⟩ := kmod2 z 3 (by omega) (by omega)
            obtain ⟨q, hq⟩ : ∃ q, q = 3 + K1 := ⟨_, rfl⟩
            obtain ⟨am, ham⟩ : ∃ m, m = 1 + K2 := ⟨_, rfl⟩
            have hw1 : wrap64 (3 + K1) = q := by rw [hq]; exact IntWalk.wrap64_in _ (by omega)
            have hw2 : wrap64 (1 + K2) = am := by rw [ham]; exact IntWalk.wrap64_in _ (by omega)
            have HQ : Hid (q = 3 ∨ q = 4) := Lib.hid (by omega)
            have HAM : Hid (1 ≤ am ∧ am ≤ 1000) := Lib.hid (by omega)
            have HPA := Lib.hid (bigpath4 t q HQ.out wx (HT7.out.only HX.out (by have := HBT.out; omega)))
            clear d0 d1 d2 hcell hq ham k1a k1b k2a k2b
            go_wp2_with fail
            refine HPA.out.mono ?_
            rintro _ w9 ⟨ap, cp, rfl, hrp, hfp, hcp, ho9⟩
            have HRP := Lib.hid hrp
            have HFP := Lib.hid hfp
            have HCP := Lib.hid hcp
            have HX9 : Hid (Only (fun q => base ≤ q) w7 w9) := Lib.hid (HX.out.trans (ho9.mono (fun _ _ f => f.elim)))
            have HS9 := Lib.hid (HS.out.quiet ho9)
            have HSZ : Hid (base ≤ wx.heap.size ∧ wx.heap.size ≤ w9.heap.size) := Lib.hid (by have := HX.out.size; have := HB7.out; have := ho9.size; omega)
            obtain ⟨e0, e1, e2⟩ := HCE.out w9 HX9.out
            clear hrp hfp hcp ho9 HPA c0 c1 c2 HS
            
            have hks : K3 = 0 ∨ K3 = 1 ∨ K3 = 2 ∨ K3 = 3 ∨ K3 = 4 ∨ K3 = 5 := by omega
            clear k3a k3b
            rcases hks with rfl | rfl | rfl | rfl | rfl | rfl
            · obtain ⟨b3, off3, hap, hcp3⟩ := HRP.out.2.2.2.resolve_left (by omega)
              obtain ⟨k4, rfl⟩ : ∃ m : Nat, K4 = (m : Int) := ⟨K4.toNat, by omega⟩
              have hk43 : (k4 : Int) < 3 := by omega
              have hk40 : (0 : Int) ≤ (k4 : Int) := by omega
              have HVP : Hid (∃ v : Int, (v = 1 ∨ v = 2 ∨ v = 3 ∨ v = 4) ∧ w9.cell? ⟨b3, off3 + k4, none⟩ = some (.int .i64 v)) := Lib.hid (by
                refine ⟨_, ?_, hcp3 k4 (by omega)⟩
                have hk4 : k4 = 0 ∨ k4 = 1 ∨ k4 = 2 := by omega
                have hq := HQ.out
                rcases hk4 with rfl | rfl | rfl
                · exact .inl rfl
                · exact .inr (.inl rfl)
                · show q = 1 ∨ q = 2 ∨ q = 3 ∨ q = 4; omega)
              obtain ⟨v, hv, hvc⟩ := HVP.out
              have HX10 := HX9
              subst hap
              have HMV := Lib.hid (HS9.out.top (Nat.le_trans HSZ.out.1 HSZ.out.2) (by omega) v hv am HAM.out)
              clear HVP hcp3 hv k4a k4b HX9
              go_wp2_with fail
              refine HMV.out.mono ?_
              rintro _ w11 ⟨⟨E5, rfl⟩, ho5, hs5⟩
              have HX11 := Lib.hid (HX10.out.trans ho5)
              have HS11 := Lib.hid hs5
              clear ho5 hs5 HX10 HMV HRP HFP HCP HS9 HSZ e0 e1 e2
              obtain ⟨⟨at1, ac1, ae1, au1, ah1⟩, ⟨at2, ac2, ae2, au2, ah2⟩, ⟨at3, ac3, ae3, au3, ah3⟩, ⟨at4, ac4, ae4, au4, ah4⟩, hrt, heq, hg⟩ := HS11.out.four
              dsimp only at heq
              obtain ⟨q1, q2, q3, q4⟩ := heq
              have hb3 := hrt.2.2.1.1
              have hb4 := hrt.2.2.2.1
              unfold fnd.Parts fnd.InM at hb3 hb4
              dsimp only at hb3 hb4
              have hwh : wrap64 (ah3 + ah4) = ah3 + ah4 := IntWalk.wrap64_in _ (by omega)
              have hwu : wrap64 (au3 + au4) = au3 + au4 := IntWalk.wrap64_in _ (by omega)
              simp only [fnd.aggA] at hg
              clear hrt hb3 hb4
              subst q1
              subst q2
              subst q3
              subst q4
              have HG1 := Lib.hid (fun w' ho => (hg w' ho).1)
              have HG2 := Lib.hid (fun w' ho => (hg w' ho).2.1)
              have HG3 := Lib.hid (fun w' ho => (hg w' ho).2.2.1)
              have HG4 := Lib.hid (fun w' ho => (hg w' ho).2.2.2)
              clear hg
              go_wp2_with fail
              refine (HG1.out _ (Only.refl _ _)).mono ?_
              rintro _ v1 ⟨rfl, hv1⟩
              have HV1 := Lib.hid hv1
              clear hv1 HG1
              go_wp2_with fail
              refine (HG2.out _ HV1.out).mono ?_
              rintro _ v2 ⟨rfl, hv2⟩
              have HV2 := Lib.hid (HV1.out.trans hv2)
              clear hv2 HG2 HV1
              go_wp2_with fail
              refine (HG3.out _ HV2.out).mono ?_
              rintro _ v3 ⟨rfl, hv3⟩
              have HV3 := Lib.hid (HV2.out.trans hv3)
              clear hv3 HG3 HV2
              go_wp2_with fail
              refine (HG4.out _ HV3.out).mono ?_
              rintro _ v4 ⟨rfl, hv4⟩
              have HV4 := Lib.hid (HV3.out.trans hv4)
              clear hv4 HG4 HV3
              go_wp2_with fail
              go_roundw
              case rel => exact ⟨i + 1, by omega, by go_num, Lib.hid (HS11.out.grow ((((HV4.out.alloc _).alloc _).alloc _).alloc _)), Lib.hid (HX11.out.trans (((((HV4.out.alloc _).alloc _).alloc _).alloc _).mono (fun _ _ f => f.elim)))⟩
              case measure => (simp [intOf]; omega)
            · obtain ⟨w10, hw10⟩ : ∃ y, y = w9.alloc (.cells #[.int .i64 (-1), .int .i64 (-1), .int .i64 (-1)] 3) := ⟨_, rfl⟩
              obtain ⟨g10, hg10⟩ : ∃ y, y = w9.heap.size := ⟨_, rfl⟩
              have ho10 : Only (fun _ => False) w9 w10 := by rw [hw10]; exact (Only.refl _ _).alloc _
              have HX10 : Hid (Only (fun q => base ≤ q) w7 w10) := Lib.hid (HX9.out.trans (ho10.mono (fun _ _ f => f.elim)))
              have HMV := Lib.hid ((HS9.out.quiet ho10).hold (by have := (Nat.le_trans HSZ.out.1 HSZ.out.2); have := ho10.size; omega) (by omega) q HQ.out ap cp (HRP.out.only ho10 (fun _ _ f => f)) HCP.out (fun y e => HFP.out y e) (some ⟨g10, 0, none⟩) 3 (read3 w9 3 (-1) (-1) (-1) (in_small _ (by omega)) (in_small _ (by omega)) (in_small _ (by omega)) hw10 hg10) am HAM.out)
              clear ho10 HX9
              go_wp2_with fail
              try simp only [← hw10, ← hg10]
              clear hw10 hg10
              refine HMV.out.mono ?_
              rintro _ w11 ⟨⟨E5, rfl⟩, ho5, hs5⟩
              have HX11 := Lib.hid (HX10.out.trans ho5)
              have HS11 := Lib.hid hs5
              clear ho5 hs5 HX10 HMV HRP HFP HCP HS9 HSZ e0 e1 e2
              obtain ⟨⟨at1, ac1, ae1, au1, ah1⟩, ⟨at2, ac2, ae2, au2, ah2⟩, ⟨at3, ac3, ae3, au3, ah3⟩, ⟨at4, ac4, ae4, au4, ah4⟩, hrt, heq, hg⟩ := HS11.out.four
              dsimp only at heq
              obtain ⟨q1, q2, q3, q4⟩ := heq
              have hb3 := hrt.2.2.1.1
              have hb4 := hrt.2.2.2.1
              unfold fnd.Parts fnd.InM at hb3 hb4
              dsimp only at hb3 hb4
              have hwh : wrap64 (ah3 + ah4) = ah3 + ah4 := IntWalk.wrap64_in _ (by omega)
              have hwu : wrap64 (au3 + au4) = au3 + au4 := IntWalk.wrap64_in _ (by omega)
              simp only [fnd.aggA] at hg
              clear hrt hb3 hb4
              subst q1
              subst q2
              subst q3
              subst q4
              have HG1 := Lib.hid (fun w' ho => (hg w' ho).1)
              have HG2 := Lib.hid (fun w' ho => (hg w' ho).2.1)
              have HG3 := Lib.hid (fun w' ho => (hg w' ho).2.2.1)
              have HG4 := Lib.hid (fun w' ho => (hg w' ho).2.2.2)
              clear hg
              go_wp2_with fail
              refine (HG1.out _ (Only.refl _ _)).mono ?_
              rintro _ v1 ⟨rfl, hv1⟩
              have HV1 := Lib.hid hv1
              clear hv1 HG1
              go_wp2_with fail
              refine (HG2.out _ HV1.out).mono ?_
              rintro _ v2 ⟨rfl, hv2⟩
              have HV2 := Lib.hid (HV1.out.trans hv2)
              clear hv2 HG2 HV1
              go_wp2_with fail
              refine (HG3.out _ HV2.out).mono ?_
              rintro _ v3 ⟨rfl, hv3⟩
              have HV3 := Lib.hid (HV2.out.trans hv3)
              clear hv3 HG3 HV2
              go_wp2_with fail
              refine (HG4.out _ HV3.out).mono ?_
              rintro _ v4 ⟨rfl, hv4⟩
              have HV4 := Lib.hid (HV3.out.trans hv4)
              clear hv4 HG4 HV3
              go_wp2_with fail
              go_roundw
              case rel => exact ⟨i + 1, by omega, by go_num, Lib.hid (HS11.out.grow ((((HV4.out.alloc _).alloc _).alloc _).alloc _)), Lib.hid (HX11.out.trans (((((HV4.out.alloc _).alloc _).alloc _).alloc _).mono (fun _ _ f => f.elim)))⟩
              case measure => (simp [intOf]; omega)
            · obtain ⟨b3, off3, hap, hcp3⟩ := HRP.out.2.2.2.resolve_left (by omega)
              have hq2 : w9.cell? ⟨b3, off3 + 2, none⟩ = some (.int .i64 q) := hcp3 2 (by omega)
              obtain ⟨w10, hw10⟩ : ∃ y, y = w9.alloc (.cells #[.int .i64 1, .int .i64 2, .int .i64 q] 3) := ⟨_, rfl⟩
              obtain ⟨g10, hg10⟩ : ∃ y, y = w9.heap.size := ⟨_, rfl⟩
              have ho10 : Only (fun _ => False) w9 w10 := by rw [hw10]; exact (Only.refl _ _).alloc _
              have HX10 : Hid (Only (fun q => base ≤ q) w7 w10) := Lib.hid (HX9.out.trans (ho10.mono (fun _ _ f => f.elim)))
              have HMV := Lib.hid ((HS9.out.quiet ho10).rel (by have := (Nat.le_trans HSZ.out.1 HSZ.out.2); have := ho10.size; omega) (by omega) q HQ.out (some ⟨g10, 0, none⟩) 3 (read3 w9 3 1 2 q (in_small _ (by omega)) (in_small _ (by omega)) (in_small _ (by have := HQ.out; omega)) hw10 hg10) (by unfold maxLen; omega) (fun y e => by injection e with e; rw [← e]; show wx.heap.size ≤ g10; have := HSZ.out.2; omega) am HAM.out)
              subst hap
              clear ho10 HX9 hcp3
              go_wp2_with fail
              try simp only [← hw10, ← hg10]
              clear hw10 hg10 hq2
              refine HMV.out.mono ?_
              rintro _ w11 ⟨⟨E5, rfl⟩, ho5, hs5⟩
              have HX11 := Lib.hid (HX10.out.trans ho5)
              have HS11 := Lib.hid hs5
              clear ho5 hs5 HX10 HMV HRP HFP HCP HS9 HSZ e0 e1 e2
              obtain ⟨⟨at1, ac1, ae1, au1, ah1⟩, ⟨at2, ac2, ae2, au2, ah2⟩, ⟨at3, ac3, ae3, au3, ah3⟩, ⟨at4, ac4, ae4, au4, ah4⟩, hrt, heq, hg⟩ := HS11.out.four
              dsimp only at heq
              obtain ⟨q1, q2, q3, q4⟩ := heq
              have hb3 := hrt.2.2.1.1
              have hb4 := hrt.2.2.2.1
              unfold fnd.Parts fnd.InM at hb3 hb4
              dsimp only at hb3 hb4
              have hwh : wrap64 (ah3 + ah4) = ah3 + ah4 := IntWalk.wrap64_in _ (by omega)
              have hwu : wrap64 (au3 + au4) = au3 + au4 := IntWalk.wrap64_in _ (by omega)
              simp only [fnd.aggA] at hg
              clear hrt hb3 hb4
              subst q1
              subst q2
              subst q3
              subst q4
              have HG1 := Lib.hid (fun w' ho => (hg w' ho).1)
              have HG2 := Lib.hid (fun w' ho => (hg w' ho).2.1)
              have HG3 := Lib.hid (fun w' ho => (hg w' ho).2.2.1)
              have HG4 := Lib.hid (fun w' ho => (hg w' ho).2.2.2)
              clear hg
              go_wp2_with fail
              refine (HG1.out _ (Only.refl _ _)).mono ?_
              rintro _ v1 ⟨rfl, hv1⟩
              have HV1 := Lib.hid hv1
              clear hv1 HG1
              go_wp2_with fail
              refine (HG2.out _ HV1.out).mono ?_
              rintro _ v2 ⟨rfl, hv2⟩
              have HV2 := Lib.hid (HV1.out.trans hv2)
              clear hv2 HG2 HV1
              go_wp2_with fail
              refine (HG3.out _ HV2.out).mono ?_
              rintro _ v3 ⟨rfl, hv3⟩
              have HV3 := Lib.hid (HV2.out.trans hv3)
              clear hv3 HG3 HV2
              go_wp2_with fail
              refine (HG4.out _ HV3.out).mono ?_
              rintro _ v4 ⟨rfl, hv4⟩
              have HV4 := Lib.hid (HV3.out.trans hv4)
              clear hv4 HG4 HV3
              go_wp2_with fail
              go_roundw
              case rel => exact ⟨i + 1, by omega, by go_num, Lib.hid (HS11.out.grow ((((HV4.out.alloc _).alloc _).alloc _).alloc _)), Lib.hid (HX11.out.trans (((((HV4.out.alloc _).alloc _).alloc _).alloc _).mono (fun _ _ f => f.elim)))⟩
              case measure => (simp [intOf]; omega)
            · have HX10 := HX9
              have HMV := Lib.hid (HS9.out.com (Nat.le_trans HSZ.out.1 HSZ.out.2) (by omega) q HQ.out ap cp HRP.out HCP.out (fun y e => HFP.out y e) am HAM.out)
              clear HX9
              go_wp2_with fail
              refine HMV.out.mono ?_
              rintro _ w11 ⟨⟨E5, rfl⟩, ho5, hs5⟩
              have HX11 := Lib.hid (HX10.out.trans ho5)
              have HS11 := Lib.hid hs5
              clear ho5 hs5 HX10 HMV HRP HFP HCP HS9 HSZ e0 e1 e2
              obtain ⟨⟨at1, ac1, ae1, au1, ah1⟩, ⟨at2, ac2, ae2, au2, ah2⟩, ⟨at3, ac3, ae3, au3, ah3⟩, ⟨at4, ac4, ae4, au4, ah4⟩, hrt, heq, hg⟩ := HS11.out.four
              dsimp only at heq
              obtain ⟨q1, q2, q3, q4⟩ := heq
              have hb3 := hrt.2.2.1.1
              have hb4 := hrt.2.2.2.1
              unfold fnd.Parts fnd.InM at hb3 hb4
              dsimp only at hb3 hb4
              have hwh : wrap64 (ah3 + ah4) = ah3 + ah4 := IntWalk.wrap64_in _ (by omega)
              have hwu : wrap64 (au3 + au4) = au3 + au4 := IntWalk.wrap64_in _ (by omega)
              simp only [fnd.aggA] at hg
              clear hrt hb3 hb4
              subst q1
              subst q2
              subst q3
              subst q4
              have HG1 := Lib.hid (fun w' ho => (hg w' ho).1)
              have HG2 := Lib.hid (fun w' ho => (hg w' ho).2.1)
              have HG3 := Lib.hid (fun w' ho => (hg w' ho).2.2.1)
              have HG4 := Lib.hid (fun w' ho => (hg w' ho).2.2.2)
              clear hg
              go_wp2_with fail
              refine (HG1.out _ (Only.refl _ _)).mono ?_
              rintro _ v1 ⟨rfl, hv1⟩
              have HV1 := Lib.hid hv1
              clear hv1 HG1
              go_wp2_with fail
              refine (HG2.out _ HV1.out).mono ?_
              rintro _ v2 ⟨rfl, hv2⟩
              have HV2 := Lib.hid (HV1.out.trans hv2)
              clear hv2 HG2 HV1
              go_wp2_with fail
              refine (HG3.out _ HV2.out).mono ?_
              rintro _ v3 ⟨rfl, hv3⟩
              have HV3 := Lib.hid (HV2.out.trans hv3)
              clear hv3 HG3 HV2
              go_wp2_with fail
              refine (HG4.out _ HV3.out).mono ?_
              rintro _ v4 ⟨rfl, hv4⟩
              have HV4 := Lib.hid (HV3.out.trans hv4)
              clear hv4 HG4 HV3
              go_wp2_with fail
              go_roundw
              case rel => exact ⟨i + 1, by omega, by go_num, Lib.hid (HS11.out.grow ((((HV4.out.alloc _).alloc _).alloc _).alloc _)), Lib.hid (HX11.out.trans (((((HV4.out.alloc _).alloc _).alloc _).alloc _).mono (fun _ _ f => f.elim)))⟩
              case measure => (simp [intOf]; omega)
            · have HX10 := HX9
              have HMV := Lib.hid (HS9.out.ref (Nat.le_trans HSZ.out.1 HSZ.out.2) (by omega) q HQ.out ap cp HRP.out HCP.out (fun y e => HFP.out y e) am HAM.out)
              clear HX9
              go_wp2_with fail
              refine HMV.out.mono ?_
              rintro _ w11 ⟨⟨E5, rfl⟩, ho5, hs5⟩
              have HX11 := Lib.hid (HX10.out.trans ho5)
              have HS11 := Lib.hid hs5
              clear ho5 hs5 HX10 HMV HRP HFP HCP HS9 HSZ e0 e1 e2
              obtain ⟨⟨at1, ac1, ae1, au1, ah1⟩, ⟨at2, ac2, ae2, au2, ah2⟩, ⟨at3, ac3, ae3, au3, ah3⟩, ⟨at4, ac4, ae4, au4, ah4⟩, hrt, heq, hg⟩ := HS11.out.four
              dsimp only at heq
              obtain ⟨q1, q2, q3, q4⟩ := heq
              have hb3 := hrt.2.2.1.1
              have hb4 := hrt.2.2.2.1
              unfold fnd.Parts fnd.InM at hb3 hb4
              dsimp only at hb3 hb4
              have hwh : wrap64 (ah3 + ah4) = ah3 + ah4 := IntWalk.wrap64_in _ (by omega)
              have hwu : wrap64 (au3 + au4) = au3 + au4 := IntWalk.wrap64_in _ (by omega)
              simp only [fnd.aggA] at hg
              clear hrt hb3 hb4
              subst q1
              subst q2
              subst q3
              subst q4
              have HG1 := Lib.hid (fun w' ho => (hg w' ho).1)
              have HG2 := Lib.hid (fun w' ho => (hg w' ho).2.1)
              have HG3 := Lib.hid (fun w' ho => (hg w' ho).2.2.1)
              have HG4 := Lib.hid (fun w' ho => (hg w' ho).2.2.2)
              clear hg
              go_wp2_with fail
              refine (HG1.out _ (Only.refl _ _)).mono ?_
              rintro _ v1 ⟨rfl, hv1⟩
              have HV1 := Lib.hid hv1
              clear hv1 HG1
              go_wp2_with fail
              refine (HG2.out _ HV1.out).mono ?_
              rintro _ v2 ⟨rfl, hv2⟩
              have HV2 := Lib.hid (HV1.out.trans hv2)
              clear hv2 HG2 HV1
              go_wp2_with fail
              refine (HG3.out _ HV2.out).mono ?_
              rintro _ v3 ⟨rfl, hv3⟩
              have HV3 := Lib.hid (HV2.out.trans hv3)
              clear hv3 HG3 HV2
              go_wp2_with fail
              refine (HG4.out _ HV3.out).mono ?_
              rintro _ v4 ⟨rfl, hv4⟩
              have HV4 := Lib.hid (HV3.out.trans hv4)
              clear hv4 HG4 HV3
              go_wp2_with fail
              go_roundw
              case rel => exact ⟨i + 1, by omega, by go_num, Lib.hid (HS11.out.grow ((((HV4.out.alloc _).alloc _).alloc _).alloc _)), Lib.hid (HX11.out.trans (((((HV4.out.alloc _).alloc _).alloc _).alloc _).mono (fun _ _ f => f.elim)))⟩
              case measure => (simp [intOf]; omega)
            · obtain ⟨w10, hw10⟩ : ∃ y, y = w9.alloc (.cells #[.int .i64 1, .int .i64 2, .int .i64 3, .int .i64 4] 3) := ⟨_, rfl⟩
              obtain ⟨g10, hg10⟩ : ∃ y, y = w9.heap.size := ⟨_, rfl⟩
              have ho10 : Only (fun _ => False) w9 w10 := by rw [hw10]; exact (Only.refl _ _).alloc _
              have HX10 : Hid (Only (fun q => base ≤ q) w7 w10) := Lib.hid (HX9.out.trans (ho10.mono (fun _ _ f => f.elim)))
              have HMV := Lib.hid ((HS9.out.quiet ho10).roll (by have := HSZ.out.2; have := ho10.size; omega) (by have := (Nat.le_trans HSZ.out.1 HSZ.out.2); have := ho10.size; omega) (by omega) (some ⟨g10, 0, none⟩) 4 (read4 w9 3 1 2 3 4 (in_small _ (by omega)) (in_small _ (by omega)) (in_small _ (by omega)) (in_small _ (by omega)) hw10 hg10) (fun y e => by injection e with e; rw [← e]; show wx.heap.size ≤ g10; have := HSZ.out.2; omega))
              clear ho10 HX9
              go_wp2_with fail
              try simp only [← hw10, ← hg10]
              clear hw10 hg10
              refine HMV.out.mono ?_
              rintro _ w11 ⟨⟨E5, F5, rfl⟩, ho5, hs5⟩
              have HX11 := Lib.hid (HX10.out.trans ho5)
              have HS11 := Lib.hid hs5
              clear ho5 hs5 HX10 HMV HRP HFP HCP HS9 HSZ e0 e1 e2
              obtain ⟨⟨at1, ac1, ae1, au1, ah1⟩, ⟨at2, ac2, ae2, au2, ah2⟩, ⟨at3, ac3, ae3, au3, ah3⟩, ⟨at4, ac4, ae4, au4, ah4⟩, hrt, heq, hg⟩ := HS11.out.four
              dsimp only at heq
              obtain ⟨q1, q2, q3, q4⟩ := heq
              have hb3 := hrt.2.2.1.1
              have hb4 := hrt.2.2.2.1
              unfold fnd.Parts fnd.InM at hb3 hb4
              dsimp only at hb3 hb4
              have hwh : wrap64 (ah3 + ah4) = ah3 + ah4 := IntWalk.wrap64_in _ (by omega)
              have hwu : wrap64 (au3 + au4) = au3 + au4 := IntWalk.wrap64_in _ (by omega)
              simp only [fnd.aggA] at hg
              clear hrt hb3 hb4
              subst q1
              subst q2
              subst q3
              subst q4
              have HG1 := Lib.hid (fun w' ho => (hg w' ho).1)
              have HG2 := Lib.hid (fun w' ho => (hg w' ho).2.1)
              have HG3 := Lib.hid (fun w' ho => (hg w' ho).2.2.1)
              have HG4 := Lib.hid (fun w' ho => (hg w' ho).2.2.2)
              clear hg
              go_wp2_with fail
              refine (HG1.out _ (Only.refl _ _)).mono ?_
              rintro _ v1 ⟨rfl, hv1⟩
              have HV1 := Lib.hid hv1
              clear hv1 HG1
              go_wp2_with fail
              refine (HG2.out _ HV1.out).mono ?_
              rintro _ v2 ⟨rfl, hv2⟩
              have HV2 := Lib.hid (HV1.out.trans hv2)
              clear hv2 HG2 HV1
              go_wp2_with fail
              refine (HG3.out _ HV2.out).mono ?_
              rintro _ v3 ⟨rfl, hv3⟩
              have HV3 := Lib.hid (HV2.out.trans hv3)
              clear hv3 HG3 HV2
              go_wp2_with fail
              refine (HG4.out _ HV3.out).mono ?_
              rintro _ v4 ⟨rfl, hv4⟩
              have HV4 := Lib.hid (HV3.out.trans hv4)
              clear hv4 HG4 HV3
              go_wp2_with fail
              go_roundw
              case rel => exact ⟨i + 1, by omega, by go_num, Lib.hid (HS11.out.grow ((((HV4.out.alloc _).alloc _).alloc _).alloc _)), Lib.hid (HX11.out.trans (((((HV4.out.alloc _).alloc _).alloc _).alloc _).mono (fun _ _ f => f.elim)))⟩
              case measure => (simp [intOf]; omega)
          · have hin2 : ¬ (i : Int) < 40 := by omega
            obtain ⟨S, A, op, C, L, hv, hb, he, hj⟩ := HS.out
            have HVX := Lib.hid hv
            have HJO := Lib.hid (pjour_any wx hv.pu)
            obtain ⟨yt, htr⟩ := hv.trial (by omega) hj
            have HTR := Lib.hid htr
            have HTO : Hid (part C 4 = 0) := Lib.hid (by rw [part_all]; exact hj.1)
            have HPI := Lib.hid (part_in hv.bd (by omega))
            have HBI := Lib.hid (bal_in hv.bd (by omega))
            have HBL : Hid (∀ (k m g : Int) (v : World), ((-1000 ≤ k ∧ k ≤ 1000) ∧ (-1000 ≤ m ∧ m ≤ 1000) ∧ (-1000 ≤ g ∧ g ≤ 1000)) → Only (fun _ => False) wx v → Calls Try.prog 23 #[.pointer (some ⟨pj, 0, none⟩), .agg #[.int .i64 k, .int .i64 m, .int .i64 g]] v fun e w' => e = .returned (.int .i64 (bal5 C k m g)) ∧ Only (fun _ => False) v w') := Lib.hid (fun k m g v hs ho => (HVX.out.quiet ho).bal (by omega) k m g (inA_small k m g hs))
            have HEX : Hid (Only (fun _ => False) w wx) := Lib.hid (((Only.refl (fun _ => False) w).then HO7.out (fun q hq e => by have e : q = t := e; have := HTE.out; omega)).then HX.out (fun q hq s => by have s : base ≤ q := s; have := HBT.out; have := HTE.out; omega))
            clear hv hb he hj htr HS HX HVX
            go_wp2_with fail
            refine HJO.out.mono ?_
            rintro _ _ ⟨rfl, rfl⟩
            go_wp2_with fail
            refine HTR.out.mono ?_
            rintro _ v1 ⟨rfl, hv1⟩
            have HV1 := Lib.hid hv1
            have HBC := Lib.hid (HBL.out 1 0 0 v1 (by omega) hv1)
            clear hv1 HTR HJO
            go_wp2_with fail
            refine HBC.out.mono ?_
            rintro _ v2 ⟨rfl, hv2⟩
            have HV2 := Lib.hid (HV1.out.trans hv2)
            clear hv2 HBC HV1
            go_wp2_with fail
            go_loopw [18, 19] (fun sv nv wy => ∃ (k : Nat) (s : Int), k ≤ 4 ∧ sv = .int .i64 s ∧ nv = .int .i64 ((k + 1 : Nat) : Int) ∧ Hid (s = part C k) ∧ Hid (Only (fun _ => False) wx wy)) (fun _ nv _ => 5 - (intOf nv).toNat)
            case atStart => exact ⟨0, _, by omega, rfl, rfl, Lib.hid rfl, HV2⟩
            case round =>
              clear HV2
              obtain ⟨k, s, hk, rfl, rfl, HSK, HV⟩ := hrel
              rename World => wy
              by_cases h4 : k < 4
              · have hin : ((k + 1 : Nat) : Int) ≤ 4 := by omega
                obtain ⟨n1, hn1⟩ : ∃ x, x = ((k + 1 : Nat) : Int) := ⟨_, rfl⟩
                have hn1b : 1 ≤ n1 ∧ n1 ≤ 4 := by omega
                have hp := HPI.out k
                have i2 := HBI.out 2 n1 0
                have i3 := HBI.out 3 n1 0
                have i4 := HBI.out 4 n1 1
                have i5 := HBI.out 5 n1 0
                have HPK : Hid (part C (k + 1) = part C k + bal5 C 2 n1 0 + bal5 C 3 n1 0 + bal5 C 4 n1 1 + bal5 C 5 n1 0) := Lib.hid (by rw [hn1]; rfl)
                have hb2 := fun v => HBL.out 2 n1 0 v (by omega)
                have hb3 := fun v => HBL.out 3 n1 0 v (by omega)
                have hb4 := fun v => HBL.out 4 n1 1 v (by omega)
                have hb5 := fun v => HBL.out 5 n1 0 v (by omega)
                have hsk := HSK.out
                rw [← hsk] at hp HPK
                generalize bal5 C 2 n1 0 = x2 at *
                generalize bal5 C 3 n1 0 = x3 at *
                generalize bal5 C 4 n1 1 = x4 at *
                generalize bal5 C 5 n1 0 = x5 at *
                have HB2 := Lib.hid hb2
                have HB3 := Lib.hid hb3
                have HB4 := Lib.hid hb4
                have HB5 := Lib.hid hb5
                have hq2 : wrap64 (s + x2) = s + x2 := IntWalk.wrap64_in _ (by omega)
                have hq3 : wrap64 (s + x2 + x3) = s + x2 + x3 := IntWalk.wrap64_in _ (by omega)
                have hq4 : wrap64 (s + x2 + x3 + x4) = s + x2 + x3 + x4 := IntWalk.wrap64_in _ (by omega)
                have hq5 : wrap64 (s + x2 + x3 + x4 + x5) = s + x2 + x3 + x4 + x5 := IntWalk.wrap64_in _ (by omega)
                rw [← hn1]
                rw [← hn1] at hin
                have hqn : wrap64 (n1 + 1) = n1 + 1 := IntWalk.wrap64_in _ (by omega)
                have HN1 := Lib.hid hn1
                have HH4 := Lib.hid h4
                clear hb2 hb3 hb4 hb5 hp hsk hn1 i2 i3 i4 i5 hn1b
                go_wp2_with fail
                refine (HB2.out _ HV.out).mono ?_
                rintro _ v3 ⟨rfl, hv3⟩
                have HV3 := Lib.hid (HV.out.trans hv3)
                clear hv3 HB2 HV
                go_wp2_with fail
                refine (HB3.out _ HV3.out).mono ?_
                rintro _ v4 ⟨rfl, hv4⟩
                have HV4 := Lib.hid (HV3.out.trans hv4)
                clear hv4 HB3 HV3
                go_wp2_with fail
                refine (HB4.out _ HV4.out).mono ?_
                rintro _ v5 ⟨rfl, hv5⟩
                have HV5 := Lib.hid (HV4.out.trans hv5)
                clear hv5 HB4 HV4
                go_wp2_with fail
                refine (HB5.out _ HV5.out).mono ?_
                rintro _ v6 ⟨rfl, hv6⟩
                have HV6 := Lib.hid (HV5.out.trans hv6)
                clear hv6 HB5 HV5
                go_wp2_with fail
                go_roundw
                case rel =>
                  try rw [hqn]
                  exact ⟨k + 1, s + x2 + x3 + x4 + x5, by omega, by first | rfl | rw [hq5], by rw [HN1.out]; go_num, Lib.hid HPK.out.symm, HV6⟩
                case measure =>
                  have hh := HN1.out
                  have hh2 := HH4.out
                  try rw [hqn]
                  simp [intOf]
                  omega
              · have hin : ¬ ((k + 1 : Nat) : Int) ≤ 4 := by omega
                obtain rfl : k = 4 := by omega
                have hs0 : s = 0 := by rw [HSK.out]; exact HTO.out
                subst hs0
                have HEND := Lib.hid (HEX.out.trans HV.out)
                clear HV
                go_wp2_with fail
                go_ret
                exact ⟨rfl, HEND.out⟩
        · have hin : ¬ (i : Int) < (len : Int) := by omega
          obtain ⟨S, A, op, C, L, hv, hb, he, hj⟩ := HS.out
          have HVX := Lib.hid hv
          have HJO := Lib.hid (pjour_any wx hv.pu)
          obtain ⟨yt, htr⟩ := hv.trial (by omega) hj
          have HTR := Lib.hid htr
          have HTO : Hid (part C 4 = 0) := Lib.hid (by rw [part_all]; exact hj.1)
          have HPI := Lib.hid (part_in hv.bd (by omega))
          have HBI := Lib.hid (bal_in hv.bd (by omega))
          have HBL : Hid (∀ (k m g : Int) (v : World), ((-1000 ≤ k ∧ k ≤ 1000) ∧ (-1000 ≤ m ∧ m ≤ 1000) ∧ (-1000 ≤ g ∧ g ≤ 1000)) → Only (fun _ => False) wx v → Calls Try.prog 23 #[.pointer (some ⟨pj, 0, none⟩), .agg #[.int .i64 k, .int .i64 m, .int .i64 g]] v fun e w' => e = .returned (.int .i64 (bal5 C k m g)) ∧ Only (fun _ => False) v w') := Lib.hid (fun k m g v hs ho => (HVX.out.quiet ho).bal (by omega) k m g (inA_small k m g hs))
          have HEX : Hid (Only (fun _ => False) w wx) := Lib.hid (((Only.refl (fun _ => False) w).then HO7.out (fun q hq e => by have e : q = t := e; have := HTE.out; omega)).then HX.out (fun q hq s => by have s : base ≤ q := s; have := HBT.out; have := HTE.out; omega))
          clear hv hb he hj htr HS HX HVX
          go_wp2_with fail
          refine HJO.out.mono ?_
          rintro _ _ ⟨rfl, rfl⟩
          go_wp2_with fail
          refine HTR.out.mono ?_
          rintro _ v1 ⟨rfl, hv1⟩
          have HV1 := Lib.hid hv1
          have HBC := Lib.hid (HBL.out 1 0 0 v1 (by omega) hv1)
          clear hv1 HTR HJO
          go_wp2_with fail
          refine HBC.out.mono ?_
          rintro _ v2 ⟨rfl, hv2⟩
          have HV2 := Lib.hid (HV1.out.trans hv2)
          clear hv2 HBC HV1
          go_wp2_with fail
          go_loopw [18, 19] (fun sv nv wy => ∃ (k : Nat) (s : Int), k ≤ 4 ∧ sv = .int .i64 s ∧ nv = .int .i64 ((k + 1 : Nat) : Int) ∧ Hid (s = part C k) ∧ Hid (Only (fun _ => False) wx wy)) (fun _ nv _ => 5 - (intOf nv).toNat)
          case atStart => exact ⟨0, _, by omega, rfl, rfl, Lib.hid rfl, HV2⟩
          case round =>
            clear HV2
            obtain ⟨k, s, hk, rfl, rfl, HSK, HV⟩ := hrel
            rename World => wy
            by_cases h4 : k < 4
            · have hin : ((k + 1 : Nat) : Int) ≤ 4 := by omega
              obtain ⟨n1, hn1⟩ : ∃ x, x = ((k + 1 : Nat) : Int) := ⟨_, rfl⟩
              have hn1b : 1 ≤ n1 ∧ n1 ≤ 4 := by omega
              have hp := HPI.out k
              have i2 := HBI.out 2 n1 0
              have i3 := HBI.out 3 n1 0
              have i4 := HBI.out 4 n1 1
              have i5 := HBI.out 5 n1 0
              have HPK : Hid (part C (k + 1) = part C k + bal5 C 2 n1 0 + bal5 C 3 n1 0 + bal5 C 4 n1 1 + bal5 C 5 n1 0) := Lib.hid (by rw [hn1]; rfl)
              have hb2 := fun v => HBL.out 2 n1 0 v (by omega)
              have hb3 := fun v => HBL.out 3 n1 0 v (by omega)
              have hb4 := fun v => HBL.out 4 n1 1 v (by omega)
              have hb5 := fun v => HBL.out 5 n1 0 v (by omega)
              have hsk := HSK.out
              rw [← hsk] at hp HPK
              generalize bal5 C 2 n1 0 = x2 at *
              generalize bal5 C 3 n1 0 = x3 at *
              generalize bal5 C 4 n1 1 = x4 at *
              generalize bal5 C 5 n1 0 = x5 at *
              have HB2 := Lib.hid hb2
              have HB3 := Lib.hid hb3
              have HB4 := Lib.hid hb4
              have HB5 := Lib.hid hb5
              have hq2 : wrap64 (s + x2) = s + x2 := IntWalk.wrap64_in _ (by omega)
              have hq3 : wrap64 (s + x2 + x3) = s + x2 + x3 := IntWalk.wrap64_in _ (by omega)
              have hq4 : wrap64 (s + x2 + x3 + x4) = s + x2 + x3 + x4 := IntWalk.wrap64_in _ (by omega)
              have hq5 : wrap64 (s + x2 + x3 + x4 + x5) = s + x2 + x3 + x4 + x5 := IntWalk.wrap64_in _ (by omega)
              rw [← hn1]
              rw [← hn1] at hin
              have hqn : wrap64 (n1 + 1) = n1 + 1 := IntWalk.wrap64_in _ (by omega)
              have HN1 := Lib.hid hn1
              have HH4 := Lib.hid h4
              clear hb2 hb3 hb4 hb5 hp hsk hn1 i2 i3 i4 i5 hn1b
              go_wp2_with fail
              refine (HB2.out _ HV.out).mono ?_
              rintro _ v3 ⟨rfl, hv3⟩
              have HV3 := Lib.hid (HV.out.trans hv3)
              clear hv3 HB2 HV
              go_wp2_with fail
              refine (HB3.out _ HV3.out).mono ?_
              rintro _ v4 ⟨rfl, hv4⟩
              have HV4 := Lib.hid (HV3.out.trans hv4)
              clear hv4 HB3 HV3
              go_wp2_with fail
              refine (HB4.out _ HV4.out).mono ?_
              rintro _ v5 ⟨rfl, hv5⟩
              have HV5 := Lib.hid (HV4.out.trans hv5)
              clear hv5 HB4 HV4
              go_wp2_with fail
              refine (HB5.out _ HV5.out).mono ?_
              rintro _ v6 ⟨rfl, hv6⟩
              have HV6 := Lib.hid (HV5.out.trans hv6)
              clear hv6 HB5 HV5
              go_wp2_with fail
              go_roundw
              case rel =>
                try rw [hqn]
                exact ⟨k + 1, s + x2 + x3 + x4 + x5, by omega, by first | rfl | rw [hq5], by rw [HN1.out]; go_num, Lib.hid HPK.out.symm, HV6⟩
              case measure =>
                have hh := HN1.out
                have hh2 := HH4.out
                try rw [hqn]
                simp [intOf]
                omega
            · have hin : ¬ ((k + 1 : Nat) : Int) ≤ 4 := by omega
              obtain rfl : k = 4 := by omega
              have hs0 : s = 0 := by rw [HSK.out]; exact HTO.out
              subst hs0
              have HEND := Lib.hid (HEX.out.trans HV.out)
              clear HV
              go_wp2_with fail
              go_ret
              exact ⟨rfl, HEND.out⟩
theorem paths_below (a : Option Addr) (len cap : Nat) (w : World) (hr : RowM w a len) : Calls Try.prog 5 #[.slice a len cap] w fun e w' => e = .returned (.bool true) ∧ Below w.heap.size w w' := (paths_walk a len cap w hr).mono (fun e w' h => ⟨h.1, h.2.none⟩)
end Go.Proofs.Ytkbaafgaaiekpaa.puw
