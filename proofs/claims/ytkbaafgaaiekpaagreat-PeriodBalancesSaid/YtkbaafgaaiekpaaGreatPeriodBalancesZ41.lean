/- Several texts together: PdH. -/
import Derived.Test.YtkbaafgaaiekpaaGreatPeriodBalancesZ1
import Derived.Test.YtkbaafgaaiekpaaGreatPeriodBalancesZ15
import Derived.Test.YtkbaafgaaiekpaaGreatPeriodBalancesZ40
import Derived.Deep.CutRange
import Derived.Deep.CutBlock
namespace Go.Proofs.YtkbaafgaaiekpaaGreat.pdw
open Go.RowKit mem entm puw tre
set_option linter.unusedVariables false

theorem run_buildT2 (k n : Int) (w : World) : (Instr.build 56 #[(0, .int .i64 k), (1, .int .i64 n)]).run Tryz.prog w = .ok (.agg #[.int .i64 k, .int .i64 n, .int .i64 0]) w := by kernel_rfl
theorem run_buildT3 (k n g : Int) (w : World) : (Instr.build 56 #[(0, .int .i64 k), (1, .int .i64 n), (2, .int .i64 g)]).run Tryz.prog w = .ok (.agg #[.int .i64 k, .int .i64 n, .int .i64 g]) w := by kernel_rfl
def uK (C : AcC → Option (List Int)) (op : Nat) (m : Int) (k : Nat) : Int := ((List.range k).map fun g => (jnw.ror C ⟨4, m, ((g + 1 : Nat) : Int)⟩).getD op 0).sum
theorem uK_succ (C : AcC → Option (List Int)) (op : Nat) (m : Int) (k : Nat) : uK C op m (k + 1) = uK C op m k + (jnw.ror C ⟨4, m, ((k + 1 : Nat) : Int)⟩).getD op 0 := by
  unfold uK
  rw [List.range_succ, List.map_append, List.sum_append]
  simp
theorem uK_bnd {C : AcC → Option (List Int)} {B : Int} (h : jnw.Bnd C B) (op : Nat) (m : Int) : ∀ k : Nat, -(B * (k : Int)) ≤ uK C op m k ∧ uK C op m k ≤ B * (k : Int)
  | 0 => by show -(B * ((0 : Nat) : Int)) ≤ (0 : Int) ∧ (0 : Int) ≤ B * ((0 : Nat) : Int); simp
  | k + 1 => by
    have ih := uK_bnd h op m k
    have h1 := (h ⟨4, m, ((k + 1 : Nat) : Int)⟩).2.2 op
    rw [uK_succ]
    have e : B * ((k + 1 : Nat) : Int) = B * (k : Int) + B := by rw [Int.natCast_add, Int.mul_add]; simp
    rw [e]
    omega
section
variable {Sp Sd : Nat → Prop} {base p q pb pj n op : Nat} {A : List fnd.Ac} {C : AcC → Option (List Int)} {L : List jnw.Ps} {vL vW : Value} {D : List jnw.Es} {w : World}
theorem PDS.bal2 (h : PDS Sp Sd base p q pb pj n op A C L vL vW D w) (hn : n ≤ 62) {m : Nat} (hm : 1 ≤ m ∧ m ≤ 32) : Calls Tryz.prog 24 #[.pointer (some ⟨pj, 0, none⟩), .agg #[.int .i64 2, .int .i64 (m : Int), .int .i64 0]] w fun e w' => e = .returned (.int .i64 (-(fnd.left (fnd.acG A (m : Int))))) ∧ Only (fun _ => False) w w' := by
  have e := h.ag.left m hm
  have e2 : (jnw.ror C ⟨2, (m : Int), 0⟩).sum = -(fnd.left (fnd.acG A (m : Int))) := by rw [acG4 (by omega), e]; omega
  rw [← e2]
  exact h.pv.bal (by omega) 2 m 0 (inA_small _ _ _ (by omega))
theorem PDS.bal3 (h : PDS Sp Sd base p q pb pj n op A C L vL vW D w) (hn : n ≤ 62) {m : Nat} (hm : 1 ≤ m ∧ m ≤ 32) : Calls Tryz.prog 24 #[.pointer (some ⟨pj, 0, none⟩), .agg #[.int .i64 3, .int .i64 (m : Int), .int .i64 0]] w fun e w' => e = .returned (.int .i64 (-(fnd.acG A (m : Int)).h)) ∧ Only (fun _ => False) w w' := by
  have e := h.ag.held m hm
  have e2 : (jnw.ror C ⟨3, (m : Int), 0⟩).sum = -(fnd.acG A (m : Int)).h := by rw [acG4 (by omega), e]; omega
  rw [← e2]
  exact h.pv.bal (by omega) 3 m 0 (inA_small _ _ _ (by omega))
theorem PDS.mov (h : PDS Sp Sd base p q pb pj n op A C L vL vW D w) (m g : Nat) (hm : m ≤ 32) (hg : g ≤ 8) : Calls Tryz.prog 21 #[.pointer (some ⟨pj, 0, none⟩), .agg #[.int .i64 4, .int .i64 (m : Int), .int .i64 (g : Int)], .int .i64 (op : Int)] w fun e w' => e = .returned (.int .i64 ((jnw.ror C ⟨4, (m : Int), (g : Int)⟩).getD op 0)) ∧ Only (fun _ => False) w w' := by
  obtain ⟨v, mm, nn, hj⟩ := h.pv.pu.jn
  refine (jnw.moved_any pj op v mm nn C 4 m g (inA_small _ _ _ (by omega)) (op : Int) w hj.jc hj.mp).mono ?_
  rintro _ w' ⟨rfl, ho⟩
  have e : jnw.movV C op ⟨4, (m : Int), (g : Int)⟩ (op : Int) = (jnw.ror C ⟨4, (m : Int), (g : Int)⟩).getD op 0 := by
    unfold jnw.movV
    rw [if_neg (by omega), Int.toNat_natCast]
    rfl
  rw [e]
  exact ⟨rfl, ho⟩
theorem PDS.amts (h : PDS Sp Sd base p q pb pj n op A C L vL vW D w) : ∀ x ∈ L, jnw.amts x.ls = 0 := fun x hx => by
  have h1 : pq x ∈ D.map dq := by rw [← h.sq]; exact List.mem_map_of_mem hx
  obtain ⟨d, hd, e⟩ := List.mem_map.1 h1
  have h2 := (h.dk.ls d hd).2.1
  have e2 : d.ls = x.ls := by
    have := congrArg (fun t => t.2.2) e
    exact this
  rw [← e2]
  exact ((chk_ok _ _).1 h2).2.2.2.1
theorem PDS.trial (h : PDS Sp Sd base p q pb pj n op A C L vL vW D w) : Calls Tryz.prog 25 #[.pointer (some ⟨pj, 0, none⟩), .int .i64 (-1)] w fun e w' => (∃ x er : Int, e = .returned (.tuple #[.int .i64 x, .int .i64 x, .int .i64 er]) ∧ (er = 0 ∨ er = 6)) ∧ Only (fun _ => False) w w' := by
  obtain ⟨v, mm, nn, hj⟩ := h.pv.pu.jn
  refine (jnw.trial_any pj op v mm nn C L (-1) w hj).mono ?_
  rintro _ w' ⟨rfl, ho⟩
  refine ⟨?_, ho⟩
  have e1 : jnw.triE op L (-1) = if (jnw.trP (-1) L (0, 0)).isSome = true then 0 else 6 := by unfold jnw.triE; rw [if_neg (by omega)]
  have e2 : jnw.triO op L (-1) = (jnw.trP (-1) L (0, 0)).getD (0, 0) := by unfold jnw.triO; rw [if_neg (by omega)]
  rw [e1, e2]
  cases ht : jnw.trP (-1) L (0, 0) with
  | none => exact ⟨0, 6, rfl, .inr rfl⟩
  | some y =>
    have h9 := jnw.trP_diff (-1) L h.amts ht
    have e9 : y.1 = y.2 := by simp at h9; omega
    exact ⟨y.1, 0, by show Ending.returned (.tuple #[.int .i64 y.1, .int .i64 y.2, .int .i64 0]) = _; rw [← e9], .inl rfl⟩
end
set_option maxRecDepth 100000 in
set_option maxHeartbeats 16000000 in
theorem bal_walk (a1 : Option Addr) (l1 c1 : Nat) (w0 : World) (h0 : RowT w0 a1 l1) :
    Calls Tryz.prog 4 #[.slice a1 l1 c1] w0 fun e w' => e = .returned (.bool true) ∧ Only (fun _ => False) w0 w' := by
  have hm1 := h0.1
  unfold maxLen at hm1
  have H0 := Lib.hid h0
  clear h0
  have hb2 := run_buildT2
  have hb3 := run_buildT3
  go_enter Tryz.func4, Tryz.ntmps4
  go_wp2_with fail
  refine (pnew_any w0).mono ?_
  rintro _ w1 ⟨p, pb, pj, rfl, hp, ho1⟩
  obtain ⟨w2, hw2⟩ : ∃ x, x = w1.alloc (.cells Tryz.zeroCells49 49) := ⟨_, rfl⟩
  obtain ⟨q, hq⟩ : ∃ x, x = w1.heap.size := ⟨_, rfl⟩
  have HPD0 := Lib.hid (PD.start hp hw2 hq ho1.size)
  have HO2 : Hid (Only (fun _ => False) w0 w2) := Lib.hid (by rw [hw2]; exact ho1.alloc _)
  clear hp ho1
  go_upto_region 3 with fail
  simp only [← hw2, ← hq]
  clear hw2 hq
  go_wp2_with fail
  refine (purses_any w2).mono ?_
  rintro _ w3 ⟨rfl, ho3⟩
  have HPD3 := Lib.hid (HPD0.out.quiet ho3)
  have HX3 : Hid (Only (fun x => w0.heap.size ≤ x) w0 w3) := Lib.hid ((HO2.out.trans ho3).mono (fun _ _ f => f.elim))
  clear ho3 HPD0 HO2
  go_wp2_with fail
  go_loopw [5] (fun iv wr => ∃ i : Nat, i ≤ l1 ∧ i ≤ 60 ∧ iv = .int .i64 (i : Int) ∧ Hid (PD w0.heap.size p q i wr) ∧ Hid (Only (fun x => w0.heap.size ≤ x) w0 wr)) (fun iv _ => 60 - (intOf iv).toNat)
  case atStart => exact ⟨0, by omega, by omega, rfl, HPD3, HX3⟩
  case round =>
    clear HPD3 HX3
    obtain ⟨i, hi, hi60, rfl, HPD, HX⟩ := hrel
    rename World => wr
    have HEND : Hid (Only (fun _ => False) w0 wr) := Lib.hid ((Only.refl (fun _ => False) w0).then HX.out (fun x hx e => by omega))
    by_cases h8 : i < l1
    · by_cases h60 : i < 60
      · have h60' : (i : Int) < 60 := by omega
        have h8' : (i : Int) < (l1 : Int) := by omega
        have hi0 : (0 : Int) ≤ (i : Int) := by omega
        obtain ⟨b, off, rfl, hrow⟩ := H0.out.2.resolve_left (by omega)
        obtain ⟨⟨dw, dn, dpa, dpn, dpc, dpl, dla, dln, dlc, dll, dam, dgr, dca, dcn, dcc, dcl⟩, hat, har⟩ := hrow i h8
        obtain ⟨e0, e1, e2, e3, e4, e5, e6⟩ := hat.keep (Nat.le_refl _) HX.out
        have har2 := har.keep (Nat.le_refl _) HX.out
        dsimp only at e0 e1 e2 e3 e4 e5 e6
        have HDO := Lib.hid (do_any dw dn dpa dpn dpc dpl dla dln dlc dll dam dgr dca dcn dcc dcl wr HPD.out (by omega) har2.nd har2.gr har2.p har2.l har2.c)
        clear hrow hat har har2 HEND
        go_wp2_with fail
        refine HDO.out.mono ?_
        rintro _ w4 ⟨rfl, ho4, ⟨Sp, Sd, pb4, pj4, op, A, C, L, vL, vW, D, hS⟩⟩
        have HX4 : Hid (Only (fun x => w0.heap.size ≤ x) w0 w4) := Lib.hid (HX.out.trans ho4)
        have HS := Lib.hid hS
        have HJ := Lib.hid (pjour_any w4 hS.pv.pu)
        clear ho4 hS HDO HPD HX e0 e1 e2 e3 e4 e5 e6
        go_wp2_with fail
        refine HJ.out.mono ?_
        rintro _ _ ⟨rfl, rfl⟩
        clear HJ
        go_wp2_with fail
        go_loopw [7] (fun nv wx => ∃ m : Nat, 1 ≤ m ∧ m ≤ 33 ∧ nv = .int .i64 (m : Int) ∧ Hid (Only (fun _ => False) w4 wx)) (fun nv _ => 33 - (intOf nv).toNat)
        case atStart => exact ⟨1, by omega, by omega, rfl, Lib.hid (Only.refl _ _)⟩
        case round =>
          obtain ⟨m, hm1', hm33, rfl, HW⟩ := hrel
          rename World => wx
          by_cases hm : m ≤ 32
          · have hmi : (m : Int) ≤ 32 := by omega
            have HM : Hid (1 ≤ m ∧ m ≤ 32) := Lib.hid ⟨hm1', hm⟩
            have HUB := Lib.hid (fun k => uK_bnd HS.out.pv.bd op (m : Int) k)
            have HMV := Lib.hid (fun w' (ho : Only (fun _ => False) w4 w') (g : Nat) (hg : g ≤ 8) => (HS.out.quiet ho).mov m g hm hg)
            have HPE := Lib.hid (fun w' (ho : Only (fun _ => False) w4 w') => (HS.out.quiet ho).pv.per)
            go_wp2_with fail
            go_loopw [8, 9] (fun uv gv wy => ∃ k : Nat, k ≤ 8 ∧ gv = .int .i64 ((k : Int) + 1) ∧ uv = .int .i64 (-(uK C op (m : Int) k)) ∧ Hid (Only (fun _ => False) w4 wy)) (fun _ gv _ => 9 - (intOf gv).toNat)
            case atStart => exact ⟨0, by omega, rfl, rfl, HW⟩
            case round =>
              clear HW
              obtain ⟨k, hk8, rfl, rfl, HV⟩ := hrel
              rename World => wy
              by_cases hk : k < 8
              · have hki : (k : Int) + 1 ≤ 8 := by omega
                obtain ⟨mv, hmv⟩ : ∃ x : Int, x = (jnw.ror C ⟨4, (m : Int), ((k + 1 : Nat) : Int)⟩).getD op 0 := ⟨_, rfl⟩
                have hus := uK_succ C op (m : Int) k
                rw [← hmv] at hus
                have hb1 := HUB.out k
                have hb2' := HUB.out (k + 1)
                have hcm := HMV.out wy HV.out (k + 1) (by omega)
                rw [← hmv] at hcm
                have HCM := Lib.hid hcm
                have HUS : Hid (-(uK C op (m : Int) k) - mv = -(uK C op (m : Int) (k + 1))) := Lib.hid (by omega)
                have huw : IntKind.i64.wrap (-(uK C op (m : Int) k) - mv) = -(uK C op (m : Int) k) - mv := by
                  rw [IntKind.wrap_i64]
                  have : 9007199254740992 * ((i + 1 : Nat) : Int) * ((k + 1 : Nat) : Int) ≤ 9007199254740992 * 61 * 9 := by
                    have h1 : ((i + 1 : Nat) : Int) ≤ 61 := by omega
                    have h2 : ((k + 1 : Nat) : Int) ≤ 9 := by omega
                    exact Int.mul_le_mul (Int.mul_le_mul_of_nonneg_left h1 (by omega)) h2 (by omega) (by omega)
                  omega
                have HUW := Lib.hid huw
                have hkc : ((k + 1 : Nat) : Int) = (k : Int) + 1 := by omega
                rw [hkc] at HCM
                clear hmv hus hb1 hb2' hcm huw hkc
                generalize -(uK C op (m : Int) k) = u at *
                have huw := HUW.out
                go_wp2_with fail
                refine (HPE.out wy HV.out).mono ?_
                rintro _ _ ⟨rfl, rfl⟩
                go_wp2_with fail
                refine HCM.out.mono ?_
                rintro _ wz ⟨rfl, hoz⟩
                have HZ := Lib.hid (HV.out.trans hoz)
                clear hoz HCM
                go_wp2_with fail
                go_roundw
                case rel => exact ⟨k + 1, by omega, by go_num, by rw [HUS.out], HZ⟩
                case measure => (simp [intOf]; omega)
              · obtain rfl : k = 8 := by omega
                have hki : ¬ ((8 : Nat) : Int) + 1 ≤ 8 := by omega
                have hus : -(uK C op (m : Int) 8) = (fnd.acG A (m : Int)).u := by
                  have := HS.out.ag.used m HM.out
                  rw [acG4 (by omega), this]
                  rfl
                rw [hus]
                have hok := fnd.acG_ok HS.out.pv.pu.bok (m : Int)
                have hlf := hok.left_M
                have hl0 : 0 ≤ fnd.left (fnd.acG A (m : Int)) := hok.2.2
                have HGET := Lib.hid (pget_any (m : Int) wy (HS.out.quiet HV.out).pv.pu)
                have HAV := Lib.hid (fun w' (ho : Only (fun _ => False) w4 w') => pavail_any (m : Int) w' (HS.out.quiet ho).pv.pu)
                have HB2 := Lib.hid (fun w' (ho : Only (fun _ => False) w4 w') => (HS.out.quiet ho).bal2 (by omega) HM.out)
                have HB3 := Lib.hid (fun w' (ho : Only (fun _ => False) w4 w') => (HS.out.quiet ho).bal3 (by omega) HM.out)
                obtain ⟨lf, hlfe⟩ : ∃ x : Int, x = fnd.left (fnd.acG A (m : Int)) := ⟨_, rfl⟩
                rw [← hlfe] at HAV HB2 hlf hl0
                obtain ⟨⟨-, -, -, ⟨u1, u2⟩, ⟨g1, g2⟩⟩, -, -⟩ := hok
                generalize fnd.acG A (m : Int) = ac at *
                obtain ⟨at_, ac, ae, au, ah⟩ := ac
                unfold fnd.aggA at HGET
                dsimp only at HGET HB3 u1 u2 g1 g2 hlfe ⊢
                have q1 : IntKind.i64.wrap lf = lf := by rw [IntKind.wrap_i64]; omega
                have q2 : IntKind.i64.wrap ah = ah := by rw [IntKind.wrap_i64]; omega
                have q3 : wrap64 lf = lf := by unfold wrap64; omega
                have q4 : wrap64 ah = ah := by unfold wrap64; omega
                have b1 : (ah < 0) = False := eq_false (by omega)
                have b1' : decide (ah < 0) = false := by rw [decide_eq_false_iff_not]; omega
                have b2 : (lf < 0) = False := eq_false (by omega)
                have b2' : decide (lf < 0) = false := by rw [decide_eq_false_iff_not]; omega
                have b3 : (lf != lf) = false := by simp
                have b4 : (ah != ah) = false := by simp
                have b5 : (au != au) = false := by simp
                clear hus hlf hl0 hlfe u1 u2 g1 g2 HUB HMV HPE
                go_wp2_with fail
                refine HGET.out.mono ?_
                rintro _ wz ⟨rfl, hoz⟩
                obtain ⟨w7, hw7⟩ : ∃ x, x = wz.alloc (.cells #[.int .i64 at_, .int .i64 ac, .int .i64 ae, .int .i64 au, .int .i64 ah] 58) := ⟨_, rfl⟩
                obtain ⟨g7, hg7⟩ : ∃ x, x = wz.heap.size := ⟨_, rfl⟩
                have HO7 : Hid (Only (fun _ => False) w4 w7) := Lib.hid (by rw [hw7]; exact (HV.out.trans hoz).alloc _)
                have k3 : w7.cell? ⟨g7, 3, none⟩ = some (.int .i64 au) := by rw [hw7]; exact alloc_cell hg7 rfl
                have k4 : w7.cell? ⟨g7, 4, none⟩ = some (.int .i64 ah) := by rw [hw7]; exact alloc_cell hg7 rfl
                have HC7 : Hid (∀ w', Only (fun _ => False) w7 w' → w'.cell? ⟨g7, 3, none⟩ = some (.int .i64 au) ∧ w'.cell? ⟨g7, 4, none⟩ = some (.int .i64 ah)) := Lib.hid (fun w' ho => ⟨ho.cell' k3 (fun f => f), ho.cell' k4 (fun f => f)⟩)
                clear hoz HGET k3 k4
                go_upto_region 20 with fail
                simp only [← hw7, ← hg7]
                clear hw7 hg7
                refine wp_region_noPanic ?_
                refine wp_region_held_drew (S := (fun w' => w'.cell? ⟨g7, 3, none⟩ = some (.int .i64 au) ∧ w'.cell? ⟨g7, 4, none⟩ = some (.int .i64 ah))) (by kernel_rfl) (HC7.out _ ((Only.refl _ _).drew)) (fun hHeld => ?_)
                obtain ⟨z0, hz0⟩ : ∃ x, x = w7.drew := ⟨_, rfl⟩
                rw [← hz0] at hHeld ⊢
                have hot : Hid (Only (fun _ => False) w7 z0) := Lib.hid (by rw [hz0]; exact (Only.refl _ _).drew)
                clear hz0
                refine sho.tk 0 ?_
                refine sho.tk 1 ?_
                refine sho.tk 3 ?_
                refine sho.tk 4 ?_
                refine sho.tk 5 ?_
                refine wpAnyH_ready (rs := [2]) (by kernel_rfl) (by simp) ?_
                refine AllReadyH.cons rfl (fun K hK => ?_) AllReadyH.nil
                try simp only [List.getElem_toArray, List.getElem_cons_zero, List.getElem_cons_succ]
                go_simp
                go_at_call 15
                with_reducible refine (HAV.out _ (HO7.out.trans hot.out)).mono ?_
                rintro _ Z1 ⟨rfl, ho⟩
                replace hot := Lib.hid (hot.out.trans ho)
                clear ho
                try dsimp only
                refine hK.out _ _ (HC7.out _ hot.out) (fun hHeld1 => ?_)
                clear hK K
                try simp only [List.getElem_toArray, List.getElem_cons_zero, List.getElem_cons_succ, Act.put, List.setIfInBounds_toArray, List.set_cons_zero, List.set_cons_succ]
                refine wpAnyH_ready (rs := [6]) (by kernel_rfl) (by simp) ?_
                refine AllReadyH.cons rfl (fun K hK => ?_) AllReadyH.nil
                try simp only [List.getElem_toArray, List.getElem_cons_zero, List.getElem_cons_succ]
                go_simp
                go_at_call 24
                with_reducible refine (HB2.out _ (HO7.out.trans hot.out)).mono ?_
                rintro _ Z2 ⟨rfl, ho⟩
                replace hot := Lib.hid (hot.out.trans ho)
                clear ho
                try dsimp only
                refine hK.out _ _ (HC7.out _ hot.out) (fun hHeld2 => ?_)
                clear hK K
                try simp only [List.getElem_toArray, List.getElem_cons_zero, List.getElem_cons_succ, Act.put, List.setIfInBounds_toArray, List.set_cons_zero, List.set_cons_succ]
                refine sho.tk 7 ?_
                refine sho.tk 8 ?_
                refine sho.tk 9 ?_
                refine sho.tk 10 ?_
                refine sho.tk 11 ?_
                refine sho.tk 12 ?_
                refine sho.tk 13 ?_
                refine sho.tk 14 ?_
                refine wpAnyH_ready (rs := [15]) (by kernel_rfl) (by simp) ?_
                refine AllReadyH.cons rfl (fun K hK => ?_) AllReadyH.nil
                try simp only [List.getElem_toArray, List.getElem_cons_zero, List.getElem_cons_succ]
                go_simp
                go_at_call 24
                with_reducible refine (HB3.out _ (HO7.out.trans hot.out)).mono ?_
                rintro _ Z3 ⟨rfl, ho⟩
                replace hot := Lib.hid (hot.out.trans ho)
                clear ho
                try dsimp only
                refine hK.out _ _ (HC7.out _ hot.out) (fun hHeld3 => ?_)
                clear hK K
                try simp only [List.getElem_toArray, List.getElem_cons_zero, List.getElem_cons_succ, Act.put, List.setIfInBounds_toArray, List.set_cons_zero, List.set_cons_succ]
                refine sho.tk 16 ?_
                refine sho.tk 17 ?_
                refine sho.tk 18 ?_
                refine sho.tk 19 ?_
                refine sho.tk 20 ?_
                refine sho.tk 21 ?_
                refine sho.tk 22 ?_
                refine sho.tk 23 ?_
                refine sho.tk 24 ?_
                refine sho.tk 25 ?_
                refine sho.tk 26 ?_
                refine sho.tk 27 ?_
                refine sho.tk 28 ?_
                refine sho.tk 29 ?_
                refine sho.tk 30 ?_
                refine sho.tk 31 ?_
                refine sho.tk 32 ?_
                refine wpAnyH_ready (rs := [33]) (by kernel_rfl) (by simp) ?_
                refine AllReadyH.cons rfl (fun K hK => ?_) AllReadyH.nil
                try simp only [List.getElem_toArray, List.getElem_cons_zero, List.getElem_cons_succ]
                go_simp
                go_at_call 15
                with_reducible refine (HAV.out _ (HO7.out.trans hot.out)).mono ?_
                rintro _ Z4 ⟨rfl, ho⟩
                replace hot := Lib.hid (hot.out.trans ho)
                clear ho
                try dsimp only
                refine hK.out _ _ (HC7.out _ hot.out) (fun hHeld4 => ?_)
                clear hK K
                try simp only [List.getElem_toArray, List.getElem_cons_zero, List.getElem_cons_succ, Act.put, List.setIfInBounds_toArray, List.set_cons_zero, List.set_cons_succ]
                refine sho.tk 34 ?_
                refine sho.tk 35 ?_
                refine wpAnyH_done (by kernel_rfl) ?_ _
                refine NoPanic.normal ?_
                have HZ := Lib.hid (HO7.out.trans hot.out)
                clear hHeld hot HC7 HAV HB2 HB3 HV
                go_wp2_with fail
                go_roundw
                case rel => exact ⟨m + 1, by omega, by have := HM.out; omega, by go_num, HZ⟩
                case measure => (simp [intOf]; have := HM.out; omega)
          · obtain rfl : m = 33 := by omega
            have hmi : ¬ ((33 : Nat) : Int) ≤ 32 := by omega
            have HT := Lib.hid ((HS.out.quiet HW.out).trial)
            have HPN : Hid (∀ w', Only (fun _ => False) w4 w' → PD w0.heap.size p q (i + 1) w') := Lib.hid (fun w' ho => ⟨Sp, Sd, pb4, pj4, op, A, C, L, vL, vW, D, HS.out.quiet ho⟩)
            go_wp2_with fail
            refine HT.out.mono ?_
            rintro _ wt ⟨⟨x, er, rfl, her⟩, hot⟩
            have HOT := Lib.hid (HW.out.trans hot)
            have bx : (x != x) = false := by simp
            clear hot HT
            rcases her with rfl | rfl
            · go_wp2_with fail
              go_roundw
              case rel => exact ⟨i + 1, by omega, by omega, by go_num, Lib.hid (HPN.out _ HOT.out), Lib.hid (HX4.out.trans (HOT.out.mono (fun _ _ f => f.elim)))⟩
              case measure => (simp [intOf]; omega)
            · go_wp2_with fail
              go_roundw
              case rel => exact ⟨i + 1, by omega, by omega, by go_num, Lib.hid (HPN.out _ HOT.out), Lib.hid (HX4.out.trans (HOT.out.mono (fun _ _ f => f.elim)))⟩
              case measure => (simp [intOf]; omega)
      · have h60' : ¬ (i : Int) < 60 := by omega
        have h8' : (i : Int) < (l1 : Int) := by omega
        go_wp2_with fail
        go_ret
        exact ⟨rfl, HEND.out⟩
    · have h8' : ¬ (i : Int) < (l1 : Int) := by omega
      go_wp2_with fail
      go_ret
      exact ⟨rfl, HEND.out⟩
theorem bal_below (a1 : Option Addr) (l1 c1 : Nat) (w0 : World) (h0 : RowT w0 a1 l1) :
    Calls Tryz.prog 4 #[.slice a1 l1 c1] w0 fun e w' => e = .returned (.bool true) ∧ Below w0.heap.size w0 w' := (bal_walk a1 l1 c1 w0 h0).mono (fun e w' h => ⟨h.1, h.2.none⟩)
end Go.Proofs.YtkbaafgaaiekpaaGreat.pdw
