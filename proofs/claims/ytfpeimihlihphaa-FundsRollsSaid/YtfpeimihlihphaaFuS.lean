/- FundsRolls' walk. -/
import Derived.Test.YtfpeimihlihphaaFuL
import Derived.Test.YtfpeimihlihphaaOpF
import Derived.Deep.CutRange
import Derived.Deep.CutBlock
namespace Go.Proofs.Ytfpeimihlihphaa.fnd
open Go.RowKit mem tre
set_option linter.unusedVariables false

theorem acG_roll {A : List Ac} {n : Int} {carry : Bool} (hl : A.length = 33) (hn : NodeOk n) : acG (rollA A n carry) n = rolled (acG A n) carry := by
  obtain ⟨n1, n2⟩ := hn
  unfold rollA
  rw [if_pos ⟨n1, n2⟩]
  generalize rolled (acG A n) carry = r
  unfold acG
  rw [if_pos ⟨n1, n2⟩, getA_set A n.toNat n.toNat r (by omega), if_pos rfl]
set_option maxRecDepth 100000 in
set_option maxHeartbeats 8000000 in
theorem rolls_any (a1 : Option Addr) (l1 c1 : Nat) (node : Int) (carry : Bool) (w : World) (h0 : RowF w a1 l1) :
    Calls Try.prog 10 #[.slice a1 l1 c1, .int .i64 node, .bool carry] w fun e w' => e = .returned (.bool true) ∧ Only (fun _ => False) w w' := by
  have hm1 := h0.1
  unfold maxLen at hm1
  have H1 := Lib.hid h0
  have HZ := Lib.hid (tmod_in node 32 (by decide) (by decide))
  clear h0
  go_enter Try.func10, Try.ntmps10
  go_wp2_with fail
  refine (bnew_any w).mono ?_
  rintro _ w1 ⟨rfl, ht, ho⟩
  have hp0 : w.heap.size < w1.heap.size := ht.lt
  have HB0 : Hid (FB w.heap.size (w1.alloc (.cells Try.zeroCells72 72)) w.heap.size w1.heap.size A0) := Lib.hid ⟨ht.only ((Only.refl (fun _ => False) _).alloc _) (fun f => f), BkAt.fresh rbzero w1 _, Nat.le_refl _, by omega, by omega, Bok.new⟩
  have HO0 : Hid (Only (fun x => w.heap.size ≤ x) w (w1.alloc (.cells Try.zeroCells72 72))) := Lib.hid ((ho.mono (fun _ _ f => f.elim)).alloc _)
  clear ht ho
  obtain ⟨p, hp⟩ : ∃ p, p = w.heap.size := ⟨_, rfl⟩
  obtain ⟨q, hq⟩ : ∃ q, q = w1.heap.size := ⟨_, rfl⟩
  obtain ⟨w2, hw2⟩ : ∃ x, x = w1.alloc (.cells Try.zeroCells72 72) := ⟨_, rfl⟩
  have HP := Lib.hid hp
  go_upto_block 0 with fail
  simp only [← hp, ← hq, ← hw2] at HB0 HO0 hp0 ⊢
  clear hp hq hw2 hp0
  go_cut [9] from 18 to 35 (fun iv wx => ∃ (k : Int) (A : List Ac), iv = .int .i64 k ∧ Hid (FB p wx p q A) ∧ Hid (Only (fun x => p ≤ x) w wx))
  case first =>
    go_wp2_with fail
    go_loopw [9] (fun iv wr => ∃ (k : Nat) (A : List Ac), k ≤ 50 ∧ iv = .int .i64 (k : Int) ∧ Hid (FB p wr p q A) ∧ Hid (Only (fun x => p ≤ x) w wr)) (fun iv _ => 50 - (intOf iv).toNat)
    case atStart => exact ⟨0, A0, by omega, rfl, HB0, HO0⟩
    case round =>
      obtain ⟨k, A, hk, rfl, HB, HO⟩ := hrel
      by_cases h8 : k < l1
      · by_cases h20 : k < 50
        · obtain ⟨b, off, rfl, hcell⟩ := H1.out.2.resolve_left (by omega)
          obtain ⟨d, hd, hin⟩ := hcell k h8
          replace hd := hd.keep (Nat.le_of_eq HP.out.symm) HO.out
          replace hin := hin.keep (Nat.le_of_eq HP.out.symm) HO.out
          obtain ⟨z0, z1, z2, z3, z4, z5, z6, z7, z8, z9, z10, z11, z12⟩ := d
          obtain ⟨d0, d1, d2, d3, d4, d5, d6, d7, d8, d9, d10⟩ := hd
          obtain ⟨i0, i1, i2, i3⟩ := hin
          dsimp only at *
          have HDO := Lib.hid (do_any p p q A z0 z1 z2 z3 z4 z5 z6 z7 z8 z9 z10 z11 z12 wr HB.out i0 i1 i2 i3)
          clear hcell i0 i1 i2 i3
          have hk1 : (k : Int) < l1 := by omega
          have hk2 : (k : Int) < 50 := by omega
          have hk0 : (0 : Int) ≤ k := by omega
          go_wp2_with fail
          refine HDO.out.mono ?_
          rintro _ w5 ⟨rfl, ⟨A', hb⟩, ho⟩
          have HB5 := Lib.hid hb
          have HO5 : Hid (Only (fun x => p ≤ x) w w5) := Lib.hid (HO.out.trans (ho.mono (fun k _ e => e.elim (fun e => by omega) (fun e => by have := HB.out.2.2.2.1; omega))))
          clear hb ho d0 d1 d2 d3 d4 d5 d6 d7 d8 d9 d10 HDO
          go_wp2_with fail
          go_roundw
          case rel => exact ⟨k + 1, A', by omega, by go_num, HB5, HO5⟩
          case measure => simp [intOf]; omega
        · have hk2 : ¬ (k : Int) < 50 := by omega
          go_wp2_with fail
          go_meet
          exact ⟨_, A, rfl, HB, HO⟩
      · go_wp2_with fail
        go_meet
        exact ⟨_, A, rfl, HB, HO⟩
  case rest =>
    obtain ⟨k, A, rfl, HB, HO⟩ := hcut
    rename World => wr
    clear HB0 HO0 H1
    have hz := HZ.out
    clear HZ
    generalize hzz : wrap64 ((IntKind.u64.wrap node).tmod 32) = z at hz
    obtain ⟨hz0, hz1⟩ := hz
    have HHV : Hid (∀ w', Only (fun x => p ≤ x) w w' → Only (fun _ => False) w w') := Lib.hid (fun w' ho => (Only.refl _ w).then ho (fun q hq e => by have := HP.out; omega))
    go_upto_region 8 with fail
    clear hzz
    have hA1 := HB.out.2.2.2.2.2
    have HBK := Lib.hid HB.out.1
    have hnz : NodeOk (1 + z) := ⟨by omega, by omega⟩
    have hRE : rollE (1 + z) = 0 := by unfold rollE; rw [if_pos hnz]
    have hRt := acG_ok hA1 (1 + z)
    have HG1 : Hid (∀ w', Only (fun _ => False) wr w' → _) := Lib.hid (fun w' (ho : Only (fun _ => False) wr w') => get_any p A (1 + z) w' (HBK.out.only ho (fun f => f)))
    have HV1 : Hid (∀ w', Only (fun _ => False) wr w' → _) := Lib.hid (fun w' (ho : Only (fun _ => False) wr w') => available_any p A (1 + z) w' (HBK.out.only ho (fun f => f)) hA1)
    have HRO : Hid (∀ w', Only (fun _ => False) wr w' → _) := Lib.hid (fun w' (ho : Only (fun _ => False) wr w') => roll_any p A (1 + z) carry w' (HBK.out.only ho (fun f => f)) hA1)
    obtain ⟨a, haG⟩ : ∃ a, acG A (1 + z) = a := ⟨_, rfl⟩
    rw [haG] at hRt
    obtain ⟨at_, ac, ae, au, ah⟩ := a
    obtain ⟨⟨⟨q1, q2⟩, ⟨q3, q4⟩, ⟨q5, q6⟩, ⟨q7, q8⟩, ⟨q9, q10⟩⟩, qs, ql⟩ := hRt
    obtain ⟨X, hX⟩ : ∃ X, X = left ⟨at_, ac, ae, au, ah⟩ := ⟨_, rfl⟩
    rw [← hX] at ql
    dsimp only at q1 q2 q3 q4 q5 q6 q7 q8 q9 q10 qs
    have hX2 : X = at_ + ac - ae - au - ah := hX
    have hXM : X ≤ 9007199254740992 := by omega
    cases carry
    · have hR : rollN A (1 + z) false = X ∧ acG (rollA A (1 + z) false) (1 + z) = ⟨0, ah, 0, 0, ah⟩ ∧ left ⟨0, ah, 0, 0, ah⟩ = 0 := by
        refine ⟨by unfold rollN goneN; rw [if_pos hnz, haG]; rw [if_neg (by simp)]; exact hX.symm, ?_, by unfold left; dsimp only; omega⟩
        rw [acG_roll hA1.len hnz, haG]
        unfold rolled goneN left at *
        dsimp only at *
        congr 1
        simp; omega
      clear hX2 q1 q2 q3 q4 q5 q6 q7 q8 qs hnz
      have hXl : left ⟨at_, ac, ae, au, ah⟩ = X := hX.symm
      obtain ⟨hR1, hR2, hR3⟩ := hR
      rw [hR1, hRE] at HRO
      have HBA : Hid (Bok (rollA A (1 + z) false)) := Lib.hid (hA1.rollA (1 + z) false)
      have HG2 : Hid (∀ w', BkAt w' p (rollA A (1 + z) false) → _) := Lib.hid (fun w' h => get_any p (rollA A (1 + z) false) (1 + z) w' h)
      have HV2 : Hid (∀ w', BkAt w' p (rollA A (1 + z) false) → _) := Lib.hid (fun w' h => available_any p (rollA A (1 + z) false) (1 + z) w' h HBA.out)
      rw [hR2] at HG2 HV2
      rw [hR3] at HV2
      rw [haG] at HG1 HV1
      rw [hXl] at HV1
      clear hR1 hR2 hR3 hXl hRE haG hA1 HB hX
      generalize rollA A (1 + z) false = A2 at *
      unfold aggA at HG1 HG2
      dsimp only at HG1 HG2
      go_wp2_with fail
      refine (HG1.out wr (Only.refl _ _)).mono ?_
      rintro _ w3 ⟨rfl, ho⟩
      have HO3 := Lib.hid ho
      have HNB1 := Lib.hid (node_box 63 (.int .i64 at_) (.int .i64 ac) (.int .i64 ae) (.int .i64 au) (.int .i64 ah) ho)
      clear ho HG1
      obtain ⟨d0, d1, d2, d3, d4, hw4⟩ := HNB1.out
      obtain ⟨w4, hw⟩ : ∃ x, x = w3.alloc (.cells #[.int .i64 at_, .int .i64 ac, .int .i64 ae, .int .i64 au, .int .i64 ah] 63) := ⟨_, rfl⟩
      obtain ⟨g1, hg⟩ : ∃ x, x = w3.heap.size := ⟨_, rfl⟩
      have hgl : g1 < w4.heap.size := by rw [hw, hg]; simp
      have hgp : p < g1 := by have := HBK.out.lt; have := HO3.out.size; omega
      go_upto_region 9 with fail
      simp only [← hw, ← hg] at d4 hw4 ⊢
      clear hw hg
      have HW4 := Lib.hid hw4
      have D4 := Lib.hid d4
      clear d0 d1 d2 d3 hw4 HNB1 HO3
      go_wp2_with fail
      refine (HV1.out w4 HW4.out).mono ?_
      rintro _ w5 ⟨rfl, ho⟩
      replace d4 := ho.cell' d4 (fun f => f)
      have HW5 := Lib.hid (HW4.out.trans ho)
      clear ho HV1 HW4 D4
      go_wp2_with fail
      refine (HRO.out w5 HW5.out).mono ?_
      rintro _ w6 ⟨rfl, ht, ho⟩
      have hgp2 : ¬ g1 = p := by omega
      replace d4 := ho.cell' d4 hgp2
      clear hgp2
      have HT6 := Lib.hid ht
      have HO6 : Hid (Only (fun x => p ≤ x) w w6) := Lib.hid ((HO.out.trans (HW5.out.mono (fun _ _ f => f.elim))).trans (ho.mono (fun x _ e => by omega)))
      have hg6 : g1 < w6.heap.size := World.block_lt_of_cell? w6 _ d4
      clear ho ht HRO HW5
      go_wp2_with fail
      refine (HG2.out w6 HT6.out).mono ?_
      rintro _ w7 ⟨rfl, ho⟩
      replace d4 := ho.cell' d4 (fun f => f)
      obtain ⟨e0, e1, e2, e3, e4, hw8⟩ := node_box 63 (.int .i64 0) (.int .i64 (ah)) (.int .i64 0) (.int .i64 0) (.int .i64 ah) ho
      replace d4 := ((Only.refl (fun _ => False) w7).alloc (.cells #[.int .i64 0, .int .i64 (ah), .int .i64 0, .int .i64 0, .int .i64 ah] 63)).cell' d4 (fun f => f)
      obtain ⟨w8, hw⟩ : ∃ x, x = w7.alloc (.cells #[.int .i64 0, .int .i64 (ah), .int .i64 0, .int .i64 0, .int .i64 ah] 63) := ⟨_, rfl⟩
      obtain ⟨g2, hg⟩ : ∃ x, x = w7.heap.size := ⟨_, rfl⟩
      go_upto_region 12 with fail
      simp only [← hw, ← hg] at e0 e1 e2 e3 e4 d4 hw8 ⊢
      clear hw hg
      have HT8 : Hid (BkAt w8 p A2) := Lib.hid (HT6.out.only hw8 (fun f => f))
      have HO8 : Hid (Only (fun x => p ≤ x) w w8) := Lib.hid (HO6.out.trans (hw8.mono (fun _ _ f => f.elim)))
      clear ho hw8 HT6 HO6
      go_wp2_with fail
      refine (haves_any _).mono ?_
      rintro _ w9 ⟨rfl, ho⟩
      replace d4 := ho.cell' d4 (fun f => f)
      replace e0 := ho.cell' e0 (fun f => f)
      replace e1 := ho.cell' e1 (fun f => f)
      replace e2 := ho.cell' e2 (fun f => f)
      replace e3 := ho.cell' e3 (fun f => f)
      replace e4 := ho.cell' e4 (fun f => f)
      have HT9 : Hid (BkAt w9 p A2) := Lib.hid (HT8.out.only ho (fun f => f))
      have HO9 : Hid (Only (fun x => p ≤ x) w w9) := Lib.hid (HO8.out.trans (ho.mono (fun _ _ f => f.elim)))
      clear ho HT8 HO8
      go_wp2_with fail
      refine (HV2.out w9 HT9.out).mono ?_
      rintro _ w10 ⟨rfl, ho⟩
      replace d4 := ho.cell' d4 (fun f => f)
      replace e1 := ho.cell' e1 (fun f => f)
      have HO10 : Hid (Only (fun x => p ≤ x) w w10) := Lib.hid (HO9.out.trans (ho.mono (fun _ _ f => f.elim)))
      have HT10 : Hid (BkAt w10 p A2) := Lib.hid (HT9.out.only ho (fun f => f))
      clear ho HO9 HT9 e0 e2 e3 e4
      go_wp2_with fail
      refine (HV2.out w10 HT10.out).mono ?_
      rintro _ w11 ⟨rfl, ho⟩
      have HO11 : Hid (Only (fun x => p ≤ x) w w11) := Lib.hid (HO10.out.trans (ho.mono (fun _ _ f => f.elim)))
      clear ho HO10
      go_wp2_with fail
      go_ret
      exact ⟨rfl, HHV.out _ HO11.out⟩
    · have hR : rollN A (1 + z) true = 0 ∧ acG (rollA A (1 + z) true) (1 + z) = ⟨0, X + ah, 0, 0, ah⟩ ∧ left ⟨0, X + ah, 0, 0, ah⟩ = X := by
        refine ⟨by unfold rollN goneN; rw [if_pos hnz, haG]; rfl, ?_, by unfold left; dsimp only; omega⟩
        rw [acG_roll hA1.len hnz, haG]
        unfold rolled goneN left at *
        dsimp only at *
        congr 1
        simp; omega
      clear hX2 q1 q2 q3 q4 q5 q6 q7 q8 qs hnz
      have hXl : left ⟨at_, ac, ae, au, ah⟩ = X := hX.symm
      obtain ⟨hR1, hR2, hR3⟩ := hR
      rw [hR1, hRE] at HRO
      have HBA : Hid (Bok (rollA A (1 + z) true)) := Lib.hid (hA1.rollA (1 + z) true)
      have HG2 : Hid (∀ w', BkAt w' p (rollA A (1 + z) true) → _) := Lib.hid (fun w' h => get_any p (rollA A (1 + z) true) (1 + z) w' h)
      have HV2 : Hid (∀ w', BkAt w' p (rollA A (1 + z) true) → _) := Lib.hid (fun w' h => available_any p (rollA A (1 + z) true) (1 + z) w' h HBA.out)
      rw [hR2] at HG2 HV2
      rw [hR3] at HV2
      rw [haG] at HG1 HV1
      rw [hXl] at HV1
      clear hR1 hR2 hR3 hXl hRE haG hA1 HB hX
      generalize rollA A (1 + z) true = A2 at *
      unfold aggA at HG1 HG2
      dsimp only at HG1 HG2
      go_wp2_with fail
      refine (HG1.out wr (Only.refl _ _)).mono ?_
      rintro _ w3 ⟨rfl, ho⟩
      have HO3 := Lib.hid ho
      have HNB1 := Lib.hid (node_box 63 (.int .i64 at_) (.int .i64 ac) (.int .i64 ae) (.int .i64 au) (.int .i64 ah) ho)
      clear ho HG1
      obtain ⟨d0, d1, d2, d3, d4, hw4⟩ := HNB1.out
      obtain ⟨w4, hw⟩ : ∃ x, x = w3.alloc (.cells #[.int .i64 at_, .int .i64 ac, .int .i64 ae, .int .i64 au, .int .i64 ah] 63) := ⟨_, rfl⟩
      obtain ⟨g1, hg⟩ : ∃ x, x = w3.heap.size := ⟨_, rfl⟩
      have hgl : g1 < w4.heap.size := by rw [hw, hg]; simp
      have hgp : p < g1 := by have := HBK.out.lt; have := HO3.out.size; omega
      go_upto_region 9 with fail
      simp only [← hw, ← hg] at d4 hw4 ⊢
      clear hw hg
      have HW4 := Lib.hid hw4
      have D4 := Lib.hid d4
      clear d0 d1 d2 d3 hw4 HNB1 HO3
      go_wp2_with fail
      refine (HV1.out w4 HW4.out).mono ?_
      rintro _ w5 ⟨rfl, ho⟩
      replace d4 := ho.cell' d4 (fun f => f)
      have HW5 := Lib.hid (HW4.out.trans ho)
      clear ho HV1 HW4 D4
      go_wp2_with fail
      refine (HRO.out w5 HW5.out).mono ?_
      rintro _ w6 ⟨rfl, ht, ho⟩
      have hgp2 : ¬ g1 = p := by omega
      replace d4 := ho.cell' d4 hgp2
      clear hgp2
      have HT6 := Lib.hid ht
      have HO6 : Hid (Only (fun x => p ≤ x) w w6) := Lib.hid ((HO.out.trans (HW5.out.mono (fun _ _ f => f.elim))).trans (ho.mono (fun x _ e => by omega)))
      have hg6 : g1 < w6.heap.size := World.block_lt_of_cell? w6 _ d4
      clear ho ht HRO HW5
      go_wp2_with fail
      refine (HG2.out w6 HT6.out).mono ?_
      rintro _ w7 ⟨rfl, ho⟩
      replace d4 := ho.cell' d4 (fun f => f)
      obtain ⟨e0, e1, e2, e3, e4, hw8⟩ := node_box 63 (.int .i64 0) (.int .i64 (X + ah)) (.int .i64 0) (.int .i64 0) (.int .i64 ah) ho
      replace d4 := ((Only.refl (fun _ => False) w7).alloc (.cells #[.int .i64 0, .int .i64 (X + ah), .int .i64 0, .int .i64 0, .int .i64 ah] 63)).cell' d4 (fun f => f)
      obtain ⟨w8, hw⟩ : ∃ x, x = w7.alloc (.cells #[.int .i64 0, .int .i64 (X + ah), .int .i64 0, .int .i64 0, .int .i64 ah] 63) := ⟨_, rfl⟩
      obtain ⟨g2, hg⟩ : ∃ x, x = w7.heap.size := ⟨_, rfl⟩
      go_upto_region 12 with fail
      simp only [← hw, ← hg] at e0 e1 e2 e3 e4 d4 hw8 ⊢
      clear hw hg
      have HT8 : Hid (BkAt w8 p A2) := Lib.hid (HT6.out.only hw8 (fun f => f))
      have HO8 : Hid (Only (fun x => p ≤ x) w w8) := Lib.hid (HO6.out.trans (hw8.mono (fun _ _ f => f.elim)))
      clear ho hw8 HT6 HO6
      go_wp2_with fail
      refine (haves_any _).mono ?_
      rintro _ w9 ⟨rfl, ho⟩
      replace d4 := ho.cell' d4 (fun f => f)
      replace e0 := ho.cell' e0 (fun f => f)
      replace e1 := ho.cell' e1 (fun f => f)
      replace e2 := ho.cell' e2 (fun f => f)
      replace e3 := ho.cell' e3 (fun f => f)
      replace e4 := ho.cell' e4 (fun f => f)
      have HT9 : Hid (BkAt w9 p A2) := Lib.hid (HT8.out.only ho (fun f => f))
      have HO9 : Hid (Only (fun x => p ≤ x) w w9) := Lib.hid (HO8.out.trans (ho.mono (fun _ _ f => f.elim)))
      clear ho HT8 HO8
      go_wp2_with fail
      refine (HV2.out w9 HT9.out).mono ?_
      rintro _ w10 ⟨rfl, ho⟩
      replace d4 := ho.cell' d4 (fun f => f)
      replace e1 := ho.cell' e1 (fun f => f)
      have HO10 : Hid (Only (fun x => p ≤ x) w w10) := Lib.hid (HO9.out.trans (ho.mono (fun _ _ f => f.elim)))
      have HT10 : Hid (BkAt w10 p A2) := Lib.hid (HT9.out.only ho (fun f => f))
      clear ho HO9 HT9 e0 e2 e3 e4
      go_wp2_with fail
      go_ret
      exact ⟨rfl, HHV.out _ HO10.out⟩
end Go.Proofs.Ytfpeimihlihphaa.fnd
