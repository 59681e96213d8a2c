/- Both books are alike. -/
import Derived.Test.YtfpeimihlihphaaFuN
import Derived.Test.YtfpeimihlihphaaFuJ
namespace Go.Proofs.Ytfpeimihlihphaa.fnd
open Go.RowKit mem tre
set_option linter.unusedVariables false

theorem nodU_one {A : List Ac} (h : Bok A) : nodU A 1 = [] := by
  rw [nodU_succ, if_neg (fun q => q h.z)]; rfl
set_option maxRecDepth 100000 in
set_option maxHeartbeats 8000000 in
theorem like_any (p q : Nat) (A : List Ac) (w : World) (hp : BkAt w p A) (hq : BkAt w q A) (hA : Bok A) :
    Calls Try.prog 45 #[.pointer (some ⟨p, 0, none⟩), .pointer (some ⟨q, 0, none⟩)] w fun e w' => e = .returned (.bool true) ∧ Only (fun _ => False) w w' := by
  obtain ⟨i1, hj, hy0, hy1, hy2⟩ : ∃ i1, Try.prog.info? 3 = some i1 ∧ i1.zero = some (.int .i64 0) ∧ i1.size = 1 ∧ i1.bytes = 8 := by
    obtain ⟨i, h1, h2⟩ := Option.map_eq_some_iff.1 info_i64
    exact ⟨i, h1, by simpa using h2⟩
  have HP := Lib.hid hp
  have HQ := Lib.hid hq
  have HA := Lib.hid hA
  have HU1 := Lib.hid (nodU_one hA)
  clear hp hq hA
  go_enter Try.func45, Try.ntmps45
  go_wp2_with fail
  go_loopw [5, 6] (fun ov iv wr => ∃ (i : Nat) (dv : Value), 1 ≤ i ∧ i ≤ 33 ∧ iv = .int .i64 (i : Int) ∧ dv = ov ∧ Hid (OwnI wr dv (nodU A i)) ∧ Hid (∀ q', dv.ownBlock = some q' → w.heap.size ≤ q') ∧ Hid (Only (fun _ => False) w wr)) (fun _ iv _ => 33 - (intOf iv).toNat)
  case atStart => exact ⟨1, _, by omega, by omega, rfl, rfl, Lib.hid (by rw [HU1.out]; exact OwnI.nil _), Lib.hid (fun q' e => by cases e), Lib.hid (Only.refl _ _)⟩
  case round =>
    obtain ⟨i, dv, hi1, hi, rfl, rfl, HOI, HBK, HO⟩ := hrel
    rename World => wr
    by_cases h8 : i ≤ 32
    · have hin : (i : Int) ≤ 32 := by omega
      have hi33 : (i : Int) < 33 := by omega
      have hi0 : (0 : Int) ≤ i := by omega
      have HSU := Lib.hid (nodU_succ A i)
      have HLN := Lib.hid (nodU_len A i)
      have hAi : acG A (i : Int) = A.getD i zA := acG_nat hi1 (by omega)
      have hok : Right (A.getD i zA) := HA.out.ok i
      have HPR : Hid (∀ w', Only (fun _ => False) wr w' → BkAt w' p A) := Lib.hid (fun w' ho => HP.out.only (HO.out.trans ho) (fun f => f))
      have HG : Hid (∀ w', Only (fun _ => False) wr w' → _) := Lib.hid (fun w' (ho : Only (fun _ => False) wr w') => get_any p A (i : Int) w' (HPR.out w' ho))
      have HV : Hid (∀ w', Only (fun _ => False) wr w' → _) := Lib.hid (fun w' (ho : Only (fun _ => False) wr w') => available_any p A (i : Int) w' (HPR.out w' ho) HA.out)
      rw [hAi] at HG HV
      obtain ⟨c0, c1, c2, c3, c4⟩ := (HQ.out.only HO.out (fun f => f)).1 i (by omega)
      have HCM : Hid (∀ N w, _) := Lib.hid (fun N w => rc_cmpN N (A.getD i zA) zA (right_ins hok.1) ins_zA w)
      have HC0 : Hid (∀ N w, _) := Lib.hid (fun N w => ac_cmpN N (A.getD i zA) (A.getD i zA) (right_ins hok.1) (right_ins hok.1) w)
      have HTO : Hid (∀ w', _) := Lib.hid (fun w' => to_any (A.getD i zA) w')
      have HLF : Hid (∀ w', _) := Lib.hid (fun w' => left_any (A.getD i zA) w' hok.1)
      obtain ⟨hok1, -, hl0⟩ := hok
      have hh0 : 0 ≤ (A.getD i zA).h := hok1.2.2.2.2.1
      generalize A.getD i zA = a at *
      obtain ⟨xt, xc, xe, xu, xh⟩ := a
      generalize left ⟨xt, xc, xe, xu, xh⟩ = X at *
      unfold aggA at HG HTO HLF
      dsimp only at HG HTO HLF c0 c1 c2 c3 c4 hh0
      have hc1 := HC0.out 9990
      have hc2 := HC0.out 9989
      rw [decide_eq_true rfl] at hc1 hc2
      unfold aggA at hc1 hc2
      dsimp only at hc1 hc2
      have hg1 : decide (X < 0) = false := by simpa using hl0
      have hg2 : decide (xh < 0) = false := by simpa using hh0
      clear hok1 hAi HPR HC0
      obtain ⟨wq, hwq⟩ : ∃ x, x = wr.alloc (.cells #[.int .i64 xt, .int .i64 xc, .int .i64 xe, .int .i64 xu, .int .i64 xh] 69) := ⟨_, rfl⟩
      obtain ⟨g, hg⟩ : ∃ x, x = wr.heap.size := ⟨_, rfl⟩
      have HSL : Hid (∀ w', Only (fun _ => False) wq w' → w'.cell? ⟨g, 0, none⟩ = some (.int .i64 xt) ∧ w'.cell? ⟨g, 1, none⟩ = some (.int .i64 xc) ∧ w'.cell? ⟨g, 2, none⟩ = some (.int .i64 xe) ∧ w'.cell? ⟨g, 3, none⟩ = some (.int .i64 xu) ∧ w'.cell? ⟨g, 4, none⟩ = some (.int .i64 xh)) := Lib.hid (fun w' ho => ⟨ho.cell' (by rw [hwq]; exact alloc_cell hg rfl) (fun f => f), ho.cell' (by rw [hwq]; exact alloc_cell hg rfl) (fun f => f), ho.cell' (by rw [hwq]; exact alloc_cell hg rfl) (fun f => f), ho.cell' (by rw [hwq]; exact alloc_cell hg rfl) (fun f => f), ho.cell' (by rw [hwq]; exact alloc_cell hg rfl) (fun f => f)⟩)
      have HQ1 : Hid (Only (fun _ => False) wr wq) := Lib.hid (by rw [hwq]; exact (Only.refl _ _).alloc _)
      have HWQ := Lib.hid (HO.out.trans HQ1.out)
      replace HG : Hid (∀ w', Only (fun _ => False) wq w' → _) := Lib.hid (fun w' (ho : Only (fun _ => False) wq w') => HG.out w' (HQ1.out.trans ho))
      replace HV : Hid (∀ w', Only (fun _ => False) wq w' → _) := Lib.hid (fun w' (ho : Only (fun _ => False) wq w') => HV.out w' (HQ1.out.trans ho))
      go_upto_region 6 with fail
      rw [← hwq, ← hg]
      clear hwq hg c0 c1 c2 c3 c4
      refine wp_region_noPanic ?_
      refine wp_region_held_drew (S := (fun w' => w'.cell? ⟨g, 0, none⟩ = some (.int .i64 xt) ∧ w'.cell? ⟨g, 1, none⟩ = some (.int .i64 xc) ∧ w'.cell? ⟨g, 2, none⟩ = some (.int .i64 xe) ∧ w'.cell? ⟨g, 3, none⟩ = some (.int .i64 xu) ∧ w'.cell? ⟨g, 4, none⟩ = some (.int .i64 xh))) (by kernel_rfl) (HSL.out _ (Only.refl _ _).drew) (fun hHeld => ?_)
      obtain ⟨z0, hz0⟩ : ∃ x, x = wq.drew := ⟨_, rfl⟩
      rw [← hz0] at hHeld ⊢
      have hot : Hid (Only (fun _ => False) wq z0) := Lib.hid (by rw [hz0]; exact (Only.refl _ _).drew)
      clear hz0
      refine wpAnyH_take (i := 0) (v := ?_) rfl (by kernel_rfl) (by kernel_rfl) (by kernel_rfl) (fun _ _ _ h => h) (Or.inl ⟨by rfl, ?_⟩) (by assumption) ?_
      rotate_left 1
      · intro w' hSw
        try dsimp only at hSw
        go_simp
        try with_reducible rfl
      try simp only [List.getElem_toArray, List.getElem_cons_zero, Act.put, List.setIfInBounds_toArray, List.set_cons_zero, List.set_cons_succ]
      refine wpAnyH_take (i := 1) (v := ?_) rfl (by kernel_rfl) (by kernel_rfl) (by kernel_rfl) (fun _ _ _ h => h) (Or.inl ⟨by rfl, ?_⟩) (by assumption) ?_
      rotate_left 1
      · intro w' hSw
        try dsimp only at hSw
        go_simp
        try with_reducible rfl
      try simp only [List.getElem_toArray, List.getElem_cons_zero, List.getElem_cons_succ, Act.put, List.setIfInBounds_toArray, List.set_cons_zero, List.set_cons_succ]
      refine wpAnyH_take (i := 3) (v := ?_) rfl (by kernel_rfl) (by kernel_rfl) (by kernel_rfl) (fun _ _ _ h => h) (Or.inl ⟨by rfl, ?_⟩) (by assumption) ?_
      rotate_left 1
      · intro w' hSw
        try dsimp only at hSw
        go_simp
        try with_reducible rfl
      try simp only [List.getElem_toArray, List.getElem_cons_zero, List.getElem_cons_succ, Act.put, List.setIfInBounds_toArray, List.set_cons_zero, List.set_cons_succ]
      refine wpAnyH_ready (rs := [2]) (by kernel_rfl) (by simp) ?_
      refine AllReadyH.cons rfl (fun K hK => ?_) AllReadyH.nil
      try simp only [List.getElem_toArray, List.getElem_cons_zero, List.getElem_cons_succ]
      go_simp
      go_at_call 33
      with_reducible refine (HG.out _ hot.out).mono ?_
      rintro _ W1 ⟨rfl, ho⟩
      replace hot := Lib.hid (hot.out.trans ho)
      clear ho
      try dsimp only
      refine hK.out _ _ (HSL.out _ hot.out) (fun hHeld1 => ?_)
      clear hK K
      try simp only [List.getElem_toArray, List.getElem_cons_zero, List.getElem_cons_succ, Act.put, List.setIfInBounds_toArray, List.set_cons_zero, List.set_cons_succ]
      refine wpAnyH_ready (rs := [4]) (by kernel_rfl) (by simp) ?_
      refine AllReadyH.cons rfl (fun K hK => ?_) AllReadyH.nil
      try simp only [List.getElem_toArray, List.getElem_cons_zero, List.getElem_cons_succ]
      go_simp
      go_at_call 70
      with_reducible refine (HTO.out _).mono ?_
      rintro _ W2 ⟨rfl, ho⟩
      replace hot := Lib.hid (hot.out.trans ho)
      clear ho
      try dsimp only
      refine hK.out _ _ (HSL.out _ hot.out) (fun hHeld2 => ?_)
      clear hK K
      try simp only [List.getElem_toArray, List.getElem_cons_zero, List.getElem_cons_succ, Act.put, List.setIfInBounds_toArray, List.set_cons_zero, List.set_cons_succ]
      refine wpAnyH_take (i := 5) (v := ?_) rfl (by kernel_rfl) (by kernel_rfl) (by kernel_rfl) (fun _ _ _ h => h) (Or.inl ⟨by rfl, ?_⟩) (by assumption) ?_
      rotate_left 1
      · intro w' hSw
        try dsimp only at hSw
        go_simp
        try with_reducible rfl
      try simp only [List.getElem_toArray, List.getElem_cons_zero, List.getElem_cons_succ, Act.put, List.setIfInBounds_toArray, List.set_cons_zero, List.set_cons_succ]
      refine wpAnyH_take (i := 6) (v := ?_) rfl (by kernel_rfl) (by kernel_rfl) (by kernel_rfl) (fun _ _ _ h => h) (Or.inl ⟨by rfl, ?_⟩) (by assumption) ?_
      rotate_left 1
      · intro w' hSw
        try dsimp only at hSw
        go_simp
        try with_reducible rfl
      try simp only [List.getElem_toArray, List.getElem_cons_zero, List.getElem_cons_succ, Act.put, List.setIfInBounds_toArray, List.set_cons_zero, List.set_cons_succ]
      refine wpAnyH_take (i := 7) (v := ?_) rfl (by kernel_rfl) (by kernel_rfl) (by kernel_rfl) (fun _ _ _ h => h) (Or.inl ⟨by rfl, ?_⟩) (by assumption) ?_
      rotate_left 1
      · intro w' hSw
        try dsimp only at hSw
        go_simp
        try with_reducible rfl
      try simp only [List.getElem_toArray, List.getElem_cons_zero, List.getElem_cons_succ, Act.put, List.setIfInBounds_toArray, List.set_cons_zero, List.set_cons_succ]
      refine wpAnyH_take (i := 8) (v := ?_) rfl (by kernel_rfl) (by kernel_rfl) (by kernel_rfl) (fun _ _ _ h => h) (Or.inl ⟨by rfl, ?_⟩) (by assumption) ?_
      rotate_left 1
      · intro w' hSw
        try dsimp only at hSw
        go_simp
        try with_reducible rfl
      try simp only [List.getElem_toArray, List.getElem_cons_zero, List.getElem_cons_succ, Act.put, List.setIfInBounds_toArray, List.set_cons_zero, List.set_cons_succ]
      refine wpAnyH_take (i := 10) (v := ?_) rfl (by kernel_rfl) (by kernel_rfl) (by kernel_rfl) (fun _ _ _ h => h) (Or.inl ⟨by rfl, ?_⟩) (by assumption) ?_
      rotate_left 1
      · intro w' hSw
        try dsimp only at hSw
        go_simp
        try with_reducible rfl
      try simp only [List.getElem_toArray, List.getElem_cons_zero, List.getElem_cons_succ, Act.put, List.setIfInBounds_toArray, List.set_cons_zero, List.set_cons_succ]
      refine wpAnyH_ready (rs := [9]) (by kernel_rfl) (by simp) ?_
      refine AllReadyH.cons rfl (fun K hK => ?_) AllReadyH.nil
      try simp only [List.getElem_toArray, List.getElem_cons_zero, List.getElem_cons_succ]
      go_simp
      go_at_call 32
      with_reducible refine (HV.out _ hot.out).mono ?_
      rintro _ W3 ⟨rfl, ho⟩
      replace hot := Lib.hid (hot.out.trans ho)
      clear ho
      try dsimp only
      refine hK.out _ _ (HSL.out _ hot.out) (fun hHeld3 => ?_)
      clear hK K
      try simp only [List.getElem_toArray, List.getElem_cons_zero, List.getElem_cons_succ, Act.put, List.setIfInBounds_toArray, List.set_cons_zero, List.set_cons_succ]
      refine wpAnyH_ready (rs := [11]) (by kernel_rfl) (by simp) ?_
      refine AllReadyH.cons rfl (fun K hK => ?_) AllReadyH.nil
      try simp only [List.getElem_toArray, List.getElem_cons_zero, List.getElem_cons_succ]
      go_simp
      go_at_call 47
      with_reducible refine (HLF.out _).mono ?_
      rintro _ W4 ⟨rfl, ho⟩
      replace hot := Lib.hid (hot.out.trans ho)
      clear ho
      try dsimp only
      refine hK.out _ _ (HSL.out _ hot.out) (fun hHeld4 => ?_)
      clear hK K
      try simp only [List.getElem_toArray, List.getElem_cons_zero, List.getElem_cons_succ, Act.put, List.setIfInBounds_toArray, List.set_cons_zero, List.set_cons_succ]
      refine wpAnyH_take (i := 12) (v := ?_) rfl (by kernel_rfl) (by kernel_rfl) (by kernel_rfl) (fun _ _ _ h => h) (Or.inl ⟨by rfl, ?_⟩) (by assumption) ?_
      rotate_left 1
      · intro w' hSw
        try dsimp only at hSw
        go_simp
        try with_reducible rfl
      try simp only [List.getElem_toArray, List.getElem_cons_zero, List.getElem_cons_succ, Act.put, List.setIfInBounds_toArray, List.set_cons_zero, List.set_cons_succ]
      refine wpAnyH_take (i := 13) (v := ?_) rfl (by kernel_rfl) (by kernel_rfl) (by kernel_rfl) (fun _ _ _ h => h) (Or.inl ⟨by rfl, ?_⟩) (by assumption) ?_
      rotate_left 1
      · intro w' hSw
        try dsimp only at hSw
        go_simp
        try with_reducible rfl
      try simp only [List.getElem_toArray, List.getElem_cons_zero, List.getElem_cons_succ, Act.put, List.setIfInBounds_toArray, List.set_cons_zero, List.set_cons_succ]
      refine wpAnyH_take (i := 14) (v := ?_) rfl (by kernel_rfl) (by kernel_rfl) (by kernel_rfl) (fun _ _ _ h => h) (Or.inl ⟨by rfl, ?_⟩) (by assumption) ?_
      rotate_left 1
      · intro w' hSw
        try dsimp only at hSw
        go_simp
        try with_reducible rfl
      try simp only [List.getElem_toArray, List.getElem_cons_zero, List.getElem_cons_succ, Act.put, List.setIfInBounds_toArray, List.set_cons_zero, List.set_cons_succ]
      refine wpAnyH_take (i := 15) (v := ?_) rfl (by kernel_rfl) (by kernel_rfl) (by kernel_rfl) (fun _ _ _ h => h) (Or.inl ⟨by rfl, ?_⟩) (by assumption) ?_
      rotate_left 1
      · intro w' hSw
        try dsimp only at hSw
        go_simp
        try with_reducible rfl
      try simp only [List.getElem_toArray, List.getElem_cons_zero, List.getElem_cons_succ, Act.put, List.setIfInBounds_toArray, List.set_cons_zero, List.set_cons_succ]
      refine wpAnyH_ready (rs := [16]) (by kernel_rfl) (by simp) ?_
      refine AllReadyH.cons rfl (fun K hK => ?_) AllReadyH.nil
      try simp only [List.getElem_toArray, List.getElem_cons_zero, List.getElem_cons_succ]
      go_simp
      go_at_call 47
      with_reducible refine (HLF.out _).mono ?_
      rintro _ W5 ⟨rfl, ho⟩
      replace hot := Lib.hid (hot.out.trans ho)
      clear ho
      try dsimp only
      refine hK.out _ _ (HSL.out _ hot.out) (fun hHeld5 => ?_)
      clear hK K
      try simp only [List.getElem_toArray, List.getElem_cons_zero, List.getElem_cons_succ, Act.put, List.setIfInBounds_toArray, List.set_cons_zero, List.set_cons_succ]
      refine wpAnyH_take (i := 17) (v := ?_) rfl (by kernel_rfl) (by kernel_rfl) (by kernel_rfl) (fun _ _ _ h => h) (Or.inl ⟨by rfl, ?_⟩) (by assumption) ?_
      rotate_left 1
      · intro w' hSw
        try dsimp only at hSw
        go_simp
        try with_reducible rfl
      try simp only [List.getElem_toArray, List.getElem_cons_zero, List.getElem_cons_succ, Act.put, List.setIfInBounds_toArray, List.set_cons_zero, List.set_cons_succ]
      refine wpAnyH_take (i := 18) (v := ?_) rfl (by kernel_rfl) (by kernel_rfl) (by kernel_rfl) (fun _ _ _ h => h) (Or.inl ⟨by rfl, ?_⟩) (by assumption) ?_
      rotate_left 1
      · intro w' hSw
        try dsimp only at hSw
        go_simp
        try with_reducible rfl
      try simp only [List.getElem_toArray, List.getElem_cons_zero, List.getElem_cons_succ, Act.put, List.setIfInBounds_toArray, List.set_cons_zero, List.set_cons_succ]
      refine wpAnyH_take (i := 19) (v := ?_) rfl (by kernel_rfl) (by kernel_rfl) (by kernel_rfl) (fun _ _ _ h => h) (Or.inl ⟨by rfl, ?_⟩) (by assumption) ?_
      rotate_left 1
      · intro w' hSw
        try dsimp only at hSw
        go_simp
        try with_reducible rfl
      try simp only [List.getElem_toArray, List.getElem_cons_zero, List.getElem_cons_succ, Act.put, List.setIfInBounds_toArray, List.set_cons_zero, List.set_cons_succ]
      refine wpAnyH_take (i := 20) (v := ?_) rfl (by kernel_rfl) (by kernel_rfl) (by kernel_rfl) (fun _ _ _ h => h) (Or.inl ⟨by rfl, ?_⟩) (by assumption) ?_
      rotate_left 1
      · intro w' hSw
        try dsimp only at hSw
        go_simp
        try with_reducible rfl
      try simp only [List.getElem_toArray, List.getElem_cons_zero, List.getElem_cons_succ, Act.put, List.setIfInBounds_toArray, List.set_cons_zero, List.set_cons_succ]
      refine wpAnyH_take (i := 21) (v := ?_) rfl (by kernel_rfl) (by kernel_rfl) (by kernel_rfl) (fun _ _ _ h => h) (Or.inl ⟨by rfl, ?_⟩) (by assumption) ?_
      rotate_left 1
      · intro w' hSw
        try dsimp only at hSw
        go_simp
        try with_reducible rfl
      try simp only [List.getElem_toArray, List.getElem_cons_zero, List.getElem_cons_succ, Act.put, List.setIfInBounds_toArray, List.set_cons_zero, List.set_cons_succ]
      refine wpAnyH_take (i := 22) (v := ?_) rfl (by kernel_rfl) (by kernel_rfl) (by kernel_rfl) (fun _ _ _ h => h) (Or.inl ⟨by rfl, ?_⟩) (by assumption) ?_
      rotate_left 1
      · intro w' hSw
        try dsimp only at hSw
        go_simp
        try with_reducible rfl
      try simp only [List.getElem_toArray, List.getElem_cons_zero, List.getElem_cons_succ, Act.put, List.setIfInBounds_toArray, List.set_cons_zero, List.set_cons_succ]
      refine wpAnyH_take (i := 23) (v := ?_) rfl (by kernel_rfl) (by kernel_rfl) (by kernel_rfl) (fun _ _ _ h => h) (Or.inl ⟨by rfl, ?_⟩) (by assumption) ?_
      rotate_left 1
      · intro w' hSw
        try dsimp only at hSw
        go_simp
        try with_reducible rfl
      try simp only [List.getElem_toArray, List.getElem_cons_zero, List.getElem_cons_succ, Act.put, List.setIfInBounds_toArray, List.set_cons_zero, List.set_cons_succ]
      refine wpAnyH_done (by kernel_rfl) ?_ _
      refine NoPanic.normal ?_
      rename World => wz
      obtain ⟨d0, d1, d2, d3, d4⟩ := HSL.out _ hot.out
      have HWZ := Lib.hid (HWQ.out.trans hot.out)
      have HOZ := Lib.hid (HOI.out.only ((HQ1.out).trans hot.out) (fun _ _ f => f))
      clear hHeld hot HWQ HSL HG HTO HV HLF hc1 hc2 HQ1 HOI
      by_cases hb : (⟨xt, xc, xe, xu, xh⟩ : Ac) = zA
      · have HSV : Hid (OwnI wz dv (nodU A (i + 1))) := Lib.hid (by rw [HSU.out, if_neg (fun q => q hb)]; exact HOZ.out)
        have hk1 := HCM.out 9990
        have hk2 := HCM.out 9989
        rw [decide_eq_true hb] at hk1 hk2
        unfold aggA zA at hk1 hk2
        dsimp only at hk1 hk2
        clear hb HSU HCM
        go_wp2_with fail
        go_roundw
        case rel => exact ⟨i + 1, dv, by omega, by omega, by go_num, rfl, HSV, HBK, HWZ⟩
        case measure => simp [intOf]; omega
      · have HSV : Hid (nodU A (i + 1) = nodU A i ++ [(i : Int)]) := Lib.hid (by rw [HSU.out, if_pos hb])
        have hk1 := HCM.out 9990
        have hk2 := HCM.out 9989
        rw [decide_eq_false hb] at hk1 hk2
        unfold aggA zA at hk1 hk2
        dsimp only at hk1 hk2
        have HOW2 : Hid ((wz.alloc (.cells #[.int .i64 i] 3)).ownsRow 0 3 1 dv (nodU A i).length (iv (nodU A i))) := Lib.hid (HOZ.out.only ((Only.refl (fun _ => False) wz).alloc _) (fun _ _ f => f))
        generalize hn : (nodU A i).length = n at *
        have HN := Lib.hid hn
        have hn33 : n ≤ 33 := by have := HLN.out; omega
        clear hn hb HSU HCM
        go_wp2_with (at_builtin; refine append_mine rfl _ _ 30 rfl 3 i1 _ 1 8 Try.underlying30 hj hy0 hy1 hy2 rfl (by decide) _ n _ rfl HOW2.out ⟨wz.heap.size, 0, none⟩ 1 1 (iv [(i : Int)]) rfl ?c1 ?c2 ?c3 ?c4 ?c5 ?_)
        case c1 => rfl
        case c2 => exact news_int rfl _
        case c3 => exact iv_one _
        case c4 => unfold maxLen; omega
        case c5 => omega
        intro v3 w3 hown hgrow hkk
        have HON : Hid (OwnI w3 v3 (nodU A (i + 1))) := Lib.hid (by
          unfold OwnI
          rw [HSV.out, iv_append, List.length_append, HN.out]
          exact hown)
        have HBN : Hid (∀ q', v3.ownBlock = some q' → w.heap.size ≤ q') := Lib.hid (fun q' hq => by
          rcases hkk q' hq with e | e
          · exact HBK.out q' e
          · have h5 : wz.heap.size ≤ q' := by first | omega | (simp only [size_alloc] at e; omega)
            have := HO.out.size
            have := HWZ.out.size
            omega)
        have HON2 : Hid (Only (fun _ => False) w w3) := Lib.hid ((HWZ.out.alloc _).then (Only.of_grown hgrow) (fun q' hq e => by have := HBK.out q' e; omega))
        clear hown hgrow hkk HOW2
        go_wp2_with fail
        go_roundw
        case rel => exact ⟨i + 1, v3, by omega, by omega, by go_num, rfl, HON, HBN, HON2⟩
        case measure => simp [intOf]; omega
    · obtain rfl : i = 33 := by omega
      have hul := nodU_len A 33
      obtain ⟨a5, c5, rfl, hr5, -⟩ := HOI.out.reads (fun c hc => by have := nodU_in A 33 c hc; omega) (by omega)
      have HR5 := Lib.hid hr5
      have HNA := Lib.hid (nodes_any p A wr (HP.out.only HO.out (fun f => f)) HA.out)
      clear hr5 HOI HBK HU1
      generalize nodU A 33 = IL at *
      generalize hn : IL.length = n at *
      go_wp2_with fail
      refine HNA.out.mono ?_
      rintro _ w6 ⟨⟨v, rfl, a6, c6, rfl, hr6, hb6⟩, ho⟩
      rw [hn] at hr6 ⊢
      have HR6 := Lib.hid hr6
      have HO6 := Lib.hid (HO.out.trans ho)
      have HR56 := Lib.hid (HR5.out.only ho (fun _ _ f => f))
      clear hr6 hb6 ho HO HR5 HNA
      go_wp2_with fail
      refine (same_any _ _ _ _ _ _ _ HR6.out HR56.out).mono ?_
      rintro _ w7 ⟨rfl, ho⟩
      have HO7 := Lib.hid (HO6.out.trans ho)
      clear ho HO6 HR6 HR56 hul
      clear hn IL
      go_wp2_with fail
      go_ret
      exact ⟨rfl, HO7.out⟩
end Go.Proofs.Ytfpeimihlihphaa.fnd
