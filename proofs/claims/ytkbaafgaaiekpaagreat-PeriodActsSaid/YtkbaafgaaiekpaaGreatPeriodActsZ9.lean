/- Several texts together: JnC. -/
import Derived.Test.YtkbaafgaaiekpaaGreatPeriodActsZ1
namespace Go.Proofs.YtkbaafgaaiekpaaGreat.jnw
open Go.RowKit mem accm accn entw entm
set_option linter.unusedVariables false

theorem eq_nil_map (r : Option Nat) (w : World) : (binOp BinOp.eql 98 (Value.map r) (Value.map none)).run Tryz.prog w = .ok (.bool r.isNone) w := by
  cases r <;> simp [binOp, Op.equal, Op.maxDepth, run_equalIn_map_nil w 9999 _ _ _ _ Tryz.underlying98, Result.andThen]
set_option maxRecDepth 100000 in
set_option maxHeartbeats 4000000 in
theorem add_some (p op : Nat) (v : Value) (mb nn : Nat) (C : Ac → Option (List Int)) (b off n cap : Nat) (ls : List Lg) (w : World) (h : JnC w p v op (some mb)) (hm : MapA w mb nn C) (hr : ReadsL w (some ⟨b, off, none⟩) n ls) (hpm : mb ≠ p) (hbp : b ≠ p) (hbm : b ≠ mb) (hnn : nn ≤ 10000000) (hn : n ≤ 64) :
    Calls Tryz.prog 72 #[.pointer (some ⟨p, 0, none⟩), .slice (some ⟨b, off, none⟩) n cap] w fun e w' => e = .returned (.tuple #[]) ∧ JnC w' p v op (some mb) ∧ MapA w' mb (nn + n) (addC C op ls) ∧ Only (fun q => q = mb) w w' := by
  have c2 := h.c2
  have HC : Hid (∀ w', Only (fun q => q = mb) w w' → JnC w' p v op (some mb)) := Lib.hid (fun w' ho => h.only ho (fun e => hpm e.symm))
  have HRL : Hid (∀ w', Only (fun q => q = mb) w w' → ReadsL w' (some ⟨b, off, none⟩) n ls) := Lib.hid (fun w' ho => hr.only ho (fun x hx e => by injection hx with hx; subst hx; exact hbm e))
  have HM := Lib.hid hm
  have HPM := Lib.hid hpm
  have hop := h.le
  have HLN : Hid (n = ls.length) := Lib.hid hr.1.symm
  clear h hm hr hpm
  go_enter Tryz.func72, Tryz.ntmps72
  have hen := eq_nil_map (some mb)
  simp only [Option.isNone_some] at hen
  go_wp2_with fail
  clear c2 hen
  go_loopw [18] (fun i wr => ∃ k : Nat, k ≤ n ∧ i = .int .i64 k ∧ Hid (MapA wr mb (nn + k) (addC C op (ls.take k))) ∧ Hid (Only (fun q => q = mb) w wr)) (fun i _ => n - (intOf i).toNat)
  case atStart => exact ⟨0, by omega, rfl, Lib.hid (by simpa [addC] using HM.out), Lib.hid (Only.refl _ _)⟩
  case round =>
    obtain ⟨k, hk, rfl, HMP, HW⟩ := hrel
    rename World => wr
    by_cases h8 : k < n
    · obtain ⟨bb, oo, hbe, hc⟩ := (HRL.out wr HW.out).2.2.2.resolve_left (by omega)
      injection hbe with hbe
      injection hbe with hb1 hb2
      subst hb1 hb2
      obtain ⟨c0, c1, c2, c3⟩ := hc k h8
      have hin := (HRL.out wr HW.out).2.2.1 _ (getL_mem ls k (by rw [← HLN.out]; exact h8))
      have HAT := Lib.hid (addC_take C op ls k (by rw [← HLN.out]; exact h8))
      obtain ⟨⟨xk, xn, xg, xa⟩, hle⟩ : ∃ x, ls.getD k default = x := ⟨_, rfl⟩
      rw [hle] at c0 c1 c2 c3 hin HAT
      dsimp only at c0 c1 c2 c3
      have HIA : Hid (InA ⟨xk, xn, xg⟩) := Lib.hid (lgA_in hin)
      have HXA : Hid (InI xa) := Lib.hid hin.2.2.2
      have hk0 : (0 : Int) ≤ (k : Int) := by omega
      have hkm : (k : Int) < (n : Int) := by omega
      clear hc hle hin
      obtain ⟨wa, hwa⟩ : ∃ x, x = wr.alloc (.cells #[.int .i64 xk, .int .i64 xn, .int .i64 xg, .int .i64 xa] 96) := ⟨_, rfl⟩
      obtain ⟨q5, hq5⟩ : ∃ x, x = wr.heap.size := ⟨_, rfl⟩
      have HOA : Hid (Only (fun q => q = mb) w wa) := Lib.hid (by rw [hwa]; exact HW.out.alloc _)
      have HOR : Hid (Only (fun _ => False) wr wa) := Lib.hid (by rw [hwa]; exact (Only.refl _ _).alloc _)
      have HQ : Hid (∀ w', Only (fun _ => False) wa w' → w'.cell? ⟨q5, 0, none⟩ = some (.int .i64 xk) ∧ w'.cell? ⟨q5, 1, none⟩ = some (.int .i64 xn) ∧ w'.cell? ⟨q5, 2, none⟩ = some (.int .i64 xg) ∧ w'.cell? ⟨q5, 3, none⟩ = some (.int .i64 xa)) := Lib.hid (fun w' ho =>
        ⟨ho.cell' (by rw [hwa]; exact alloc_new _ _ _ _ _ _ hq5 rfl) (fun f => f), ho.cell' (by rw [hwa]; exact alloc_new _ _ _ _ _ _ hq5 rfl) (fun f => f), ho.cell' (by rw [hwa]; exact alloc_new _ _ _ _ _ _ hq5 rfl) (fun f => f), ho.cell' (by rw [hwa]; exact alloc_new _ _ _ _ _ _ hq5 rfl) (fun f => f)⟩)
      have HJ : Hid (∀ w', Only (fun _ => False) wa w' → JnC w' p v op (some mb)) := Lib.hid (fun w' ho => (HC.out wa HOA.out).only ho (fun f => f))
      have HF : Hid (∀ w', Only (fun _ => False) wa w' → w'.cell? ⟨p, 2, none⟩ = some (.map (some mb)) ∧ w'.cell? ⟨q5, 0, none⟩ = some (.int .i64 xk) ∧ w'.cell? ⟨q5, 1, none⟩ = some (.int .i64 xn) ∧ w'.cell? ⟨q5, 2, none⟩ = some (.int .i64 xg)) := Lib.hid (fun w' ho => ⟨(HJ.out w' ho).c2, (HQ.out w' ho).1, (HQ.out w' ho).2.1, (HQ.out w' ho).2.2.1⟩)
      have HMA : Hid (∀ w', Only (fun _ => False) wa w' → MapA w' mb (nn + k) (addC C op (ls.take k))) := Lib.hid (fun w' ho => HMP.out.only (HOR.out.trans ho) (fun f => f))
      obtain ⟨row, hrow⟩ : ∃ x, x = ((addC C op (ls.take k)) ⟨xk, xn, xg⟩).getD noughts := ⟨_, rfl⟩
      have HRE := Lib.hid hrow
      have HRW : Hid (Row row) := Lib.hid (by rw [hrow]; exact HMP.out.row _)
      have HLK : Hid (∀ w', Only (fun _ => False) wa w' → (Instr.lookup 98 (.map (some mb)) (.agg #[.int .i64 xk, .int .i64 xn, .int .i64 xg]) false).run Tryz.prog w' = .ok (.agg (iv row).toArray) w') := Lib.hid (fun w' ho => by
        have h := (HMA.out w' ho).look HIA.out
        unfold acc accm.accV sec at h
        rw [hrow]
        exact h)
      have hlen : (iv row).length = 32 := by rw [iv_length]; exact HRW.out.1
      clear hrow
      go_upto_region 5 with fail
      simp only [← hwa, ← hq5]
      clear hwa hq5 c0 c1 c2 c3
      refine wp_region_noPanic ?_
      refine late.region (fun w' => w'.cell? ⟨p, 2, none⟩ = some (.map (some mb)) ∧ w'.cell? ⟨q5, 0, none⟩ = some (.int .i64 xk) ∧ w'.cell? ⟨q5, 1, none⟩ = some (.int .i64 xn) ∧ w'.cell? ⟨q5, 2, none⟩ = some (.int .i64 xg)) (fun j => [8].contains j) (by kernel_rfl) (HF.out _ (Only.refl _ _).drew) (fun hHeld => ?_)
      obtain ⟨z0, hz0⟩ : ∃ x, x = wa.drew := ⟨_, rfl⟩
      rw [← hz0] at hHeld ⊢
      have hot : Hid (Only (fun _ => False) wa z0) := Lib.hid (by rw [hz0]; exact (Only.refl _ _).drew)
      clear hz0
      refine sho.lt 0 [1, 2, 3, 6, 8] ?_
      refine sho.lt 1 [2, 3, 6, 8] ?_
      refine sho.lt 2 [3, 6, 8] ?_
      refine sho.lt 3 [6, 8] ?_
      refine sho.lt 4 [5, 6, 8] ?_
      refine sho.lt 5 [6, 8] ?_
      refine late.ready (rs := [6, 7]) (by kernel_rfl) (by simp) ?_
      refine late.Each.cons rfl (fun K hK => ?_) (late.Each.cons rfl (fun K hK => ?_) late.Each.nil)
      · have hlk := HLK.out _ hot.out
        try simp only [List.getElem_toArray, List.getElem_cons_zero, List.getElem_cons_succ]
        go_simp
        refine hK.out _ _ (fun _ => HF.out _ hot.out) (fun hHeld1 => ?_)
        replace hHeld1 := hHeld1 rfl
        clear hK K
        clear hlk
        try simp only [List.getElem_toArray, List.getElem_cons_zero, List.getElem_cons_succ, Act.put, List.setIfInBounds_toArray, List.set_cons_zero, List.set_cons_succ]
        refine late.ready (rs := [7]) (by kernel_rfl) (by simp) ?_
        refine late.Each.cons rfl (fun K hK => ?_) late.Each.nil
        try simp only [List.getElem_toArray, List.getElem_cons_zero, List.getElem_cons_succ]
        go_simp
        refine hK.out _ _ (fun _ => HF.out _ (hot.out.alloc _)) (fun hHeld2 => ?_)
        replace hHeld2 := hHeld2 rfl
        clear hK K
        have hotz := hot
        replace hot := Lib.hid (hot.out.alloc (.cells #[.int .i64 0, .int .i64 0, .int .i64 0, .int .i64 0, .int .i64 0, .int .i64 0, .int .i64 0, .int .i64 0, .int .i64 0, .int .i64 0, .int .i64 0, .int .i64 0, .int .i64 0, .int .i64 0, .int .i64 0, .int .i64 0, .int .i64 0, .int .i64 0, .int .i64 0, .int .i64 0, .int .i64 0, .int .i64 0, .int .i64 0, .int .i64 0, .int .i64 0, .int .i64 0, .int .i64 0, .int .i64 0, .int .i64 0, .int .i64 0, .int .i64 0, .int .i64 0] 101))
        try simp only [List.getElem_toArray, List.getElem_cons_zero, List.getElem_cons_succ, Act.put, List.setIfInBounds_toArray, List.set_cons_zero, List.set_cons_succ]
        refine late.ready (rs := [8]) (by kernel_rfl) (by simp) ?_
        refine late.Each.cons rfl (fun K hK => ?_) late.Each.nil
        have hst := store_rowc HRW.out
        try simp only [List.getElem_toArray, List.getElem_cons_zero, List.getElem_cons_succ]
        go_simp
        refine hK.out _ _ (fun h => by cases h) (fun _ => ?_)
        clear hK K
        clear hst
        try simp only [List.getElem_toArray, List.getElem_cons_zero, List.getElem_cons_succ, Act.put, List.setIfInBounds_toArray, List.set_cons_zero, List.set_cons_succ]
        refine late.done (by kernel_rfl) ?_ _
        refine NoPanic.normal ?_
        obtain ⟨wb, hwb⟩ : ∃ x, x = z0.alloc (.cells (iv row).toArray 101) := ⟨_, rfl⟩
        obtain ⟨q6, hq6⟩ : ∃ x, x = z0.heap.size := ⟨_, rfl⟩
        have HOB : Hid (Only (fun _ => False) wa wb) := Lib.hid (by rw [hwb]; exact hotz.out.alloc _)
        have HBR : Hid (BoxR wb q6 row) := Lib.hid (by rw [hwb, hq6]; exact BoxR.new HRW.out z0 _)
        have HLT : Hid (wa.heap.size ≤ q6) := Lib.hid (by rw [hq6]; exact hotz.out.size)
        have HWB : Hid (Only (fun q => q = mb) w wb) := Lib.hid (HOA.out.then HOB.out (fun q hq f => f.elim))
        simp only [← hwb, ← hq6]
        clear hwb hq6 hotz hot hHeld HLK HF hlen
        obtain ⟨x0, hx0⟩ : ∃ x, x = row.getD op 0 := ⟨_, rfl⟩
        obtain ⟨y0, hy0⟩ : ∃ x, x = wrap64 (x0 + xa) := ⟨_, rfl⟩
        have HWY : Hid (IntKind.i64.wrap (x0 + xa) = y0) := Lib.hid (by rw [hy0, IntKind.wrap_i64]; simp only [wrap64])
        have HRA : Hid (row.set op y0 = rowAdd row op xa) := Lib.hid (by rw [hy0, hx0]; rfl)
        have HF6 : Hid (∀ w', Only (fun _ => False) wb w' → w'.cell? ⟨p, 1, none⟩ = some (.int .i64 (op : Int)) ∧ w'.cell? ⟨q6, op, none⟩ = some (.int .i64 x0) ∧ w'.cell? ⟨q5, 3, none⟩ = some (.int .i64 xa)) := Lib.hid (fun w' ho => ⟨(HJ.out w' (HOB.out.trans ho)).c1, by rw [hx0]; exact (HBR.out.only ho (fun f => f)).1 op hop, (HQ.out w' (HOB.out.trans ho)).2.2.2⟩)
        have hop0 : (0 : Int) ≤ (op : Int) := by omega
        have hop1 : (op : Int) < 32 := by omega
        clear hx0 hy0
        go_upto_region 6 with fail
        refine wp_region_noPanic ?_
        refine late.region (fun w' => w'.cell? ⟨p, 1, none⟩ = some (.int .i64 (op : Int)) ∧ w'.cell? ⟨q6, op, none⟩ = some (.int .i64 x0) ∧ w'.cell? ⟨q5, 3, none⟩ = some (.int .i64 xa)) (fun j => [10].contains j) (by kernel_rfl) (HF6.out _ (Only.refl _ _).drew) (fun hHeld => ?_)
        obtain ⟨z1, hz1⟩ : ∃ x, x = wb.drew := ⟨_, rfl⟩
        rw [← hz1] at hHeld ⊢
        have hot1 : Hid (Only (fun _ => False) wb z1) := Lib.hid (by rw [hz1]; exact (Only.refl _ _).drew)
        clear hz1
        refine sho.lt 0 [1, 2, 3, 4, 5, 8, 9, 10] ?_
        refine sho.lt 1 [2, 3, 4, 5, 8, 9, 10] ?_
        refine sho.lt 2 [3, 4, 5, 8, 9, 10] ?_
        refine sho.lt 3 [4, 5, 8, 9, 10] ?_
        refine sho.lt 4 [5, 8, 9, 10] ?_
        refine sho.lt 5 [8, 9, 10] ?_
        refine sho.lt 6 [7, 8, 9, 10] ?_
        refine sho.lt 7 [8, 9, 10] ?_
        refine sho.lt 8 [9, 10] ?_
        refine sho.lt 9 [10] ?_
        refine late.ready (rs := [10]) (by kernel_rfl) (by simp) ?_
        refine late.Each.cons rfl (fun K hK => ?_) late.Each.nil
        have hfz := (HBR.out.only hot1.out (fun f => f)).2 op hop
        have hce := (HF6.out _ hot1.out).2.1
        have hwy := HWY.out
        try simp only [List.getElem_toArray, List.getElem_cons_zero, List.getElem_cons_succ]
        go_simp
        refine hK.out _ _ (fun h => by cases h) (fun _ => ?_)
        clear hK K
        clear hfz hce hwy
        try simp only [List.getElem_toArray, List.getElem_cons_zero, List.getElem_cons_succ, Act.put, List.setIfInBounds_toArray, List.set_cons_zero, List.set_cons_succ]
        refine late.done (by kernel_rfl) ?_ _
        refine NoPanic.normal ?_
        obtain ⟨wc, hwc⟩ : ∃ x, x = z1.setCell ⟨q6, op, none⟩ (.int .i64 y0) := ⟨_, rfl⟩
        have HR2 : Hid (Row (rowAdd row op xa)) := Lib.hid (rowAdd_row HRW.out op xa)
        have HBR2 : Hid (BoxR wc q6 (rowAdd row op xa)) := Lib.hid (by rw [hwc, ← HRA.out]; exact (HBR.out.only hot1.out (fun f => f)).set HRW.out.1 op hop y0)
        have HOC : Hid (Only (fun q => q = q6) wb wc) := Lib.hid (by rw [hwc]; exact (hot1.out.mono (fun q _ f => f.elim)).trans (Only.set (fun q => q = q6) z1 q6 op _ rfl))
        have HWC : Hid (Only (fun q => q = mb) w wc) := Lib.hid (HWB.out.then HOC.out (fun q hq e => by have := HLT.out; have := HOA.out.size; omega))
        simp only [← hwc]
        clear hwc hot1 hHeld HF6 HWY HRA
        have HF7 : Hid (∀ w', Only (fun _ => False) wc w' → w'.cell? ⟨p, 2, none⟩ = some (.map (some mb)) ∧ w'.cell? ⟨q5, 0, none⟩ = some (.int .i64 xk) ∧ w'.cell? ⟨q5, 1, none⟩ = some (.int .i64 xn) ∧ w'.cell? ⟨q5, 2, none⟩ = some (.int .i64 xg)) := Lib.hid (fun w' ho => by
          obtain ⟨t0, t1, t2, t3⟩ := HQ.out wb HOB.out
          have hlt : q5 < wb.heap.size := World.block_lt_of_cell? wb _ t0
          have hq : q5 < wa.heap.size := World.block_lt_of_cell? wa _ (HQ.out wa (Only.refl _ _)).1
          have hne : ¬ q5 = q6 := by have := HLT.out; omega
          exact ⟨(HC.out w' (HWC.out.then ho (fun q hq f => f.elim))).c2, ho.cell' (HOC.out.cell' t0 hne) (fun f => f), ho.cell' (HOC.out.cell' t1 hne) (fun f => f), ho.cell' (HOC.out.cell' t2 hne) (fun f => f)⟩)
        have HST : Hid (∀ w', Only (fun _ => False) wc w' → ∃ w3, (Instr.mapUpdate 98 (.map (some mb)) (.agg #[.int .i64 xk, .int .i64 xn, .int .i64 xg]) (.agg (iv (rowAdd row op xa)).toArray)).run Tryz.prog w' = .ok () w3 ∧ MapA w3 mb (nn + k + 1) (addC C op (ls.take (k + 1))) ∧ Only (fun q => q = mb) w' w3) := Lib.hid (fun w' ho => by
          have hlm : mb < wa.heap.size := (HMA.out wa (Only.refl _ _)).lt
          have hne : ¬ mb = q6 := by have := HLT.out; omega
          have hm2 := (((HMA.out wb HOB.out).only HOC.out hne).only ho (fun f => f))
          obtain ⟨w3, g1, g2, g3⟩ := hm2.store HIA.out (by omega) HR2.out
          refine ⟨w3, ?_, ?_, g3⟩
          · unfold acc accm.accV sec at g1
            exact g1
          · have e := HAT.out
            unfold lgA at e
            dsimp only at e
            rw [e, ← HRE.out]
            exact g2)
        go_upto_region 7 with fail
        refine wp_region_noPanic ?_
        refine late.region (fun w' => w'.cell? ⟨p, 2, none⟩ = some (.map (some mb)) ∧ w'.cell? ⟨q5, 0, none⟩ = some (.int .i64 xk) ∧ w'.cell? ⟨q5, 1, none⟩ = some (.int .i64 xn) ∧ w'.cell? ⟨q5, 2, none⟩ = some (.int .i64 xg)) (fun j => [7].contains j) (by kernel_rfl) (HF7.out _ (Only.refl _ _).drew) (fun hHeld => ?_)
        obtain ⟨z2, hz2⟩ : ∃ x, x = wc.drew := ⟨_, rfl⟩
        rw [← hz2] at hHeld ⊢
        have hot2 : Hid (Only (fun _ => False) wc z2) := Lib.hid (by rw [hz2]; exact (Only.refl _ _).drew)
        clear hz2
        refine sho.lt 0 [1, 2, 3, 7] ?_
        refine sho.lt 1 [2, 3, 7] ?_
        refine sho.lt 2 [3, 7] ?_
        refine sho.lt 3 [7] ?_
        refine sho.lt 4 [5, 7] ?_
        refine sho.lt 5 [7] ?_
        refine late.ready (rs := [6]) (by kernel_rfl) (by simp) ?_
        refine late.Each.cons rfl (fun K hK => ?_) late.Each.nil
        split
        rotate_left
        · rename_i hh
          exact absurd (by rfl) hh
        refine wp_load_mid 101 (Operand.tmp 6) rfl q6 0 rfl (iv (rowAdd row op xa)) _ ((HBR2.out.only hot2.out (fun f => f)).range HR2.out.1) Tryz.underlying101 rfl (by rw [size_row, iv_length, HR2.out.1]) ?_
        refine hK.out _ _ (fun _ => HF7.out _ hot2.out) (fun hHeld1 => ?_)
        replace hHeld1 := hHeld1 rfl
        clear hK K
        try simp only [List.getElem_toArray, List.getElem_cons_zero, List.getElem_cons_succ, Act.put, List.setIfInBounds_toArray, List.set_cons_zero, List.set_cons_succ]
        refine late.ready (rs := [7]) (by kernel_rfl) (by simp) ?_
        refine late.Each.cons rfl (fun K hK => ?_) late.Each.nil
        obtain ⟨w3, hmu, hma, ho⟩ := HST.out z2 hot2.out
        have HMN := Lib.hid hma
        clear hma
        try simp only [List.getElem_toArray, List.getElem_cons_zero, List.getElem_cons_succ]
        go_simp
        refine hK.out _ _ (fun h => by cases h) (fun _ => ?_)
        clear hK K
        clear hmu
        have HO3 := Lib.hid ho
        clear ho
        try simp only [List.getElem_toArray, List.getElem_cons_zero, List.getElem_cons_succ, Act.put, List.setIfInBounds_toArray, List.set_cons_zero, List.set_cons_succ]
        refine late.done (by kernel_rfl) ?_ _
        refine NoPanic.normal ?_
        have HWN : Hid (Only (fun q => q = mb) w w3) := Lib.hid ((HWC.out.then hot2.out (fun q hq f => f.elim)).trans HO3.out)
        clear hHeld hot2 HO3 HST HF7 HOC HWC HBR HBR2 HR2 HOB HWB HLT HMA HJ HQ
        go_wp2_with fail
        go_roundw
        case rel => exact ⟨k + 1, by omega, by go_num, HMN, HWN⟩
        case measure => (simp [intOf]; omega)

      · try simp only [List.getElem_toArray, List.getElem_cons_zero, List.getElem_cons_succ]
        go_simp
        refine hK.out _ _ (fun _ => HF.out _ (hot.out.alloc _)) (fun hHeld4 => ?_)
        replace hHeld4 := hHeld4 rfl
        clear hK K
        have hotz := hot
        replace hot := Lib.hid (hot.out.alloc (.cells #[.int .i64 0, .int .i64 0, .int .i64 0, .int .i64 0, .int .i64 0, .int .i64 0, .int .i64 0, .int .i64 0, .int .i64 0, .int .i64 0, .int .i64 0, .int .i64 0, .int .i64 0, .int .i64 0, .int .i64 0, .int .i64 0, .int .i64 0, .int .i64 0, .int .i64 0, .int .i64 0, .int .i64 0, .int .i64 0, .int .i64 0, .int .i64 0, .int .i64 0, .int .i64 0, .int .i64 0, .int .i64 0, .int .i64 0, .int .i64 0, .int .i64 0, .int .i64 0] 101))
        try simp only [List.getElem_toArray, List.getElem_cons_zero, List.getElem_cons_succ, Act.put, List.setIfInBounds_toArray, List.set_cons_zero, List.set_cons_succ]
        refine late.ready (rs := [6]) (by kernel_rfl) (by simp) ?_
        refine late.Each.cons rfl (fun K hK => ?_) late.Each.nil
        have hlk := HLK.out _ hot.out
        try simp only [List.getElem_toArray, List.getElem_cons_zero, List.getElem_cons_succ]
        go_simp
        refine hK.out _ _ (fun _ => HF.out _ hot.out) (fun hHeld5 => ?_)
        replace hHeld5 := hHeld5 rfl
        clear hK K
        clear hlk
        try simp only [List.getElem_toArray, List.getElem_cons_zero, List.getElem_cons_succ, Act.put, List.setIfInBounds_toArray, List.set_cons_zero, List.set_cons_succ]
        refine late.ready (rs := [8]) (by kernel_rfl) (by simp) ?_
        refine late.Each.cons rfl (fun K hK => ?_) late.Each.nil
        have hst := store_rowc HRW.out
        try simp only [List.getElem_toArray, List.getElem_cons_zero, List.getElem_cons_succ]
        go_simp
        refine hK.out _ _ (fun h => by cases h) (fun _ => ?_)
        clear hK K
        clear hst
        try simp only [List.getElem_toArray, List.getElem_cons_zero, List.getElem_cons_succ, Act.put, List.setIfInBounds_toArray, List.set_cons_zero, List.set_cons_succ]
        refine late.done (by kernel_rfl) ?_ _
        refine NoPanic.normal ?_
        obtain ⟨wb, hwb⟩ : ∃ x, x = z0.alloc (.cells (iv row).toArray 101) := ⟨_, rfl⟩
        obtain ⟨q6, hq6⟩ : ∃ x, x = z0.heap.size := ⟨_, rfl⟩
        have HOB : Hid (Only (fun _ => False) wa wb) := Lib.hid (by rw [hwb]; exact hotz.out.alloc _)
        have HBR : Hid (BoxR wb q6 row) := Lib.hid (by rw [hwb, hq6]; exact BoxR.new HRW.out z0 _)
        have HLT : Hid (wa.heap.size ≤ q6) := Lib.hid (by rw [hq6]; exact hotz.out.size)
        have HWB : Hid (Only (fun q => q = mb) w wb) := Lib.hid (HOA.out.then HOB.out (fun q hq f => f.elim))
        simp only [← hwb, ← hq6]
        clear hwb hq6 hotz hot hHeld HLK HF hlen
        obtain ⟨x0, hx0⟩ : ∃ x, x = row.getD op 0 := ⟨_, rfl⟩
        obtain ⟨y0, hy0⟩ : ∃ x, x = wrap64 (x0 + xa) := ⟨_, rfl⟩
        have HWY : Hid (IntKind.i64.wrap (x0 + xa) = y0) := Lib.hid (by rw [hy0, IntKind.wrap_i64]; simp only [wrap64])
        have HRA : Hid (row.set op y0 = rowAdd row op xa) := Lib.hid (by rw [hy0, hx0]; rfl)
        have HF6 : Hid (∀ w', Only (fun _ => False) wb w' → w'.cell? ⟨p, 1, none⟩ = some (.int .i64 (op : Int)) ∧ w'.cell? ⟨q6, op, none⟩ = some (.int .i64 x0) ∧ w'.cell? ⟨q5, 3, none⟩ = some (.int .i64 xa)) := Lib.hid (fun w' ho => ⟨(HJ.out w' (HOB.out.trans ho)).c1, by rw [hx0]; exact (HBR.out.only ho (fun f => f)).1 op hop, (HQ.out w' (HOB.out.trans ho)).2.2.2⟩)
        have hop0 : (0 : Int) ≤ (op : Int) := by omega
        have hop1 : (op : Int) < 32 := by omega
        clear hx0 hy0
        go_upto_region 6 with fail
        refine wp_region_noPanic ?_
        refine late.region (fun w' => w'.cell? ⟨p, 1, none⟩ = some (.int .i64 (op : Int)) ∧ w'.cell? ⟨q6, op, none⟩ = some (.int .i64 x0) ∧ w'.cell? ⟨q5, 3, none⟩ = some (.int .i64 xa)) (fun j => [10].contains j) (by kernel_rfl) (HF6.out _ (Only.refl _ _).drew) (fun hHeld => ?_)
        obtain ⟨z1, hz1⟩ : ∃ x, x = wb.drew := ⟨_, rfl⟩
        rw [← hz1] at hHeld ⊢
        have hot1 : Hid (Only (fun _ => False) wb z1) := Lib.hid (by rw [hz1]; exact (Only.refl _ _).drew)
        clear hz1
        refine sho.lt 0 [1, 2, 3, 4, 5, 8, 9, 10] ?_
        refine sho.lt 1 [2, 3, 4, 5, 8, 9, 10] ?_
        refine sho.lt 2 [3, 4, 5, 8, 9, 10] ?_
        refine sho.lt 3 [4, 5, 8, 9, 10] ?_
        refine sho.lt 4 [5, 8, 9, 10] ?_
        refine sho.lt 5 [8, 9, 10] ?_
        refine sho.lt 6 [7, 8, 9, 10] ?_
        refine sho.lt 7 [8, 9, 10] ?_
        refine sho.lt 8 [9, 10] ?_
        refine sho.lt 9 [10] ?_
        refine late.ready (rs := [10]) (by kernel_rfl) (by simp) ?_
        refine late.Each.cons rfl (fun K hK => ?_) late.Each.nil
        have hfz := (HBR.out.only hot1.out (fun f => f)).2 op hop
        have hce := (HF6.out _ hot1.out).2.1
        have hwy := HWY.out
        try simp only [List.getElem_toArray, List.getElem_cons_zero, List.getElem_cons_succ]
        go_simp
        refine hK.out _ _ (fun h => by cases h) (fun _ => ?_)
        clear hK K
        clear hfz hce hwy
        try simp only [List.getElem_toArray, List.getElem_cons_zero, List.getElem_cons_succ, Act.put, List.setIfInBounds_toArray, List.set_cons_zero, List.set_cons_succ]
        refine late.done (by kernel_rfl) ?_ _
        refine NoPanic.normal ?_
        obtain ⟨wc, hwc⟩ : ∃ x, x = z1.setCell ⟨q6, op, none⟩ (.int .i64 y0) := ⟨_, rfl⟩
        have HR2 : Hid (Row (rowAdd row op xa)) := Lib.hid (rowAdd_row HRW.out op xa)
        have HBR2 : Hid (BoxR wc q6 (rowAdd row op xa)) := Lib.hid (by rw [hwc, ← HRA.out]; exact (HBR.out.only hot1.out (fun f => f)).set HRW.out.1 op hop y0)
        have HOC : Hid (Only (fun q => q = q6) wb wc) := Lib.hid (by rw [hwc]; exact (hot1.out.mono (fun q _ f => f.elim)).trans (Only.set (fun q => q = q6) z1 q6 op _ rfl))
        have HWC : Hid (Only (fun q => q = mb) w wc) := Lib.hid (HWB.out.then HOC.out (fun q hq e => by have := HLT.out; have := HOA.out.size; omega))
        simp only [← hwc]
        clear hwc hot1 hHeld HF6 HWY HRA
        have HF7 : Hid (∀ w', Only (fun _ => False) wc w' → w'.cell? ⟨p, 2, none⟩ = some (.map (some mb)) ∧ w'.cell? ⟨q5, 0, none⟩ = some (.int .i64 xk) ∧ w'.cell? ⟨q5, 1, none⟩ = some (.int .i64 xn) ∧ w'.cell? ⟨q5, 2, none⟩ = some (.int .i64 xg)) := Lib.hid (fun w' ho => by
          obtain ⟨t0, t1, t2, t3⟩ := HQ.out wb HOB.out
          have hlt : q5 < wb.heap.size := World.block_lt_of_cell? wb _ t0
          have hq : q5 < wa.heap.size := World.block_lt_of_cell? wa _ (HQ.out wa (Only.refl _ _)).1
          have hne : ¬ q5 = q6 := by have := HLT.out; omega
          exact ⟨(HC.out w' (HWC.out.then ho (fun q hq f => f.elim))).c2, ho.cell' (HOC.out.cell' t0 hne) (fun f => f), ho.cell' (HOC.out.cell' t1 hne) (fun f => f), ho.cell' (HOC.out.cell' t2 hne) (fun f => f)⟩)
        have HST : Hid (∀ w', Only (fun _ => False) wc w' → ∃ w3, (Instr.mapUpdate 98 (.map (some mb)) (.agg #[.int .i64 xk, .int .i64 xn, .int .i64 xg]) (.agg (iv (rowAdd row op xa)).toArray)).run Tryz.prog w' = .ok () w3 ∧ MapA w3 mb (nn + k + 1) (addC C op (ls.take (k + 1))) ∧ Only (fun q => q = mb) w' w3) := Lib.hid (fun w' ho => by
          have hlm : mb < wa.heap.size := (HMA.out wa (Only.refl _ _)).lt
          have hne : ¬ mb = q6 := by have := HLT.out; omega
          have hm2 := (((HMA.out wb HOB.out).only HOC.out hne).only ho (fun f => f))
          obtain ⟨w3, g1, g2, g3⟩ := hm2.store HIA.out (by omega) HR2.out
          refine ⟨w3, ?_, ?_, g3⟩
          · unfold acc accm.accV sec at g1
            exact g1
          · have e := HAT.out
            unfold lgA at e
            dsimp only at e
            rw [e, ← HRE.out]
            exact g2)
        go_upto_region 7 with fail
        refine wp_region_noPanic ?_
        refine late.region (fun w' => w'.cell? ⟨p, 2, none⟩ = some (.map (some mb)) ∧ w'.cell? ⟨q5, 0, none⟩ = some (.int .i64 xk) ∧ w'.cell? ⟨q5, 1, none⟩ = some (.int .i64 xn) ∧ w'.cell? ⟨q5, 2, none⟩ = some (.int .i64 xg)) (fun j => [7].contains j) (by kernel_rfl) (HF7.out _ (Only.refl _ _).drew) (fun hHeld => ?_)
        obtain ⟨z2, hz2⟩ : ∃ x, x = wc.drew := ⟨_, rfl⟩
        rw [← hz2] at hHeld ⊢
        have hot2 : Hid (Only (fun _ => False) wc z2) := Lib.hid (by rw [hz2]; exact (Only.refl _ _).drew)
        clear hz2
        refine sho.lt 0 [1, 2, 3, 7] ?_
        refine sho.lt 1 [2, 3, 7] ?_
        refine sho.lt 2 [3, 7] ?_
        refine sho.lt 3 [7] ?_
        refine sho.lt 4 [5, 7] ?_
        refine sho.lt 5 [7] ?_
        refine late.ready (rs := [6]) (by kernel_rfl) (by simp) ?_
        refine late.Each.cons rfl (fun K hK => ?_) late.Each.nil
        split
        rotate_left
        · rename_i hh
          exact absurd (by rfl) hh
        refine wp_load_mid 101 (Operand.tmp 6) rfl q6 0 rfl (iv (rowAdd row op xa)) _ ((HBR2.out.only hot2.out (fun f => f)).range HR2.out.1) Tryz.underlying101 rfl (by rw [size_row, iv_length, HR2.out.1]) ?_
        refine hK.out _ _ (fun _ => HF7.out _ hot2.out) (fun hHeld1 => ?_)
        replace hHeld1 := hHeld1 rfl
        clear hK K
        try simp only [List.getElem_toArray, List.getElem_cons_zero, List.getElem_cons_succ, Act.put, List.setIfInBounds_toArray, List.set_cons_zero, List.set_cons_succ]
        refine late.ready (rs := [7]) (by kernel_rfl) (by simp) ?_
        refine late.Each.cons rfl (fun K hK => ?_) late.Each.nil
        obtain ⟨w3, hmu, hma, ho⟩ := HST.out z2 hot2.out
        have HMN := Lib.hid hma
        clear hma
        try simp only [List.getElem_toArray, List.getElem_cons_zero, List.getElem_cons_succ]
        go_simp
        refine hK.out _ _ (fun h => by cases h) (fun _ => ?_)
        clear hK K
        clear hmu
        have HO3 := Lib.hid ho
        clear ho
        try simp only [List.getElem_toArray, List.getElem_cons_zero, List.getElem_cons_succ, Act.put, List.setIfInBounds_toArray, List.set_cons_zero, List.set_cons_succ]
        refine late.done (by kernel_rfl) ?_ _
        refine NoPanic.normal ?_
        have HWN : Hid (Only (fun q => q = mb) w w3) := Lib.hid ((HWC.out.then hot2.out (fun q hq f => f.elim)).trans HO3.out)
        clear hHeld hot2 HO3 HST HF7 HOC HWC HBR HBR2 HR2 HOB HWB HLT HMA HJ HQ
        go_wp2_with fail
        go_roundw
        case rel => exact ⟨k + 1, by omega, by go_num, HMN, HWN⟩
        case measure => (simp [intOf]; omega)
    · have hge : ¬ (k : Int) < (n : Int) := by omega
      obtain rfl : n = k := by omega
      go_wp2_with fail
      have HMX := Lib.hid (show MapA wr mb (nn + n) (addC C op ls) by have := HMP.out; rwa [List.take_of_length_le (by rw [← HLN.out]; omega)] at this)
      exact bodyPost_end (v := .tuple #[]) (by simp [results, Tryz.results72, go_sem]) rfl ⟨rfl, HC.out wr HW.out, HMX.out, HW.out⟩
end Go.Proofs.YtkbaafgaaiekpaaGreat.jnw
