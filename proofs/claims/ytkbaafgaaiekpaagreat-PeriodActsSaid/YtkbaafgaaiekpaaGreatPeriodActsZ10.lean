/- Several texts together: JnD, JnE, JnF, JnG. -/
import Derived.Test.YtkbaafgaaiekpaaGreatPeriodActsZ1
import Derived.Test.YtkbaafgaaiekpaaGreatPeriodActsZ9
namespace Go.Proofs.YtkbaafgaaiekpaaGreat.jnw
open Go.RowKit mem accm accn entw entm
set_option linter.unusedVariables false

set_option maxRecDepth 100000 in
set_option maxHeartbeats 4000000 in
theorem add_none (p op : Nat) (v : Value) (b off n cap : Nat) (ls : List Lg) (w0 : World) (h : JnC w0 p v op none) (hr : ReadsL w0 (some ⟨b, off, none⟩) n ls) (hbp : b ≠ p) (hbl : b < w0.heap.size) (hn : n ≤ 64) :
    Calls Tryz.prog 72 #[.pointer (some ⟨p, 0, none⟩), .slice (some ⟨b, off, none⟩) n cap] w0 fun e w' => e = .returned (.tuple #[]) ∧ ∃ mb, JnC w' p v op (some mb) ∧ MapA w' mb n (addC (fun _ => none) op ls) ∧ Only (fun q => q = p) w0 w' ∧ mb = w0.heap.size := by
  obtain ⟨C, hC⟩ : ∃ C : Ac → Option (List Int), C = fun _ => none := ⟨_, rfl⟩
  obtain ⟨nn, hnn0⟩ : ∃ x, x = 0 := ⟨_, rfl⟩
  obtain ⟨mb, hmb⟩ : ∃ x, x = w0.heap.size := ⟨_, rfl⟩
  obtain ⟨w, hw⟩ : ∃ x, x = (w0.setCell ⟨p, 2, none⟩ (.map (some mb))).alloc (.map #[] 0) := ⟨_, rfl⟩
  have hpl : p < w0.heap.size := World.block_lt_of_cell? w0 _ h.c0
  have hpm : mb ≠ p := by omega
  have hbm : b ≠ mb := by omega
  have hsz : (w0.setCell ⟨p, 2, none⟩ (.map (some mb))).heap.size = w0.heap.size := by simp
  have hj1 : JnC (w0.setCell ⟨p, 2, none⟩ (.map (some mb))) p v op (some mb) :=
    ⟨by rw [cell_other (fun e => by injection e with _ e; omega)]; exact h.c0, by rw [cell_other (fun e => by injection e with _ e; omega)]; exact h.c1, cell_same h.c2, by rw [frozen_set]; exact h.f0, by rw [frozen_set]; exact h.f1, by rw [frozen_set]; exact h.f2, h.le⟩
  have hoa : Only (fun _ => False) (w0.setCell ⟨p, 2, none⟩ (.map (some mb))) w := by rw [hw]; exact (Only.refl _ _).alloc _
  have hj : JnC w p v op (some mb) := hj1.only hoa (fun f => f)
  have hoW : Only (fun q => q = p) w0 w := (Only.set (fun q => q = p) w0 p 2 _ rfl).then hoa (fun q _ f => f.elim)
  have hm : MapA w mb nn C := by
    have := MapA.made (w0.setCell ⟨p, 2, none⟩ (.map (some mb)))
    rw [hsz, ← hmb] at this
    rw [hw, hC, hnn0]
    exact this
  have hrw : ReadsL w (some ⟨b, off, none⟩) n ls := hr.only hoW (fun x hx e => by injection hx with hx; subst hx; exact hbp e)
  have HC : Hid (∀ w', Only (fun q => q = mb) w w' → JnC w' p v op (some mb)) := Lib.hid (fun w' ho => hj.only ho (fun e => hpm e.symm))
  have HRL : Hid (∀ w', Only (fun q => q = mb) w w' → ReadsL w' (some ⟨b, off, none⟩) n ls) := Lib.hid (fun w' ho => hrw.only ho (fun x hx e => by injection hx with hx; subst hx; exact hbm e))
  have HM := Lib.hid hm
  have HPM := Lib.hid hpm
  have hop := h.le
  have HLN : Hid (n = ls.length) := Lib.hid hr.1.symm
  have HW0 := Lib.hid hoW
  have HMB := Lib.hid hmb
  have HN0 := Lib.hid hnn0
  have HCC := Lib.hid hC
  have hnn : nn ≤ 10000000 := by omega
  have c2 := h.c2
  have f2a := h.f2
  have c2b := hj.c2
  have hen := eq_nil_map none
  simp only [Option.isNone_none] at hen
  have hmm := @run_makeMap Tryz.prog
  rw [hw, hmb] at c2b
  clear h hm hr hrw hpm hoW hj hj1 hoa hsz hC hnn0
  go_enter Tryz.func72, Tryz.ntmps72
  go_wp2_with fail
  simp only [← hmb, ← hw]
  clear c2 c2b f2a hen hmm hw hmb hpl
  go_loopw [18] (fun i wr => ∃ k : Nat, k ≤ n ∧ i = .int .i64 k ∧ Hid (MapA wr mb (nn + k) (addC C op (ls.take k))) ∧ Hid (Only (fun q => q = mb) w wr)) (fun i _ => n - (intOf i).toNat)
  case atStart => exact ⟨0, by omega, rfl, Lib.hid (by simpa [addC] using HM.out), Lib.hid (Only.refl _ _)⟩
  case round =>
    obtain ⟨k, hk, rfl, HMP, HW⟩ := hrel
    rename World => wr
    by_cases h8 : k < n
    · obtain ⟨bb, oo, hbe, hc⟩ := (HRL.out wr HW.out).2.2.2.resolve_left (by omega)
      injection hbe with hbe
      injection hbe with hb1 hb2
      subst hb1 hb2
      obtain ⟨c0, c1, c2, c3⟩ := hc k h8
      have hin := (HRL.out wr HW.out).2.2.1 _ (getL_mem ls k (by rw [← HLN.out]; exact h8))
      have HAT := Lib.hid (addC_take C op ls k (by rw [← HLN.out]; exact h8))
      obtain ⟨⟨xk, xn, xg, xa⟩, hle⟩ : ∃ x, ls.getD k default = x := ⟨_, rfl⟩
      rw [hle] at c0 c1 c2 c3 hin HAT
      dsimp only at c0 c1 c2 c3
      have HIA : Hid (InA ⟨xk, xn, xg⟩) := Lib.hid (lgA_in hin)
      have HXA : Hid (InI xa) := Lib.hid hin.2.2.2
      have hk0 : (0 : Int) ≤ (k : Int) := by omega
      have hkm : (k : Int) < (n : Int) := by omega
      clear hc hle hin
      obtain ⟨wa, hwa⟩ : ∃ x, x = wr.alloc (.cells #[.int .i64 xk, .int .i64 xn, .int .i64 xg, .int .i64 xa] 96) := ⟨_, rfl⟩
      obtain ⟨q5, hq5⟩ : ∃ x, x = wr.heap.size := ⟨_, rfl⟩
      have HOA : Hid (Only (fun q => q = mb) w wa) := Lib.hid (by rw [hwa]; exact HW.out.alloc _)
      have HOR : Hid (Only (fun _ => False) wr wa) := Lib.hid (by rw [hwa]; exact (Only.refl _ _).alloc _)
      have HQ : Hid (∀ w', Only (fun _ => False) wa w' → w'.cell? ⟨q5, 0, none⟩ = some (.int .i64 xk) ∧ w'.cell? ⟨q5, 1, none⟩ = some (.int .i64 xn) ∧ w'.cell? ⟨q5, 2, none⟩ = some (.int .i64 xg) ∧ w'.cell? ⟨q5, 3, none⟩ = some (.int .i64 xa)) := Lib.hid (fun w' ho =>
        ⟨ho.cell' (by rw [hwa]; exact alloc_new _ _ _ _ _ _ hq5 rfl) (fun f => f), ho.cell' (by rw [hwa]; exact alloc_new _ _ _ _ _ _ hq5 rfl) (fun f => f), ho.cell' (by rw [hwa]; exact alloc_new _ _ _ _ _ _ hq5 rfl) (fun f => f), ho.cell' (by rw [hwa]; exact alloc_new _ _ _ _ _ _ hq5 rfl) (fun f => f)⟩)
      have HJ : Hid (∀ w', Only (fun _ => False) wa w' → JnC w' p v op (some mb)) := Lib.hid (fun w' ho => (HC.out wa HOA.out).only ho (fun f => f))
      have HF : Hid (∀ w', Only (fun _ => False) wa w' → w'.cell? ⟨p, 2, none⟩ = some (.map (some mb)) ∧ w'.cell? ⟨q5, 0, none⟩ = some (.int .i64 xk) ∧ w'.cell? ⟨q5, 1, none⟩ = some (.int .i64 xn) ∧ w'.cell? ⟨q5, 2, none⟩ = some (.int .i64 xg)) := Lib.hid (fun w' ho => ⟨(HJ.out w' ho).c2, (HQ.out w' ho).1, (HQ.out w' ho).2.1, (HQ.out w' ho).2.2.1⟩)
      have HMA : Hid (∀ w', Only (fun _ => False) wa w' → MapA w' mb (nn + k) (addC C op (ls.take k))) := Lib.hid (fun w' ho => HMP.out.only (HOR.out.trans ho) (fun f => f))
      obtain ⟨row, hrow⟩ : ∃ x, x = ((addC C op (ls.take k)) ⟨xk, xn, xg⟩).getD noughts := ⟨_, rfl⟩
      have HRE := Lib.hid hrow
      have HRW : Hid (Row row) := Lib.hid (by rw [hrow]; exact HMP.out.row _)
      have HLK : Hid (∀ w', Only (fun _ => False) wa w' → (Instr.lookup 98 (.map (some mb)) (.agg #[.int .i64 xk, .int .i64 xn, .int .i64 xg]) false).run Tryz.prog w' = .ok (.agg (iv row).toArray) w') := Lib.hid (fun w' ho => by
        have h := (HMA.out w' ho).look HIA.out
        unfold acc accm.accV sec at h
        rw [hrow]
        exact h)
      have hlen : (iv row).length = 32 := by rw [iv_length]; exact HRW.out.1
      clear hrow
      go_upto_region 5 with fail
      simp only [← hwa, ← hq5]
      clear hwa hq5 c0 c1 c2 c3
      refine wp_region_noPanic ?_
      refine late.region (fun w' => w'.cell? ⟨p, 2, none⟩ = some (.map (some mb)) ∧ w'.cell? ⟨q5, 0, none⟩ = some (.int .i64 xk) ∧ w'.cell? ⟨q5, 1, none⟩ = some (.int .i64 xn) ∧ w'.cell? ⟨q5, 2, none⟩ = some (.int .i64 xg)) (fun j => [8].contains j) (by kernel_rfl) (HF.out _ (Only.refl _ _).drew) (fun hHeld => ?_)
      obtain ⟨z0, hz0⟩ : ∃ x, x = wa.drew := ⟨_, rfl⟩
      rw [← hz0] at hHeld ⊢
      have hot : Hid (Only (fun _ => False) wa z0) := Lib.hid (by rw [hz0]; exact (Only.refl _ _).drew)
      clear hz0
      refine sho.lt 0 [1, 2, 3, 6, 8] ?_
      refine sho.lt 1 [2, 3, 6, 8] ?_
      refine sho.lt 2 [3, 6, 8] ?_
      refine sho.lt 3 [6, 8] ?_
      refine sho.lt 4 [5, 6, 8] ?_
      refine sho.lt 5 [6, 8] ?_
      refine late.ready (rs := [6, 7]) (by kernel_rfl) (by simp) ?_
      refine late.Each.cons rfl (fun K hK => ?_) (late.Each.cons rfl (fun K hK => ?_) late.Each.nil)
      · have hlk := HLK.out _ hot.out
        try simp only [List.getElem_toArray, List.getElem_cons_zero, List.getElem_cons_succ]
        go_simp
        refine hK.out _ _ (fun _ => HF.out _ hot.out) (fun hHeld1 => ?_)
        replace hHeld1 := hHeld1 rfl
        clear hK K
        clear hlk
        try simp only [List.getElem_toArray, List.getElem_cons_zero, List.getElem_cons_succ, Act.put, List.setIfInBounds_toArray, List.set_cons_zero, List.set_cons_succ]
        refine late.ready (rs := [7]) (by kernel_rfl) (by simp) ?_
        refine late.Each.cons rfl (fun K hK => ?_) late.Each.nil
        try simp only [List.getElem_toArray, List.getElem_cons_zero, List.getElem_cons_succ]
        go_simp
        refine hK.out _ _ (fun _ => HF.out _ (hot.out.alloc _)) (fun hHeld2 => ?_)
        replace hHeld2 := hHeld2 rfl
        clear hK K
        have hotz := hot
        replace hot := Lib.hid (hot.out.alloc (.cells #[.int .i64 0, .int .i64 0, .int .i64 0, .int .i64 0, .int .i64 0, .int .i64 0, .int .i64 0, .int .i64 0, .int .i64 0, .int .i64 0, .int .i64 0, .int .i64 0, .int .i64 0, .int .i64 0, .int .i64 0, .int .i64 0, .int .i64 0, .int .i64 0, .int .i64 0, .int .i64 0, .int .i64 0, .int .i64 0, .int .i64 0, .int .i64 0, .int .i64 0, .int .i64 0, .int .i64 0, .int .i64 0, .int .i64 0, .int .i64 0, .int .i64 0, .int .i64 0] 101))
        try simp only [List.getElem_toArray, List.getElem_cons_zero, List.getElem_cons_succ, Act.put, List.setIfInBounds_toArray, List.set_cons_zero, List.set_cons_succ]
        refine late.ready (rs := [8]) (by kernel_rfl) (by simp) ?_
        refine late.Each.cons rfl (fun K hK => ?_) late.Each.nil
        have hst := store_rowc HRW.out
        try simp only [List.getElem_toArray, List.getElem_cons_zero, List.getElem_cons_succ]
        go_simp
        refine hK.out _ _ (fun h => by cases h) (fun _ => ?_)
        clear hK K
        clear hst
        try simp only [List.getElem_toArray, List.getElem_cons_zero, List.getElem_cons_succ, Act.put, List.setIfInBounds_toArray, List.set_cons_zero, List.set_cons_succ]
        refine late.done (by kernel_rfl) ?_ _
        refine NoPanic.normal ?_
        obtain ⟨wb, hwb⟩ : ∃ x, x = z0.alloc (.cells (iv row).toArray 101) := ⟨_, rfl⟩
        obtain ⟨q6, hq6⟩ : ∃ x, x = z0.heap.size := ⟨_, rfl⟩
        have HOB : Hid (Only (fun _ => False) wa wb) := Lib.hid (by rw [hwb]; exact hotz.out.alloc _)
        have HBR : Hid (BoxR wb q6 row) := Lib.hid (by rw [hwb, hq6]; exact BoxR.new HRW.out z0 _)
        have HLT : Hid (wa.heap.size ≤ q6) := Lib.hid (by rw [hq6]; exact hotz.out.size)
        have HWB : Hid (Only (fun q => q = mb) w wb) := Lib.hid (HOA.out.then HOB.out (fun q hq f => f.elim))
        simp only [← hwb, ← hq6]
        clear hwb hq6 hotz hot hHeld HLK HF hlen
        obtain ⟨x0, hx0⟩ : ∃ x, x = row.getD op 0 := ⟨_, rfl⟩
        obtain ⟨y0, hy0⟩ : ∃ x, x = wrap64 (x0 + xa) := ⟨_, rfl⟩
        have HWY : Hid (IntKind.i64.wrap (x0 + xa) = y0) := Lib.hid (by rw [hy0, IntKind.wrap_i64]; simp only [wrap64])
        have HRA : Hid (row.set op y0 = rowAdd row op xa) := Lib.hid (by rw [hy0, hx0]; rfl)
        have HF6 : Hid (∀ w', Only (fun _ => False) wb w' → w'.cell? ⟨p, 1, none⟩ = some (.int .i64 (op : Int)) ∧ w'.cell? ⟨q6, op, none⟩ = some (.int .i64 x0) ∧ w'.cell? ⟨q5, 3, none⟩ = some (.int .i64 xa)) := Lib.hid (fun w' ho => ⟨(HJ.out w' (HOB.out.trans ho)).c1, by rw [hx0]; exact (HBR.out.only ho (fun f => f)).1 op hop, (HQ.out w' (HOB.out.trans ho)).2.2.2⟩)
        have hop0 : (0 : Int) ≤ (op : Int) := by omega
        have hop1 : (op : Int) < 32 := by omega
        clear hx0 hy0
        go_upto_region 6 with fail
        refine wp_region_noPanic ?_
        refine late.region (fun w' => w'.cell? ⟨p, 1, none⟩ = some (.int .i64 (op : Int)) ∧ w'.cell? ⟨q6, op, none⟩ = some (.int .i64 x0) ∧ w'.cell? ⟨q5, 3, none⟩ = some (.int .i64 xa)) (fun j => [10].contains j) (by kernel_rfl) (HF6.out _ (Only.refl _ _).drew) (fun hHeld => ?_)
        obtain ⟨z1, hz1⟩ : ∃ x, x = wb.drew := ⟨_, rfl⟩
        rw [← hz1] at hHeld ⊢
        have hot1 : Hid (Only (fun _ => False) wb z1) := Lib.hid (by rw [hz1]; exact (Only.refl _ _).drew)
        clear hz1
        refine sho.lt 0 [1, 2, 3, 4, 5, 8, 9, 10] ?_
        refine sho.lt 1 [2, 3, 4, 5, 8, 9, 10] ?_
        refine sho.lt 2 [3, 4, 5, 8, 9, 10] ?_
        refine sho.lt 3 [4, 5, 8, 9, 10] ?_
        refine sho.lt 4 [5, 8, 9, 10] ?_
        refine sho.lt 5 [8, 9, 10] ?_
        refine sho.lt 6 [7, 8, 9, 10] ?_
        refine sho.lt 7 [8, 9, 10] ?_
        refine sho.lt 8 [9, 10] ?_
        refine sho.lt 9 [10] ?_
        refine late.ready (rs := [10]) (by kernel_rfl) (by simp) ?_
        refine late.Each.cons rfl (fun K hK => ?_) late.Each.nil
        have hfz := (HBR.out.only hot1.out (fun f => f)).2 op hop
        have hce := (HF6.out _ hot1.out).2.1
        have hwy := HWY.out
        try simp only [List.getElem_toArray, List.getElem_cons_zero, List.getElem_cons_succ]
        go_simp
        refine hK.out _ _ (fun h => by cases h) (fun _ => ?_)
        clear hK K
        clear hfz hce hwy
        try simp only [List.getElem_toArray, List.getElem_cons_zero, List.getElem_cons_succ, Act.put, List.setIfInBounds_toArray, List.set_cons_zero, List.set_cons_succ]
        refine late.done (by kernel_rfl) ?_ _
        refine NoPanic.normal ?_
        obtain ⟨wc, hwc⟩ : ∃ x, x = z1.setCell ⟨q6, op, none⟩ (.int .i64 y0) := ⟨_, rfl⟩
        have HR2 : Hid (Row (rowAdd row op xa)) := Lib.hid (rowAdd_row HRW.out op xa)
        have HBR2 : Hid (BoxR wc q6 (rowAdd row op xa)) := Lib.hid (by rw [hwc, ← HRA.out]; exact (HBR.out.only hot1.out (fun f => f)).set HRW.out.1 op hop y0)
        have HOC : Hid (Only (fun q => q = q6) wb wc) := Lib.hid (by rw [hwc]; exact (hot1.out.mono (fun q _ f => f.elim)).trans (Only.set (fun q => q = q6) z1 q6 op _ rfl))
        have HWC : Hid (Only (fun q => q = mb) w wc) := Lib.hid (HWB.out.then HOC.out (fun q hq e => by have := HLT.out; have := HOA.out.size; omega))
        simp only [← hwc]
        clear hwc hot1 hHeld HF6 HWY HRA
        have HF7 : Hid (∀ w', Only (fun _ => False) wc w' → w'.cell? ⟨p, 2, none⟩ = some (.map (some mb)) ∧ w'.cell? ⟨q5, 0, none⟩ = some (.int .i64 xk) ∧ w'.cell? ⟨q5, 1, none⟩ = some (.int .i64 xn) ∧ w'.cell? ⟨q5, 2, none⟩ = some (.int .i64 xg)) := Lib.hid (fun w' ho => by
          obtain ⟨t0, t1, t2, t3⟩ := HQ.out wb HOB.out
          have hlt : q5 < wb.heap.size := World.block_lt_of_cell? wb _ t0
          have hq : q5 < wa.heap.size := World.block_lt_of_cell? wa _ (HQ.out wa (Only.refl _ _)).1
          have hne : ¬ q5 = q6 := by have := HLT.out; omega
          exact ⟨(HC.out w' (HWC.out.then ho (fun q hq f => f.elim))).c2, ho.cell' (HOC.out.cell' t0 hne) (fun f => f), ho.cell' (HOC.out.cell' t1 hne) (fun f => f), ho.cell' (HOC.out.cell' t2 hne) (fun f => f)⟩)
        have HST : Hid (∀ w', Only (fun _ => False) wc w' → ∃ w3, (Instr.mapUpdate 98 (.map (some mb)) (.agg #[.int .i64 xk, .int .i64 xn, .int .i64 xg]) (.agg (iv (rowAdd row op xa)).toArray)).run Tryz.prog w' = .ok () w3 ∧ MapA w3 mb (nn + k + 1) (addC C op (ls.take (k + 1))) ∧ Only (fun q => q = mb) w' w3) := Lib.hid (fun w' ho => by
          have hlm : mb < wa.heap.size := (HMA.out wa (Only.refl _ _)).lt
          have hne : ¬ mb = q6 := by have := HLT.out; omega
          have hm2 := (((HMA.out wb HOB.out).only HOC.out hne).only ho (fun f => f))
          obtain ⟨w3, g1, g2, g3⟩ := hm2.store HIA.out (by omega) HR2.out
          refine ⟨w3, ?_, ?_, g3⟩
          · unfold acc accm.accV sec at g1
            exact g1
          · have e := HAT.out
            unfold lgA at e
            dsimp only at e
            rw [e, ← HRE.out]
            exact g2)
        go_upto_region 7 with fail
        refine wp_region_noPanic ?_
        refine late.region (fun w' => w'.cell? ⟨p, 2, none⟩ = some (.map (some mb)) ∧ w'.cell? ⟨q5, 0, none⟩ = some (.int .i64 xk) ∧ w'.cell? ⟨q5, 1, none⟩ = some (.int .i64 xn) ∧ w'.cell? ⟨q5, 2, none⟩ = some (.int .i64 xg)) (fun j => [7].contains j) (by kernel_rfl) (HF7.out _ (Only.refl _ _).drew) (fun hHeld => ?_)
        obtain ⟨z2, hz2⟩ : ∃ x, x = wc.drew := ⟨_, rfl⟩
        rw [← hz2] at hHeld ⊢
        have hot2 : Hid (Only (fun _ => False) wc z2) := Lib.hid (by rw [hz2]; exact (Only.refl _ _).drew)
        clear hz2
        refine sho.lt 0 [1, 2, 3, 7] ?_
        refine sho.lt 1 [2, 3, 7] ?_
        refine sho.lt 2 [3, 7] ?_
        refine sho.lt 3 [7] ?_
        refine sho.lt 4 [5, 7] ?_
        refine sho.lt 5 [7] ?_
        refine late.ready (rs := [6]) (by kernel_rfl) (by simp) ?_
        refine late.Each.cons rfl (fun K hK => ?_) late.Each.nil
        split
        rotate_left
        · rename_i hh
          exact absurd (by rfl) hh
        refine wp_load_mid 101 (Operand.tmp 6) rfl q6 0 rfl (iv (rowAdd row op xa)) _ ((HBR2.out.only hot2.out (fun f => f)).range HR2.out.1) Tryz.underlying101 rfl (by rw [size_row, iv_length, HR2.out.1]) ?_
        refine hK.out _ _ (fun _ => HF7.out _ hot2.out) (fun hHeld1 => ?_)
        replace hHeld1 := hHeld1 rfl
        clear hK K
        try simp only [List.getElem_toArray, List.getElem_cons_zero, List.getElem_cons_succ, Act.put, List.setIfInBounds_toArray, List.set_cons_zero, List.set_cons_succ]
        refine late.ready (rs := [7]) (by kernel_rfl) (by simp) ?_
        refine late.Each.cons rfl (fun K hK => ?_) late.Each.nil
        obtain ⟨w3, hmu, hma, ho⟩ := HST.out z2 hot2.out
        have HMN := Lib.hid hma
        clear hma
        try simp only [List.getElem_toArray, List.getElem_cons_zero, List.getElem_cons_succ]
        go_simp
        refine hK.out _ _ (fun h => by cases h) (fun _ => ?_)
        clear hK K
        clear hmu
        have HO3 := Lib.hid ho
        clear ho
        try simp only [List.getElem_toArray, List.getElem_cons_zero, List.getElem_cons_succ, Act.put, List.setIfInBounds_toArray, List.set_cons_zero, List.set_cons_succ]
        refine late.done (by kernel_rfl) ?_ _
        refine NoPanic.normal ?_
        have HWN : Hid (Only (fun q => q = mb) w w3) := Lib.hid ((HWC.out.then hot2.out (fun q hq f => f.elim)).trans HO3.out)
        clear hHeld hot2 HO3 HST HF7 HOC HWC HBR HBR2 HR2 HOB HWB HLT HMA HJ HQ
        go_wp2_with fail
        go_roundw
        case rel => exact ⟨k + 1, by omega, by go_num, HMN, HWN⟩
        case measure => (simp [intOf]; omega)

      · try simp only [List.getElem_toArray, List.getElem_cons_zero, List.getElem_cons_succ]
        go_simp
        refine hK.out _ _ (fun _ => HF.out _ (hot.out.alloc _)) (fun hHeld4 => ?_)
        replace hHeld4 := hHeld4 rfl
        clear hK K
        have hotz := hot
        replace hot := Lib.hid (hot.out.alloc (.cells #[.int .i64 0, .int .i64 0, .int .i64 0, .int .i64 0, .int .i64 0, .int .i64 0, .int .i64 0, .int .i64 0, .int .i64 0, .int .i64 0, .int .i64 0, .int .i64 0, .int .i64 0, .int .i64 0, .int .i64 0, .int .i64 0, .int .i64 0, .int .i64 0, .int .i64 0, .int .i64 0, .int .i64 0, .int .i64 0, .int .i64 0, .int .i64 0, .int .i64 0, .int .i64 0, .int .i64 0, .int .i64 0, .int .i64 0, .int .i64 0, .int .i64 0, .int .i64 0] 101))
        try simp only [List.getElem_toArray, List.getElem_cons_zero, List.getElem_cons_succ, Act.put, List.setIfInBounds_toArray, List.set_cons_zero, List.set_cons_succ]
        refine late.ready (rs := [6]) (by kernel_rfl) (by simp) ?_
        refine late.Each.cons rfl (fun K hK => ?_) late.Each.nil
        have hlk := HLK.out _ hot.out
        try simp only [List.getElem_toArray, List.getElem_cons_zero, List.getElem_cons_succ]
        go_simp
        refine hK.out _ _ (fun _ => HF.out _ hot.out) (fun hHeld5 => ?_)
        replace hHeld5 := hHeld5 rfl
        clear hK K
        clear hlk
        try simp only [List.getElem_toArray, List.getElem_cons_zero, List.getElem_cons_succ, Act.put, List.setIfInBounds_toArray, List.set_cons_zero, List.set_cons_succ]
        refine late.ready (rs := [8]) (by kernel_rfl) (by simp) ?_
        refine late.Each.cons rfl (fun K hK => ?_) late.Each.nil
        have hst := store_rowc HRW.out
        try simp only [List.getElem_toArray, List.getElem_cons_zero, List.getElem_cons_succ]
        go_simp
        refine hK.out _ _ (fun h => by cases h) (fun _ => ?_)
        clear hK K
        clear hst
        try simp only [List.getElem_toArray, List.getElem_cons_zero, List.getElem_cons_succ, Act.put, List.setIfInBounds_toArray, List.set_cons_zero, List.set_cons_succ]
        refine late.done (by kernel_rfl) ?_ _
        refine NoPanic.normal ?_
        obtain ⟨wb, hwb⟩ : ∃ x, x = z0.alloc (.cells (iv row).toArray 101) := ⟨_, rfl⟩
        obtain ⟨q6, hq6⟩ : ∃ x, x = z0.heap.size := ⟨_, rfl⟩
        have HOB : Hid (Only (fun _ => False) wa wb) := Lib.hid (by rw [hwb]; exact hotz.out.alloc _)
        have HBR : Hid (BoxR wb q6 row) := Lib.hid (by rw [hwb, hq6]; exact BoxR.new HRW.out z0 _)
        have HLT : Hid (wa.heap.size ≤ q6) := Lib.hid (by rw [hq6]; exact hotz.out.size)
        have HWB : Hid (Only (fun q => q = mb) w wb) := Lib.hid (HOA.out.then HOB.out (fun q hq f => f.elim))
        simp only [← hwb, ← hq6]
        clear hwb hq6 hotz hot hHeld HLK HF hlen
        obtain ⟨x0, hx0⟩ : ∃ x, x = row.getD op 0 := ⟨_, rfl⟩
        obtain ⟨y0, hy0⟩ : ∃ x, x = wrap64 (x0 + xa) := ⟨_, rfl⟩
        have HWY : Hid (IntKind.i64.wrap (x0 + xa) = y0) := Lib.hid (by rw [hy0, IntKind.wrap_i64]; simp only [wrap64])
        have HRA : Hid (row.set op y0 = rowAdd row op xa) := Lib.hid (by rw [hy0, hx0]; rfl)
        have HF6 : Hid (∀ w', Only (fun _ => False) wb w' → w'.cell? ⟨p, 1, none⟩ = some (.int .i64 (op : Int)) ∧ w'.cell? ⟨q6, op, none⟩ = some (.int .i64 x0) ∧ w'.cell? ⟨q5, 3, none⟩ = some (.int .i64 xa)) := Lib.hid (fun w' ho => ⟨(HJ.out w' (HOB.out.trans ho)).c1, by rw [hx0]; exact (HBR.out.only ho (fun f => f)).1 op hop, (HQ.out w' (HOB.out.trans ho)).2.2.2⟩)
        have hop0 : (0 : Int) ≤ (op : Int) := by omega
        have hop1 : (op : Int) < 32 := by omega
        clear hx0 hy0
        go_upto_region 6 with fail
        refine wp_region_noPanic ?_
        refine late.region (fun w' => w'.cell? ⟨p, 1, none⟩ = some (.int .i64 (op : Int)) ∧ w'.cell? ⟨q6, op, none⟩ = some (.int .i64 x0) ∧ w'.cell? ⟨q5, 3, none⟩ = some (.int .i64 xa)) (fun j => [10].contains j) (by kernel_rfl) (HF6.out _ (Only.refl _ _).drew) (fun hHeld => ?_)
        obtain ⟨z1, hz1⟩ : ∃ x, x = wb.drew := ⟨_, rfl⟩
        rw [← hz1] at hHeld ⊢
        have hot1 : Hid (Only (fun _ => False) wb z1) := Lib.hid (by rw [hz1]; exact (Only.refl _ _).drew)
        clear hz1
        refine sho.lt 0 [1, 2, 3, 4, 5, 8, 9, 10] ?_
        refine sho.lt 1 [2, 3, 4, 5, 8, 9, 10] ?_
        refine sho.lt 2 [3, 4, 5, 8, 9, 10] ?_
        refine sho.lt 3 [4, 5, 8, 9, 10] ?_
        refine sho.lt 4 [5, 8, 9, 10] ?_
        refine sho.lt 5 [8, 9, 10] ?_
        refine sho.lt 6 [7, 8, 9, 10] ?_
        refine sho.lt 7 [8, 9, 10] ?_
        refine sho.lt 8 [9, 10] ?_
        refine sho.lt 9 [10] ?_
        refine late.ready (rs := [10]) (by kernel_rfl) (by simp) ?_
        refine late.Each.cons rfl (fun K hK => ?_) late.Each.nil
        have hfz := (HBR.out.only hot1.out (fun f => f)).2 op hop
        have hce := (HF6.out _ hot1.out).2.1
        have hwy := HWY.out
        try simp only [List.getElem_toArray, List.getElem_cons_zero, List.getElem_cons_succ]
        go_simp
        refine hK.out _ _ (fun h => by cases h) (fun _ => ?_)
        clear hK K
        clear hfz hce hwy
        try simp only [List.getElem_toArray, List.getElem_cons_zero, List.getElem_cons_succ, Act.put, List.setIfInBounds_toArray, List.set_cons_zero, List.set_cons_succ]
        refine late.done (by kernel_rfl) ?_ _
        refine NoPanic.normal ?_
        obtain ⟨wc, hwc⟩ : ∃ x, x = z1.setCell ⟨q6, op, none⟩ (.int .i64 y0) := ⟨_, rfl⟩
        have HR2 : Hid (Row (rowAdd row op xa)) := Lib.hid (rowAdd_row HRW.out op xa)
        have HBR2 : Hid (BoxR wc q6 (rowAdd row op xa)) := Lib.hid (by rw [hwc, ← HRA.out]; exact (HBR.out.only hot1.out (fun f => f)).set HRW.out.1 op hop y0)
        have HOC : Hid (Only (fun q => q = q6) wb wc) := Lib.hid (by rw [hwc]; exact (hot1.out.mono (fun q _ f => f.elim)).trans (Only.set (fun q => q = q6) z1 q6 op _ rfl))
        have HWC : Hid (Only (fun q => q = mb) w wc) := Lib.hid (HWB.out.then HOC.out (fun q hq e => by have := HLT.out; have := HOA.out.size; omega))
        simp only [← hwc]
        clear hwc hot1 hHeld HF6 HWY HRA
        have HF7 : Hid (∀ w', Only (fun _ => False) wc w' → w'.cell? ⟨p, 2, none⟩ = some (.map (some mb)) ∧ w'.cell? ⟨q5, 0, none⟩ = some (.int .i64 xk) ∧ w'.cell? ⟨q5, 1, none⟩ = some (.int .i64 xn) ∧ w'.cell? ⟨q5, 2, none⟩ = some (.int .i64 xg)) := Lib.hid (fun w' ho => by
          obtain ⟨t0, t1, t2, t3⟩ := HQ.out wb HOB.out
          have hlt : q5 < wb.heap.size := World.block_lt_of_cell? wb _ t0
          have hq : q5 < wa.heap.size := World.block_lt_of_cell? wa _ (HQ.out wa (Only.refl _ _)).1
          have hne : ¬ q5 = q6 := by have := HLT.out; omega
          exact ⟨(HC.out w' (HWC.out.then ho (fun q hq f => f.elim))).c2, ho.cell' (HOC.out.cell' t0 hne) (fun f => f), ho.cell' (HOC.out.cell' t1 hne) (fun f => f), ho.cell' (HOC.out.cell' t2 hne) (fun f => f)⟩)
        have HST : Hid (∀ w', Only (fun _ => False) wc w' → ∃ w3, (Instr.mapUpdate 98 (.map (some mb)) (.agg #[.int .i64 xk, .int .i64 xn, .int .i64 xg]) (.agg (iv (rowAdd row op xa)).toArray)).run Tryz.prog w' = .ok () w3 ∧ MapA w3 mb (nn + k + 1) (addC C op (ls.take (k + 1))) ∧ Only (fun q => q = mb) w' w3) := Lib.hid (fun w' ho => by
          have hlm : mb < wa.heap.size := (HMA.out wa (Only.refl _ _)).lt
          have hne : ¬ mb = q6 := by have := HLT.out; omega
          have hm2 := (((HMA.out wb HOB.out).only HOC.out hne).only ho (fun f => f))
          obtain ⟨w3, g1, g2, g3⟩ := hm2.store HIA.out (by omega) HR2.out
          refine ⟨w3, ?_, ?_, g3⟩
          · unfold acc accm.accV sec at g1
            exact g1
          · have e := HAT.out
            unfold lgA at e
            dsimp only at e
            rw [e, ← HRE.out]
            exact g2)
        go_upto_region 7 with fail
        refine wp_region_noPanic ?_
        refine late.region (fun w' => w'.cell? ⟨p, 2, none⟩ = some (.map (some mb)) ∧ w'.cell? ⟨q5, 0, none⟩ = some (.int .i64 xk) ∧ w'.cell? ⟨q5, 1, none⟩ = some (.int .i64 xn) ∧ w'.cell? ⟨q5, 2, none⟩ = some (.int .i64 xg)) (fun j => [7].contains j) (by kernel_rfl) (HF7.out _ (Only.refl _ _).drew) (fun hHeld => ?_)
        obtain ⟨z2, hz2⟩ : ∃ x, x = wc.drew := ⟨_, rfl⟩
        rw [← hz2] at hHeld ⊢
        have hot2 : Hid (Only (fun _ => False) wc z2) := Lib.hid (by rw [hz2]; exact (Only.refl _ _).drew)
        clear hz2
        refine sho.lt 0 [1, 2, 3, 7] ?_
        refine sho.lt 1 [2, 3, 7] ?_
        refine sho.lt 2 [3, 7] ?_
        refine sho.lt 3 [7] ?_
        refine sho.lt 4 [5, 7] ?_
        refine sho.lt 5 [7] ?_
        refine late.ready (rs := [6]) (by kernel_rfl) (by simp) ?_
        refine late.Each.cons rfl (fun K hK => ?_) late.Each.nil
        split
        rotate_left
        · rename_i hh
          exact absurd (by rfl) hh
        refine wp_load_mid 101 (Operand.tmp 6) rfl q6 0 rfl (iv (rowAdd row op xa)) _ ((HBR2.out.only hot2.out (fun f => f)).range HR2.out.1) Tryz.underlying101 rfl (by rw [size_row, iv_length, HR2.out.1]) ?_
        refine hK.out _ _ (fun _ => HF7.out _ hot2.out) (fun hHeld1 => ?_)
        replace hHeld1 := hHeld1 rfl
        clear hK K
        try simp only [List.getElem_toArray, List.getElem_cons_zero, List.getElem_cons_succ, Act.put, List.setIfInBounds_toArray, List.set_cons_zero, List.set_cons_succ]
        refine late.ready (rs := [7]) (by kernel_rfl) (by simp) ?_
        refine late.Each.cons rfl (fun K hK => ?_) late.Each.nil
        obtain ⟨w3, hmu, hma, ho⟩ := HST.out z2 hot2.out
        have HMN := Lib.hid hma
        clear hma
        try simp only [List.getElem_toArray, List.getElem_cons_zero, List.getElem_cons_succ]
        go_simp
        refine hK.out _ _ (fun h => by cases h) (fun _ => ?_)
        clear hK K
        clear hmu
        have HO3 := Lib.hid ho
        clear ho
        try simp only [List.getElem_toArray, List.getElem_cons_zero, List.getElem_cons_succ, Act.put, List.setIfInBounds_toArray, List.set_cons_zero, List.set_cons_succ]
        refine late.done (by kernel_rfl) ?_ _
        refine NoPanic.normal ?_
        have HWN : Hid (Only (fun q => q = mb) w w3) := Lib.hid ((HWC.out.then hot2.out (fun q hq f => f.elim)).trans HO3.out)
        clear hHeld hot2 HO3 HST HF7 HOC HWC HBR HBR2 HR2 HOB HWB HLT HMA HJ HQ
        go_wp2_with fail
        go_roundw
        case rel => exact ⟨k + 1, by omega, by go_num, HMN, HWN⟩
        case measure => (simp [intOf]; omega)
    · have hge : ¬ (k : Int) < (n : Int) := by omega
      obtain rfl : n = k := by omega
      go_wp2_with fail
      have HMX := Lib.hid (show MapA wr mb (nn + n) (addC C op ls) by have := HMP.out; rwa [List.take_of_length_le (by rw [← HLN.out]; omega)] at this)
      exact bodyPost_end (v := .tuple #[]) (by simp [results, Tryz.results72, go_sem]) rfl ⟨rfl, mb, HC.out wr HW.out, by have := HMX.out; rw [HN0.out, HCC.out, Nat.zero_add] at this; exact this, HW0.out.then HW.out (fun q hq e => by have := HMB.out; omega), HMB.out⟩
end Go.Proofs.YtkbaafgaaiekpaaGreat.jnw
namespace Go.Proofs.YtkbaafgaaiekpaaGreat.jnw
open Go.RowKit mem accm accn entw entm
set_option linter.unusedVariables false

set_option maxRecDepth 100000 in
set_option maxHeartbeats 2000000 in
theorem post_no (p : Nat) (kind : Int) (a : Option Addr) (n cap : Nat) (ls : List Lg) (w : World) (hr : ReadsL w a n ls) (hc : chk kind ls ≠ 0) :
    Calls Tryz.prog 31 #[.pointer (some ⟨p, 0, none⟩), .agg #[.int .i64 kind, .slice a n cap]] w fun e w' => e = .returned (.tuple #[.int .i64 0, .int .i64 (chk kind ls)]) ∧ Only (fun _ => False) w w' := by
  obtain ⟨w1, hw1⟩ : ∃ x, x = w.alloc (.cells #[.int .i64 kind, .slice a n cap] 67) := ⟨_, rfl⟩
  obtain ⟨q, hq⟩ : ∃ x, x = w.heap.size := ⟨_, rfl⟩
  have ho1 : Only (fun _ => False) w w1 := by rw [hw1]; exact (Only.refl _ w).alloc _
  have c0 : w1.cell? ⟨q, 0, none⟩ = some (.int .i64 kind) := by rw [hw1]; exact alloc_new _ _ _ _ _ _ hq rfl
  have c1 : w1.cell? ⟨q, 1, none⟩ = some (.slice a n cap) := by rw [hw1]; exact alloc_new _ _ _ _ _ _ hq rfl
  have HO1 := Lib.hid ho1
  have HCK := Lib.hid (check_any kind a n cap ls w1 (hr.only ho1 (fun _ _ f => f)))
  have hcz : (chk kind ls != 0) = true := by simpa using hc
  generalize chk kind ls = e at *
  clear hr hc ho1
  go_enter Tryz.func31, Tryz.ntmps31
  go_upto_region 3 with fail
  simp only [← hw1, ← hq]
  clear hw1 hq
  go_wp2_with fail
  refine HCK.out.mono ?_
  rintro _ w2 ⟨rfl, ho⟩
  have HO2 := Lib.hid (HO1.out.trans ho)
  clear ho HCK c0 c1
  go_wp2_with fail
  go_ret2
  exact ⟨rfl, HO2.out⟩
end Go.Proofs.YtkbaafgaaiekpaaGreat.jnw
namespace Go.Proofs.YtkbaafgaaiekpaaGreat.jnw
open Go.RowKit mem accm accn entw entm
set_option linter.unusedVariables false

def overL (C : Ac → Option (List Int)) (l : Lg) : Prop := 1152921504606846976 < wrap64 (wrap64 (((C (lgA l)).getD noughts).sum) + l.a) ∨ wrap64 (wrap64 (((C (lgA l)).getD noughts).sum) + l.a) < -1152921504606846976
theorem below_succ {P : Nat → Prop} {k : Nat} (h : ∀ j, j < k → P j) (hk : P k) : ∀ j, j < k + 1 → P j := by
  intro j hj
  by_cases e : j = k
  · rw [e]; exact hk
  · exact h j (by omega)
set_option maxRecDepth 100000 in
set_option maxHeartbeats 4000000 in
theorem post_over (p op : Nat) (a0 : Option Addr) (n0 c0 : Nat) (m : Option Nat) (nn : Nat) (C : Ac → Option (List Int)) (kind : Int) (a : Option Addr) (n cap : Nat) (ls : List Lg) (w : World) (h : JnC w p (.slice a0 n0 c0) op m) (hm : MapN w m nn C) (hr : ReadsL w a n ls) (hc : chk kind ls = 0) (hn0 : n0 < 16384)
    (hex : ∃ j, j < n ∧ overL C (ls.getD j default)) :
    Calls Tryz.prog 31 #[.pointer (some ⟨p, 0, none⟩), .agg #[.int .i64 kind, .slice a n cap]] w fun e w' => e = .returned (.tuple #[.int .i64 0, .int .i64 6]) ∧ Only (fun _ => False) w w' := by
  obtain ⟨w1, hw1⟩ : ∃ x, x = w.alloc (.cells #[.int .i64 kind, .slice a n cap] 67) := ⟨_, rfl⟩
  obtain ⟨q, hq⟩ : ∃ x, x = w.heap.size := ⟨_, rfl⟩
  have ho1 : Only (fun _ => False) w w1 := by rw [hw1]; exact (Only.refl _ w).alloc _
  have c0 : w1.cell? ⟨q, 0, none⟩ = some (.int .i64 kind) := by rw [hw1]; exact alloc_new _ _ _ _ _ _ hq rfl
  have c1 : w1.cell? ⟨q, 1, none⟩ = some (.slice a n cap) := by rw [hw1]; exact alloc_new _ _ _ _ _ _ hq rfl
  have HO1 := Lib.hid ho1
  have hck := check_any kind a n cap ls w1 (hr.only ho1 (fun _ _ f => f))
  rw [hc] at hck
  have HCK := Lib.hid hck
  have HEX := Lib.hid hex
  have hn64 : n ≤ 64 := by have := ((chk_ok kind ls).1 hc).2.1; have := hr.1; omega
  have HLN : Hid (n = ls.length) := Lib.hid hr.1.symm
  have HJ0 := Lib.hid h
  have HM0 := Lib.hid hm
  have HR0 := Lib.hid hr
  clear hr hc ho1 hck hex h hm
  go_enter Tryz.func31, Tryz.ntmps31
  go_upto_region 3 with fail
  simp only [← hw1, ← hq]
  clear hw1 hq
  go_wp2_with fail
  refine HCK.out.mono ?_
  rintro _ w2 ⟨rfl, ho⟩
  have HO2 := Lib.hid (HO1.out.trans ho)
  have d0 := ho.cell' c0 (fun f => f)
  have d1 := ho.cell' c1 (fun f => f)
  have e0 := (HJ0.out.only HO2.out (fun f => f)).c0
  have hnb : ¬ (16384 : Int) ≤ (n0 : Int) := by omega
  clear ho HCK c0 c1
  go_wp2_with fail
  obtain ⟨v, hv⟩ : ∃ v, v = Value.slice a0 n0 c0 := ⟨_, rfl⟩
  have HJ : Hid (∀ w', Only (fun _ => False) w2 w' → JnC w' p v op m) := Lib.hid (fun w' ho => by rw [hv]; exact HJ0.out.only (HO2.out.trans ho) (fun f => f))
  have HM : Hid (∀ w', Only (fun _ => False) w2 w' → MapN w' m nn C) := Lib.hid (fun w' ho => HM0.out.only (HO2.out.trans ho) (fun _ _ f => f))
  have HRL : Hid (∀ w', Only (fun _ => False) w2 w' → ReadsL w' a n ls) := Lib.hid (fun w' ho => HR0.out.only (HO2.out.trans ho) (fun _ _ f => f))
  clear d0 d1 e0 hv hn0 hnb HJ0 HM0 HR0 HO1
  go_loopw [26] (fun i wr => ∃ k : Nat, k ≤ n ∧ i = .int .i64 k ∧ (∀ j, j < k → ¬ overL C (ls.getD j default)) ∧ Hid (Only (fun _ => False) w2 wr)) (fun i _ => n - (intOf i).toNat)
  case atStart => exact ⟨0, by omega, rfl, fun j hj => absurd hj (by omega), Lib.hid (Only.refl _ _)⟩
  case round =>
    obtain ⟨k, hk, rfl, hno, HW⟩ := hrel
    have HNO := Lib.hid hno
    clear hno
    rename World => wr
    by_cases h8 : k < n
    · obtain ⟨b, off, rfl, hc⟩ := (HRL.out wr HW.out).2.2.2.resolve_left (by omega)
      obtain ⟨c0, c1, c2, c3⟩ := hc k h8
      have hin := (HRL.out wr HW.out).2.2.1 _ (getL_mem ls k (by rw [← HLN.out]; exact h8))
      obtain ⟨⟨xk, xn, xg, xa⟩, hle⟩ : ∃ x, ls.getD k default = x := ⟨_, rfl⟩
      have HLE := Lib.hid hle
      rw [hle] at c0 c1 c2 c3 hin
      dsimp only at c0 c1 c2 c3
      have HIA : Hid (InA ⟨xk, xn, xg⟩) := Lib.hid (lgA_in hin)
      have hk0 : (0 : Int) ≤ (k : Int) := by omega
      have hkm : (k : Int) < (n : Int) := by omega
      clear hc hle hin
      obtain ⟨wa, hwa⟩ : ∃ x, x = wr.alloc (.cells #[.int .i64 xk, .int .i64 xn, .int .i64 xg, .int .i64 xa] 96) := ⟨_, rfl⟩
      obtain ⟨q5, hq5⟩ : ∃ x, x = wr.heap.size := ⟨_, rfl⟩
      have HOA : Hid (Only (fun _ => False) w2 wa) := Lib.hid (by rw [hwa]; exact HW.out.alloc _)
      have HQ : Hid (∀ w', Only (fun _ => False) wa w' → w'.cell? ⟨q5, 0, none⟩ = some (.int .i64 xk) ∧ w'.cell? ⟨q5, 1, none⟩ = some (.int .i64 xn) ∧ w'.cell? ⟨q5, 2, none⟩ = some (.int .i64 xg) ∧ w'.cell? ⟨q5, 3, none⟩ = some (.int .i64 xa)) := Lib.hid (fun w' ho =>
        ⟨ho.cell' (by rw [hwa]; exact alloc_new _ _ _ _ _ _ hq5 rfl) (fun f => f), ho.cell' (by rw [hwa]; exact alloc_new _ _ _ _ _ _ hq5 rfl) (fun f => f), ho.cell' (by rw [hwa]; exact alloc_new _ _ _ _ _ _ hq5 rfl) (fun f => f), ho.cell' (by rw [hwa]; exact alloc_new _ _ _ _ _ _ hq5 rfl) (fun f => f)⟩)
      have HBL : Hid (∀ w', Only (fun _ => False) wa w' → _) := Lib.hid (fun w' (ho : Only (fun _ => False) wa w') => bal_any p op v m nn C xk xn xg HIA.out w' (HJ.out w' (HOA.out.trans ho)) (HM.out w' (HOA.out.trans ho)))
      obtain ⟨y, hy⟩ : ∃ x, x = wrap64 (((C ⟨xk, xn, xg⟩).getD noughts).sum) := ⟨_, rfl⟩
      rw [← hy] at HBL
      obtain ⟨z, hz⟩ : ∃ x, x = wrap64 (y + xa) := ⟨_, rfl⟩
      have HZ : Hid (IntKind.i64.wrap (y + xa) = z) := Lib.hid (by rw [hz, IntKind.wrap_i64]; simp only [wrap64])
      have HOV : Hid (overL C (ls.getD k default) ↔ 1152921504606846976 < z ∨ z < -1152921504606846976) := Lib.hid (by rw [HLE.out, hz, hy]; exact Iff.rfl)
      clear hy hz
      go_upto_region 11 with fail
      simp only [← hwa, ← hq5]
      clear hwa hq5 c0 c1 c2 c3
      refine wp_region_noPanic ?_
      refine late.region (fun w' => w'.cell? ⟨q5, 0, none⟩ = some (.int .i64 xk) ∧ w'.cell? ⟨q5, 1, none⟩ = some (.int .i64 xn) ∧ w'.cell? ⟨q5, 2, none⟩ = some (.int .i64 xg) ∧ w'.cell? ⟨q5, 3, none⟩ = some (.int .i64 xa)) (fun j => [].contains j) (by kernel_rfl) (HQ.out _ (Only.refl _ _).drew) (fun hHeld => ?_)
      obtain ⟨z0, hz0⟩ : ∃ x, x = wa.drew := ⟨_, rfl⟩
      rw [← hz0] at hHeld ⊢
      have hot : Hid (Only (fun _ => False) wa z0) := Lib.hid (by rw [hz0]; exact (Only.refl _ _).drew)
      clear hz0
      refine sho.lt 0 [3, 6, 7] ?_
      refine sho.lt 1 [2, 3, 6, 7] ?_
      refine sho.lt 2 [3, 6, 7] ?_
      refine sho.lt 4 [5, 6, 7] ?_
      refine sho.lt 5 [6, 7] ?_
      refine late.ready (rs := [3]) (by kernel_rfl) (by simp) ?_
      refine late.Each.cons rfl (fun K hK => ?_) late.Each.nil
      try simp only [List.getElem_toArray, List.getElem_cons_zero, List.getElem_cons_succ]
      go_simp
      go_at_call 24
      with_reducible refine (HBL.out _ hot.out).mono ?_
      rintro _ W1 ⟨rfl, ho⟩
      replace hot := Lib.hid (hot.out.trans ho)
      clear ho
      try dsimp only
      refine hK.out _ _ (fun _ => HQ.out _ hot.out) (fun hHeld1 => ?_)
      replace hHeld1 := hHeld1 rfl
      clear hK K
      try simp only [List.getElem_toArray, List.getElem_cons_zero, List.getElem_cons_succ, Act.put, List.setIfInBounds_toArray, List.set_cons_zero, List.set_cons_succ]
      refine sho.lt 6 [7] ?_
      refine sho.lt 7 [] ?_
      refine late.done (by kernel_rfl) ?_ _
      refine NoPanic.normal ?_
      have HO9 := Lib.hid (HOA.out.trans hot.out)
      have hwz := HZ.out
      clear hHeld hot HBL HQ HOA
      by_cases g1 : 1152921504606846976 < z
      · go_wp2_with fail
        go_ret2
        exact ⟨rfl, HO2.out.trans HO9.out⟩
      · by_cases g2 : z < -1152921504606846976
        · go_wp2_with fail
          go_ret2
          exact ⟨rfl, HO2.out.trans HO9.out⟩
        · have HNV : Hid (¬ overL C (ls.getD k default)) := Lib.hid (fun h => by rcases HOV.out.1 h with h | h; exact g1 h; exact g2 h)
          go_wp2_with fail
          go_roundw
          case rel => exact ⟨k + 1, by omega, by go_num, below_succ HNO.out HNV.out, HO9⟩
          case measure => (simp [intOf]; omega)
    · have hge : ¬ (k : Int) < (n : Int) := by omega
      obtain rfl : n = k := by omega
      obtain ⟨j, hj, hov⟩ := HEX.out
      exact absurd hov (HNO.out j hj)
end Go.Proofs.YtkbaafgaaiekpaaGreat.jnw
namespace Go.Proofs.YtkbaafgaaiekpaaGreat.jnw
open Go.RowKit mem accm accn entw entm
set_option linter.unusedVariables false

theorem box_lt {w : World} {q g s : Nat} {v : Value} (h : w.cell? ⟨q, 0, none⟩ = some v) (h1 : w.heap.size ≤ s) (h2 : s ≤ g) : q < g := by
  have : q < w.heap.size := World.block_lt_of_cell? w _ h
  omega
theorem run_buildP (k : Int) (a : Option Addr) (n c : Nat) (w : World) : (Instr.build 67 #[(0, .int .i64 k), (1, .slice a n c)]).run Tryz.prog w = .ok (.agg #[.int .i64 k, .slice a n c]) w := by kernel_rfl
set_option maxRecDepth 100000 in
set_option maxHeartbeats 2000000 in
theorem copied_any (kind : Int) (b off n cap : Nat) (ls : List Lg) (w : World) (h : ReadsL w (some ⟨b, off, none⟩) n ls) (h1 : 1 ≤ n) (hm : n ≤ 1000) :
    Calls Tryz.prog 63 #[.agg #[.int .i64 kind, .slice (some ⟨b, off, none⟩) n cap]] w fun e w' => ∃ g cp, e = .returned (.agg #[.int .i64 kind, .slice (some ⟨g, 0, none⟩) n cp]) ∧ ReadsL w' (some ⟨g, 0, none⟩) n ls ∧ w.heap.size ≤ g ∧ Only (fun _ => False) w w' := by
  obtain ⟨w1, hw1⟩ : ∃ x, x = w.alloc (.cells #[.int .i64 kind, .slice (some ⟨b, off, none⟩) n cap] 67) := ⟨_, rfl⟩
  obtain ⟨w2, hw2⟩ : ∃ x, x = w1.alloc (.cells #[.int .i64 0, .slice none 0 0] 67) := ⟨_, rfl⟩
  obtain ⟨q1, hq1⟩ : ∃ x, x = w.heap.size := ⟨_, rfl⟩
  obtain ⟨q2, hq3⟩ : ∃ x, x = q1 + 1 := ⟨_, rfl⟩
  have hq2 : q2 = w1.heap.size := by rw [hq3, hw1, hq1]; simp
  have ha : Only (fun _ => False) w w1 := by rw [hw1]; exact (Only.refl _ _).alloc _
  have hb : Only (fun _ => False) w1 w2 := by rw [hw2]; exact (Only.refl _ _).alloc _
  have HO2 : Hid (Only (fun _ => False) w w2) := Lib.hid (ha.trans hb)
  have HQW : Hid (w.heap.size ≤ q2) := Lib.hid (by rw [hq2]; exact ha.size)
  have HS : Hid (∀ w', Only (fun _ => False) w2 w' → w'.cell? ⟨q1, 0, none⟩ = some (.int .i64 kind) ∧ w'.cell? ⟨q1, 1, none⟩ = some (.slice (some ⟨b, off, none⟩) n cap)) := Lib.hid (fun w' ho => ⟨(hb.trans ho).cell' (by rw [hw1]; exact alloc_new _ _ _ _ _ _ hq1 rfl) (fun f => f), (hb.trans ho).cell' (by rw [hw1]; exact alloc_new _ _ _ _ _ _ hq1 rfl) (fun f => f)⟩)
  have hn0 : w2.cell? ⟨q2, 0, none⟩ = some (.int .i64 0) := by rw [hw2]; exact alloc_new _ _ _ _ _ _ hq2 rfl
  have hn1 : w2.cell? ⟨q2, 1, none⟩ = some (.slice none 0 0) := by rw [hw2]; exact alloc_new _ _ _ _ _ _ hq2 rfl
  have hf0 : w2.frozen? ⟨q2, 0, none⟩ = false := by rw [hw2]; exact alloc_froz _ _ _ _ _ hq2
  have hf1 : w2.frozen? ⟨q2, 1, none⟩ = false := by rw [hw2]; exact alloc_froz _ _ _ _ _ hq2
  have hlt : q2 < w2.heap.size := World.block_lt_of_cell? w2 _ hn0
  have HQ : Hid (∀ w', Only (fun _ => False) w2 w' → w'.cell? ⟨q2, 0, none⟩ = some (.int .i64 0) ∧ w'.cell? ⟨q2, 1, none⟩ = some (.slice none 0 0) ∧ w'.frozen? ⟨q2, 0, none⟩ = false ∧ w'.frozen? ⟨q2, 1, none⟩ = false) := Lib.hid (fun w' ho =>
    ⟨ho.cell' hn0 (fun f => f), ho.cell' hn1 (fun f => f), (ho.frozen (p := ⟨q2, 0, none⟩) hlt (fun f => f)).trans hf0, (ho.frozen (p := ⟨q2, 1, none⟩) hlt (fun f => f)).trans hf1⟩)
  have HCL : Hid (∀ w', Only (fun _ => False) w2 w' → _) := Lib.hid (fun w' (ho : Only (fun _ => False) w2 w') => clone_legs b off n cap ls w' (h.only (HO2.out.trans ho) (fun _ _ f => f)) hm h1)
  have HLN : Hid (n = ls.length) := Lib.hid h.1.symm
  have HIN : Hid (∀ l ∈ ls, InL l) := Lib.hid h.2.2.1
  have hbp := run_buildP
  clear h ha hb hn0 hn1 hf0 hf1 hlt
  go_enter Tryz.func63, Tryz.ntmps63
  go_upto_region 1 with fail
  simp only [← hw1, ← hq1]
  simp only [← hw2, ← hq3]
  clear hw1 hw2 hq1 hq2 hq3
  refine wp_region_noPanic ?_
  refine late.region (fun w' => w'.cell? ⟨q1, 0, none⟩ = some (.int .i64 kind) ∧ w'.cell? ⟨q1, 1, none⟩ = some (.slice (some ⟨b, off, none⟩) n cap)) (fun j => [6].contains j) (by kernel_rfl) (HS.out _ (Only.refl _ _).drew) (fun hHeld => ?_)
  obtain ⟨z0, hz0⟩ : ∃ x, x = w2.drew := ⟨_, rfl⟩
  rw [← hz0] at hHeld ⊢
  have hot : Hid (Only (fun _ => False) w2 z0) := Lib.hid (by rw [hz0]; exact (Only.refl _ _).drew)
  clear hz0
  refine sho.lt 0 [1, 5, 6] ?_
  refine sho.lt 1 [5, 6] ?_
  refine sho.lt 2 [3, 4, 5, 6] ?_
  refine sho.lt 3 [4, 5, 6] ?_
  refine late.ready (rs := [4]) (by kernel_rfl) (by simp) ?_
  refine late.Each.cons rfl (fun K hK => ?_) late.Each.nil
  try simp only [List.getElem_toArray, List.getElem_cons_zero, List.getElem_cons_succ]
  go_simp
  go_at_call 91
  with_reducible refine (HCL.out _ hot.out).mono ?_
  rintro _ W1 ⟨g, cp, rfl, hown, hg, ho⟩
  have HOW := Lib.hid hown
  have HGQ := Lib.hid (box_lt (HQ.out w2 (Only.refl _ _)).1 hot.out.size hg)
  have HGS : Hid (w.heap.size ≤ g) := Lib.hid (by have := HO2.out.size; have := hot.out.size; omega)
  replace hot := Lib.hid (hot.out.trans ho)
  clear ho hown hg
  try dsimp only
  refine hK.out _ _ (fun _ => HS.out _ hot.out) (fun hHeld1 => ?_)
  replace hHeld1 := hHeld1 rfl
  clear hK K
  try simp only [List.getElem_toArray, List.getElem_cons_zero, List.getElem_cons_succ, Act.put, List.setIfInBounds_toArray, List.set_cons_zero, List.set_cons_succ]
  refine sho.lt 5 [6] ?_
  refine late.ready (rs := [6]) (by kernel_rfl) (by simp) ?_
  refine late.Each.cons rfl (fun K hK => ?_) late.Each.nil
  obtain ⟨e0, e1, f0, f1⟩ := HQ.out _ hot.out
  have HE := Lib.hid (set_two (x := .int .i64 kind) (y := .slice (some ⟨g, 0, none⟩) n cp) e0 e1)
  try simp only [List.getElem_toArray, List.getElem_cons_zero, List.getElem_cons_succ]
  go_simp
  refine hK.out _ _ (fun h => by cases h) (fun _ => ?_)
  clear hK K
  try simp only [List.getElem_toArray, List.getElem_cons_zero, List.getElem_cons_succ, Act.put, List.setIfInBounds_toArray, List.set_cons_zero, List.set_cons_succ]
  refine late.done (by kernel_rfl) ?_ _
  refine NoPanic.normal ?_
  have HS2 : Hid (Only (fun q => q = q2) W1 ((W1.setCell ⟨q2, 0, none⟩ (.int .i64 kind)).setCell ⟨q2, 1, none⟩ (.slice (some ⟨g, 0, none⟩) n cp))) := Lib.hid (((Only.refl (fun q => q = q2) W1).setCell (p := ⟨q2, 0, none⟩) (.inl rfl) _).setCell (p := ⟨q2, 1, none⟩) (.inl rfl) _)
  have HR : Hid (ReadsL W1 (some ⟨g, 0, none⟩) n ls) := Lib.hid (HOW.out.reads HLN.out (by have := HLN.out; omega) HIN.out)
  go_wp2_with fail
  refine bodyPost_ret (v := .agg #[.int .i64 kind, .slice (some ⟨g, 0, none⟩) n cp]) (by simp [results, Tryz.results63, go_sem, HE.out.1, HE.out.2]) rfl ?_
  refine ⟨g, ⟨cp, rfl⟩, ?_, HGS.out, (HO2.out.trans hot.out).then HS2.out (fun q hq e => by have := HQW.out; omega)⟩
  refine HR.out.only HS2.out (fun x hx e => ?_)
  injection hx with hx
  subst hx
  have e : g = q2 := e
  have := HGQ.out
  omega
end Go.Proofs.YtkbaafgaaiekpaaGreat.jnw
