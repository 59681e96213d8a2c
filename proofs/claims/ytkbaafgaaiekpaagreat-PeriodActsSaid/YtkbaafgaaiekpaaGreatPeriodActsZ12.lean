/- Several texts together: JnI, JnQ, PuM. -/
import Derived.Test.YtkbaafgaaiekpaaGreatPeriodActsZ1
import Derived.Test.YtkbaafgaaiekpaaGreatPeriodActsZ3
import Derived.Test.YtkbaafgaaiekpaaGreatPeriodActsZ7
import Derived.Test.YtkbaafgaaiekpaaGreatPeriodActsZ8
import Derived.Test.YtkbaafgaaiekpaaGreatPeriodActsZ11
namespace Go.Proofs.YtkbaafgaaiekpaaGreat.jnw
open Go.RowKit mem accm accn entw entm
set_option linter.unusedVariables false

theorem run_buildQ (k : Int) (g n c : Nat) (op : Nat) (w : World) : (Instr.build 103 #[(0, .agg #[.int .i64 k, .slice (some ⟨g, 0, none⟩) n c]), (1, .int .i64 (op : Int))]).run Tryz.prog w = .ok (.agg #[.int .i64 k, .slice (some ⟨g, 0, none⟩) n c, .int .i64 (op : Int)]) w := by kernel_rfl
set_option maxRecDepth 100000 in
set_option maxHeartbeats 4000000 in
theorem post_yes {S : Nat → Prop} (p op : Nat) (v : Value) (m : Option Nat) (nn : Nat) (C : Ac → Option (List Int)) (L : List Ps) (kind : Int) (a : Option Addr) (n cap : Nat) (ls : List Lg) (w : World) (h : JnAt S w p v op m nn C L) (hr : ReadsL w a n ls) (hc : chk kind ls = 0) (hn0 : L.length < 16384)
    (hno : ∀ j, j < n → ¬ overL C (ls.getD j default)) (ha : ∀ x, a = some x → ¬ S x.block) :
    Calls Tryz.prog 31 #[.pointer (some ⟨p, 0, none⟩), .agg #[.int .i64 kind, .slice a n cap]] w fun e w' => e = .returned (.tuple #[.int .i64 (L.length : Int), .int .i64 0]) ∧ ∃ v' m' nn' g cp, JnAt (fun q => S q ∨ w.heap.size ≤ q) w' p v' op m' nn' (addC C op ls) (L ++ [⟨kind, g, n, cp, op, ls⟩]) ∧ Only S w w' := by
  have hn64 : n ≤ 64 := by have := ((chk_ok kind ls).1 hc).2.1; have := hr.1; omega
  have hn2 : 2 ≤ n := by have := ((chk_ok kind ls).1 hc).2.1; have := hr.1; omega
  obtain ⟨b, off, rfl, -⟩ := hr.2.2.2.resolve_left (by omega)
  have hbS : ¬ S b := ha _ rfl
  obtain ⟨a0, c0, rfl, -, -, -, -⟩ := h.own.reads
  obtain ⟨w1, hw1⟩ : ∃ x, x = w.alloc (.cells #[.int .i64 kind, .slice (some ⟨b, off, none⟩) n cap] 67) := ⟨_, rfl⟩
  obtain ⟨q, hq⟩ : ∃ x, x = w.heap.size := ⟨_, rfl⟩
  have ho1 : Only (fun _ => False) w w1 := by rw [hw1]; exact (Only.refl _ w).alloc _
  have k0 : w1.cell? ⟨q, 0, none⟩ = some (.int .i64 kind) := by rw [hw1]; exact alloc_new _ _ _ _ _ _ hq rfl
  have k1 : w1.cell? ⟨q, 1, none⟩ = some (.slice (some ⟨b, off, none⟩) n cap) := by rw [hw1]; exact alloc_new _ _ _ _ _ _ hq rfl
  have HO1 := Lib.hid ho1
  have HQW : Hid (w.heap.size ≤ q) := Lib.hid (by omega)
  have hck := check_any kind (some ⟨b, off, none⟩) n cap ls w1 (hr.only ho1 (fun _ _ f => f))
  rw [hc] at hck
  have HCK := Lib.hid hck
  have HCZ := Lib.hid hc
  have HNV0 := Lib.hid hno
  have HLN : Hid (n = ls.length) := Lib.hid hr.1.symm
  have HAT := Lib.hid h
  have HR0 := Lib.hid hr
  have HNP : Hid ((.slice a0 L.length c0 : Value).ownBlock ≠ some p) := Lib.hid h.np
  have HBP : Hid (b ≠ p) := Lib.hid (fun e => hbS (by rw [e]; exact h.sp))
  have HBL2 : Hid (b < w.heap.size) := Lib.hid (readsL_lt hr (by omega))
  have HPM : Hid (∀ mb, m = some mb → mb ≠ p ∧ b ≠ mb) := Lib.hid (fun mb e => ⟨(h.sm mb e).2.1, fun e2 => hbS (by rw [e2]; exact (h.sm mb e).1)⟩)
  clear hr hc ho1 hck hno h ha hbS
  go_enter Tryz.func31, Tryz.ntmps31
  go_upto_region 3 with fail
  simp only [← hw1, ← hq]
  clear hw1 hq
  go_wp2_with fail
  refine HCK.out.mono ?_
  rintro _ w2 ⟨rfl, ho⟩
  have HO2 := Lib.hid (HO1.out.trans ho)
  have d0 := ho.cell' k0 (fun f => f)
  have d1 := ho.cell' k1 (fun f => f)
  have HQB : Hid (∀ w', Only (fun _ => False) w2 w' → w'.cell? ⟨q, 0, none⟩ = some (.int .i64 kind) ∧ w'.cell? ⟨q, 1, none⟩ = some (.slice (some ⟨b, off, none⟩) n cap)) := Lib.hid (fun w' ho2 => ⟨(ho.trans ho2).cell' k0 (fun f => f), (ho.trans ho2).cell' k1 (fun f => f)⟩)
  have e0 := (HAT.out.jc.only HO2.out (fun f => f)).c0
  have hnb : ¬ (16384 : Int) ≤ (L.length : Int) := by omega
  clear ho HCK k0 k1
  go_wp2_with fail
  have HJ : Hid (∀ w', Only (fun _ => False) w2 w' → JnC w' p (.slice a0 L.length c0) op m) := Lib.hid (fun w' ho => HAT.out.jc.only (HO2.out.trans ho) (fun f => f))
  have HM : Hid (∀ w', Only (fun _ => False) w2 w' → MapN w' m nn C) := Lib.hid (fun w' ho => HAT.out.mp.only (HO2.out.trans ho) (fun _ _ f => f))
  have HRL : Hid (∀ w', Only (fun _ => False) w2 w' → ReadsL w' (some ⟨b, off, none⟩) n ls) := Lib.hid (fun w' ho => HR0.out.only (HO2.out.trans ho) (fun _ _ f => f))
  clear d0 d1 e0 hnb HR0 HO1
  go_loopw [26] (fun i wr => ∃ k : Nat, k ≤ n ∧ i = .int .i64 k ∧ Hid (Only (fun _ => False) w2 wr)) (fun i _ => n - (intOf i).toNat)
  case atStart => exact ⟨0, by omega, rfl, Lib.hid (Only.refl _ _)⟩
  case round =>
    obtain ⟨k, hk, rfl, HW⟩ := hrel
    rename World => wr
    by_cases h8 : k < n
    · obtain ⟨b', off', hbe, hc⟩ := (HRL.out wr HW.out).2.2.2.resolve_left (by omega)
      injection hbe with hbe
      injection hbe with hb1 hb2
      subst hb1 hb2
      obtain ⟨y0, y1, y2, y3⟩ := hc k h8
      have hin := (HRL.out wr HW.out).2.2.1 _ (getL_mem ls k (by rw [← HLN.out]; exact h8))
      obtain ⟨⟨xk, xn, xg, xa⟩, hle⟩ : ∃ x, ls.getD k default = x := ⟨_, rfl⟩
      have HLE := Lib.hid hle
      rw [hle] at y0 y1 y2 y3 hin
      dsimp only at y0 y1 y2 y3
      have HIA : Hid (InA ⟨xk, xn, xg⟩) := Lib.hid (lgA_in hin)
      have hk0 : (0 : Int) ≤ (k : Int) := by omega
      have hkm : (k : Int) < (n : Int) := by omega
      clear hc hle hin
      obtain ⟨wa, hwa⟩ : ∃ x, x = wr.alloc (.cells #[.int .i64 xk, .int .i64 xn, .int .i64 xg, .int .i64 xa] 96) := ⟨_, rfl⟩
      obtain ⟨q5, hq5⟩ : ∃ x, x = wr.heap.size := ⟨_, rfl⟩
      have HOA : Hid (Only (fun _ => False) w2 wa) := Lib.hid (by rw [hwa]; exact HW.out.alloc _)
      have HQ : Hid (∀ w', Only (fun _ => False) wa w' → w'.cell? ⟨q5, 0, none⟩ = some (.int .i64 xk) ∧ w'.cell? ⟨q5, 1, none⟩ = some (.int .i64 xn) ∧ w'.cell? ⟨q5, 2, none⟩ = some (.int .i64 xg) ∧ w'.cell? ⟨q5, 3, none⟩ = some (.int .i64 xa)) := Lib.hid (fun w' ho =>
        ⟨ho.cell' (by rw [hwa]; exact alloc_new _ _ _ _ _ _ hq5 rfl) (fun f => f), ho.cell' (by rw [hwa]; exact alloc_new _ _ _ _ _ _ hq5 rfl) (fun f => f), ho.cell' (by rw [hwa]; exact alloc_new _ _ _ _ _ _ hq5 rfl) (fun f => f), ho.cell' (by rw [hwa]; exact alloc_new _ _ _ _ _ _ hq5 rfl) (fun f => f)⟩)
      have HBL : Hid (∀ w', Only (fun _ => False) wa w' → _) := Lib.hid (fun w' (ho : Only (fun _ => False) wa w') => bal_any p op (.slice a0 L.length c0) m nn C xk xn xg HIA.out w' (HJ.out w' (HOA.out.trans ho)) (HM.out w' (HOA.out.trans ho)))
      obtain ⟨y, hy⟩ : ∃ x, x = wrap64 (((C ⟨xk, xn, xg⟩).getD noughts).sum) := ⟨_, rfl⟩
      rw [← hy] at HBL
      obtain ⟨z, hz⟩ : ∃ x, x = wrap64 (y + xa) := ⟨_, rfl⟩
      have HZ : Hid (IntKind.i64.wrap (y + xa) = z) := Lib.hid (by rw [hz, IntKind.wrap_i64]; simp only [wrap64])
      have HOV : Hid (overL C (ls.getD k default) ↔ 1152921504606846976 < z ∨ z < -1152921504606846976) := Lib.hid (by rw [HLE.out, hz, hy]; exact Iff.rfl)
      clear hy hz
      go_upto_region 11 with fail
      simp only [← hwa, ← hq5]
      clear hwa hq5 y0 y1 y2 y3
      refine wp_region_noPanic ?_
      refine late.region (fun w' => w'.cell? ⟨q5, 0, none⟩ = some (.int .i64 xk) ∧ w'.cell? ⟨q5, 1, none⟩ = some (.int .i64 xn) ∧ w'.cell? ⟨q5, 2, none⟩ = some (.int .i64 xg) ∧ w'.cell? ⟨q5, 3, none⟩ = some (.int .i64 xa)) (fun j => [].contains j) (by kernel_rfl) (HQ.out _ (Only.refl _ _).drew) (fun hHeld => ?_)
      obtain ⟨z0, hz0⟩ : ∃ x, x = wa.drew := ⟨_, rfl⟩
      rw [← hz0] at hHeld ⊢
      have hot : Hid (Only (fun _ => False) wa z0) := Lib.hid (by rw [hz0]; exact (Only.refl _ _).drew)
      clear hz0
      refine sho.lt 0 [3, 6, 7] ?_
      refine sho.lt 1 [2, 3, 6, 7] ?_
      refine sho.lt 2 [3, 6, 7] ?_
      refine sho.lt 4 [5, 6, 7] ?_
      refine sho.lt 5 [6, 7] ?_
      refine late.ready (rs := [3]) (by kernel_rfl) (by simp) ?_
      refine late.Each.cons rfl (fun K hK => ?_) late.Each.nil
      try simp only [List.getElem_toArray, List.getElem_cons_zero, List.getElem_cons_succ]
      go_simp
      go_at_call 24
      with_reducible refine (HBL.out _ hot.out).mono ?_
      rintro _ W1 ⟨rfl, ho⟩
      replace hot := Lib.hid (hot.out.trans ho)
      clear ho
      try dsimp only
      refine hK.out _ _ (fun _ => HQ.out _ hot.out) (fun hHeld1 => ?_)
      replace hHeld1 := hHeld1 rfl
      clear hK K
      try simp only [List.getElem_toArray, List.getElem_cons_zero, List.getElem_cons_succ, Act.put, List.setIfInBounds_toArray, List.set_cons_zero, List.set_cons_succ]
      refine sho.lt 6 [7] ?_
      refine sho.lt 7 [] ?_
      refine late.done (by kernel_rfl) ?_ _
      refine NoPanic.normal ?_
      have HO9 := Lib.hid (HOA.out.trans hot.out)
      have hwz := HZ.out
      clear hHeld hot HBL HQ HOA
      by_cases g1 : 1152921504606846976 < z
      · exact absurd (HOV.out.2 (Or.inl g1)) (HNV0.out k h8)
      · by_cases g2 : z < -1152921504606846976
        · exact absurd (HOV.out.2 (Or.inr g2)) (HNV0.out k h8)
        · go_wp2_with fail
          go_roundw
          case rel => exact ⟨k + 1, by omega, by go_num, HO9⟩
          case measure => (simp [intOf]; omega)
    · have hge : ¬ (k : Int) < (n : Int) := by omega
      obtain rfl : n = k := by omega
      have d1 := (HQB.out wr HW.out).2
      have HADD := Lib.hid (add_any p op (.slice a0 L.length c0) m nn C b off n cap ls wr (HJ.out wr HW.out) (HM.out wr HW.out) (HRL.out wr HW.out) HPM.out HBP.out (Nat.lt_of_lt_of_le HBL2.out (HO2.out.trans HW.out).size) (by have := HAT.out.nb; omega) hn64)
      go_wp2_with fail
      refine HADD.out.mono ?_
      rintro _ w3 ⟨rfl, mb, nn3, hj3, hm3, ho3, hnn3, hmb3⟩
      have HW2 : Hid (Only (fun _ => False) w wr) := Lib.hid (HO2.out.trans HW.out)
      have HW3 : Hid (Only (fun x => x = p ∨ m = some x) w w3) := Lib.hid ((HW2.out.mono (fun _ _ f => f.elim)).trans ho3)
      have HNN3 := Lib.hid hnn3
      have HMP3 := Lib.hid hm3
      have HMBS : Hid (m = some mb ∨ w.heap.size ≤ mb) := Lib.hid (hmb3.imp (fun x => x) (fun e => Nat.le_trans HW2.out.size e))
      have HMBN : Hid (mb ≠ p ∧ (.slice a0 L.length c0 : Value).ownBlock ≠ some mb) := Lib.hid (HMBS.out.elim (fun e => (HAT.out.sm mb e).2) (fun e => ⟨by have := HAT.out.lt; omega, fun e2 => by have := HAT.out.own.lt e2; omega⟩))
      have HJ3 : Hid (∀ w', Only (fun _ => False) w3 w' → JnC w' p (.slice a0 L.length c0) op (some mb)) := Lib.hid (fun w' ho => hj3.only ho (fun f => f))
      have HOW : Hid (∀ w', Only (fun _ => False) w3 w' → OwnP w' (.slice a0 L.length c0) L) := Lib.hid (fun w' ho => (HAT.out.own.only HW3.out (fun k e q => q.elim (fun q => HAT.out.np (by rw [e, q])) (fun q => (HAT.out.sm k q).2.2 e))).only ho (fun _ _ f => f))
      have HS : Hid (∀ w', Only (fun _ => False) w3 w' → w'.cell? ⟨p, 0, none⟩ = some (.slice a0 L.length c0) ∧ w'.cell? ⟨p, 1, none⟩ = some (.int .i64 (op : Int)) ∧ w'.cell? ⟨q, 0, none⟩ = some (.int .i64 kind) ∧ w'.cell? ⟨q, 1, none⟩ = some (.slice (some ⟨b, off, none⟩) n cap)) := Lib.hid (fun w' ho => by
        obtain ⟨t0, t1⟩ := HQB.out wr HW.out
        have hq : ¬ (q = p ∨ m = some q) := fun e => e.elim (fun e => by have := HAT.out.lt; have := HQW.out; omega) (fun e => by have := HAT.out.mp.lt e; have := HQW.out; omega)
        exact ⟨(HJ3.out w' ho).c0, (HJ3.out w' ho).c1, ho.cell' (ho3.cell' t0 hq) (fun f => f), ho.cell' (ho3.cell' t1 hq) (fun f => f)⟩)
      have HCP : Hid (∀ w', Only (fun _ => False) w3 w' → _) := Lib.hid (fun w' (ho : Only (fun _ => False) w3 w') => copied_any kind b off n cap ls w' (((HRL.out wr HW.out).only ho3 (fun y e q => by
        cases e
        rcases q with q | q
        · exact HBP.out q
        · exact (HPM.out _ q).2 rfl)).only ho (fun _ _ f => f)) (by omega) (by omega))
      have hbp := run_buildQ
      clear d1 HADD ho3 hj3 hm3 hnn3 hmb3 hge
      go_upto_region 16 with fail
      refine wp_region_noPanic ?_
      refine late.region (fun w' => w'.cell? ⟨p, 0, none⟩ = some (.slice a0 L.length c0) ∧ w'.cell? ⟨p, 1, none⟩ = some (.int .i64 (op : Int)) ∧ w'.cell? ⟨q, 0, none⟩ = some (.int .i64 kind) ∧ w'.cell? ⟨q, 1, none⟩ = some (.slice (some ⟨b, off, none⟩) n cap)) (fun j => [16].contains j) (by kernel_rfl) (HS.out _ (Only.refl _ _).drew) (fun hHeld => ?_)
      obtain ⟨z0, hz0⟩ : ∃ x, x = w3.drew := ⟨_, rfl⟩
      rw [← hz0] at hHeld ⊢
      have hot : Hid (Only (fun _ => False) w3 z0) := Lib.hid (by rw [hz0]; exact (Only.refl _ _).drew)
      clear hz0
      refine sho.lt 0 [14, 15, 16] ?_
      refine sho.lt 1 [2, 3, 4, 13, 14, 15, 16] ?_
      refine sho.lt 2 [3, 4, 13, 14, 15, 16] ?_
      refine sho.lt 3 [4, 13, 14, 15, 16] ?_
      refine sho.lt 4 [13, 14, 15, 16] ?_
      refine sho.lt 5 [6, 11, 12, 13, 14, 15, 16] ?_
      refine sho.lt 7 [8, 9, 10, 11, 12, 13, 14, 15, 16] ?_
      refine sho.lt 8 [9, 10, 11, 12, 13, 14, 15, 16] ?_
      refine sho.lt 9 [10, 11, 12, 13, 14, 15, 16] ?_
      refine sho.lt 10 [11, 12, 13, 14, 15, 16] ?_
      refine late.ready (rs := [6]) (by kernel_rfl) (by simp) ?_
      refine late.Each.cons rfl (fun K hK => ?_) late.Each.nil
      try simp only [List.getElem_toArray, List.getElem_cons_zero, List.getElem_cons_succ]
      go_simp
      go_at_call 63
      with_reducible refine (HCP.out _ hot.out).mono ?_
      rintro _ W1 ⟨g, cp, rfl, hrd, hg, ho⟩
      have HRD := Lib.hid hrd
      have HGL : Hid (g < W1.heap.size) := Lib.hid (readsL_lt hrd (by omega))
      have HGW : Hid (w3.heap.size ≤ g) := Lib.hid (Nat.le_trans hot.out.size hg)
      replace hot := Lib.hid (hot.out.trans ho)
      clear ho hrd hg
      try dsimp only
      refine hK.out _ _ (fun _ => HS.out _ hot.out) (fun hHeld1 => ?_)
      replace hHeld1 := hHeld1 rfl
      clear hK K
      try simp only [List.getElem_toArray, List.getElem_cons_zero, List.getElem_cons_succ, Act.put, List.setIfInBounds_toArray, List.set_cons_zero, List.set_cons_succ]
      refine sho.lt 11 [12, 13, 14, 15, 16] ?_
      refine late.ready (rs := [12]) (by kernel_rfl) (by simp) ?_
      refine late.Each.cons rfl (fun K hK => ?_) late.Each.nil
      try simp only [List.getElem_toArray, List.getElem_cons_zero, List.getElem_cons_succ]
      go_simp
      obtain ⟨w9, hw9⟩ : ∃ x, x = W1 := ⟨_, rfl⟩
      rw [← hw9] at hot HRD HGL ⊢
      clear hw9
      obtain ⟨W2, hW2⟩ : ∃ x, x = w9.alloc (.cells #[.int .i64 kind, .slice (some ⟨g, 0, none⟩) n cp, .int .i64 (op : Int)] 103) := ⟨_, rfl⟩
      obtain ⟨g2, hg2⟩ : ∃ x, x = w9.heap.size := ⟨_, rfl⟩
      rw [← hW2, ← hg2]
      have hal : Only (fun _ => False) w9 W2 := by rw [hW2]; exact (Only.refl _ _).alloc _
      have HNW : Hid (∀ j u, (encP ⟨kind, g, n, cp, op, ls⟩)[j]? = some u → W2.cell? ⟨g2, j, none⟩ = some u) := Lib.hid (fun j u hu => by
        rw [hW2, hg2, Go.Joins.cell_of_block (cs := #[.int .i64 kind, .slice (some ⟨g, 0, none⟩) n cp, .int .i64 (op : Int)]) (t := 103) (fr := (0, 0)) (by rw [heap_alloc, if_pos rfl])]
        rw [← hu]; simp [encP])
      have H9 := Lib.hid hot.out
      have HAL := Lib.hid hal
      have HSZ : Hid (w9.heap.size ≤ W2.heap.size) := Lib.hid hal.size
      replace hot := Lib.hid (hot.out.trans hal)
      clear hW2 hg2 hal
      refine hK.out _ _ (fun _ => HS.out _ hot.out) (fun hHeld2 => ?_)
      replace hHeld2 := hHeld2 rfl
      clear hK K
      try simp only [List.getElem_toArray, List.getElem_cons_zero, List.getElem_cons_succ, Act.put, List.setIfInBounds_toArray, List.set_cons_zero, List.set_cons_succ]
      refine late.ready (rs := [13]) (by kernel_rfl) (by simp) ?_
      refine late.Each.cons rfl (fun K hK => ?_) late.Each.nil
      refine step_post (a := { tmps := _, defers := _ }) rfl _ _ rfl _ L rfl (HOW.out _ hot.out) g2 1 ⟨kind, g, n, cp, op, ls⟩ rfl HNW.out (by omega) ?_
      rintro v3 W3 hown hgrow hkk
      obtain ⟨gq, bc, hvf, -, -, hbc, -⟩ := owns_form hown (by simp)
      have hl1 : (L ++ [(⟨kind, g, n, cp, op, ls⟩ : Ps)]).length = L.length + 1 := by simp
      rw [hl1] at hvf hbc
      subst hvf
      have hgo := Only.of_grown hgrow
      obtain ⟨s0, s1, s2, s3⟩ := HS.out _ hot.out
      have d0 := hgo.cell' s0 (fun e => HNP.out e)
      have f0 : W3.frozen? ⟨p, 0, none⟩ = false := (hgo.frozen (p := ⟨p, 0, none⟩) (World.block_lt_of_cell? _ _ s0) (fun e => HNP.out e)).trans (HJ3.out _ hot.out).f0
      have HOW12 := Lib.hid hown
      have HKK : Hid (∀ k, (.slice (some ⟨gq, 0, none⟩) (L.length + 1) bc : Value).ownBlock = some k → (.slice a0 L.length c0 : Value).ownBlock = some k ∨ w9.heap.size ≤ k) := Lib.hid (fun k e => (hkk k e).imp (fun x => x) (fun e2 => Nat.le_trans HSZ.out e2))
      have HG9 : Hid (Only (fun x => x = p ∨ (.slice a0 L.length c0 : Value).ownBlock = some x) w9 W3) := Lib.hid ((HAL.out.mono (fun _ _ f => f.elim)).trans (hgo.mono (fun k _ e => .inr e)))
      have HJ12 : Hid (W3.cell? ⟨p, 1, none⟩ = some (.int .i64 (op : Int)) ∧ W3.cell? ⟨p, 2, none⟩ = some (.map (some mb)) ∧ W3.frozen? ⟨p, 1, none⟩ = false ∧ W3.frozen? ⟨p, 2, none⟩ = false) := Lib.hid ⟨hgo.cell' s1 (fun e => HNP.out e), hgo.cell' (HJ3.out _ hot.out).c2 (fun e => HNP.out e), (hgo.frozen (p := ⟨p, 1, none⟩) (World.block_lt_of_cell? _ _ s1) (fun e => HNP.out e)).trans (HJ3.out _ hot.out).f1, (hgo.frozen (p := ⟨p, 2, none⟩) (World.block_lt_of_cell? _ _ (HJ3.out _ hot.out).c2) (fun e => HNP.out e)).trans (HJ3.out _ hot.out).f2⟩
      have HQ12 : Hid (W3.cell? ⟨q, 0, none⟩ = some (.int .i64 kind) ∧ W3.cell? ⟨q, 1, none⟩ = some (.slice (some ⟨b, off, none⟩) n cap)) := Lib.hid ⟨hgo.cell' s2 (fun e => by have h1 : q < w.heap.size := HAT.out.own.lt e; have := HQW.out; omega), hgo.cell' s3 (fun e => by have h1 : q < w.heap.size := HAT.out.own.lt e; have := HQW.out; omega)⟩
      have hl1z : IntKind.i64.wrap (((L.length + 1 : Nat) : Int) - 1) = (L.length : Int) := by rw [IntKind.wrap_i64]; omega
      clear hown hgrow hkk hgo HNW s0 s1 s2 s3
      refine hK.out _ _ (fun _ => ⟨d0, HJ12.out.1, HQ12.out.1, HQ12.out.2⟩) (fun hHeld3 => ?_)
      replace hHeld3 := hHeld3 rfl
      clear hK K
      try simp only [List.getElem_toArray, List.getElem_cons_zero, List.getElem_cons_succ, Act.put, List.setIfInBounds_toArray, List.set_cons_zero, List.set_cons_succ]
      refine sho.lt 14 [15, 16] ?_
      refine sho.lt 15 [16] ?_
      refine late.ready (rs := [16]) (by kernel_rfl) (by simp) ?_
      refine late.Each.cons rfl (fun K hK => ?_) late.Each.nil
      try simp only [List.getElem_toArray, List.getElem_cons_zero, List.getElem_cons_succ]
      go_simp
      refine hK.out _ _ (fun h => by cases h) (fun _ => ?_)
      clear hK K
      try simp only [List.getElem_toArray, List.getElem_cons_zero, List.getElem_cons_succ, Act.put, List.setIfInBounds_toArray, List.set_cons_zero, List.set_cons_succ]
      refine late.done (by kernel_rfl) ?_ _
      refine NoPanic.normal ?_
      obtain ⟨w5, hw5⟩ : ∃ x, x = W3.setCell ⟨p, 0, none⟩ (.slice (some ⟨gq, 0, none⟩) (L.length + 1) bc : Value) := ⟨_, rfl⟩
      have e0 : w5.cell? ⟨p, 0, none⟩ = some (.slice (some ⟨gq, 0, none⟩) (L.length + 1) bc : Value) := by rw [hw5]; exact cell_same d0
      have ef : w5.frozen? ⟨p, 0, none⟩ = false := by rw [hw5]; exact frozen_set.trans f0
      have HJN : Hid (JnC w5 p (.slice (some ⟨gq, 0, none⟩) (L.length + 1) bc : Value) op (some mb)) := Lib.hid ⟨e0, by rw [hw5, cell_other (fun e => by injection e with _ e _; omega)]; exact HJ12.out.1, by rw [hw5, cell_other (fun e => by injection e with _ e _; omega)]; exact HJ12.out.2.1, ef, by rw [hw5]; exact frozen_set.trans HJ12.out.2.2.1, by rw [hw5]; exact frozen_set.trans HJ12.out.2.2.2, (HJ3.out w3 (Only.refl _ _)).le⟩
      have HNP9 : Hid ((.slice (some ⟨gq, 0, none⟩) (L.length + 1) bc : Value).ownBlock ≠ some p) := Lib.hid (fun e => (HKK.out p e).elim (fun e => HNP.out e) (fun e => by have := H9.out.size; have := HW3.out.size; have := HAT.out.lt; omega))
      have HOW5 : Hid (OwnP w5 (.slice (some ⟨gq, 0, none⟩) (L.length + 1) bc : Value) (L ++ [⟨kind, g, n, cp, op, ls⟩])) := Lib.hid (by rw [hw5]; have h := HOW12.out.only (Only.set (fun x => x = p) _ p 0 (.slice (some ⟨gq, 0, none⟩) (L.length + 1) bc : Value) rfl) (fun k e e2 => HNP9.out (by rw [e, e2])); exact h)
      have HG5 : Hid (Only (fun x => x = p ∨ (.slice a0 L.length c0 : Value).ownBlock = some x) w9 w5) := Lib.hid (HG9.out.trans (by rw [hw5]; exact Only.set _ _ p 0 _ (.inl rfl)))
      have HW9 : Hid (Only (fun x => x = p ∨ m = some x) w w9) := Lib.hid (HW3.out.trans (H9.out.mono (fun _ _ f => f.elim)))
      have HMB9 : Hid (MapA w5 mb nn3 (addC C op ls)) := Lib.hid ((HMP3.out.only H9.out (fun f => f)).only HG5.out (fun e => e.elim (fun e => HMBN.out.1 e) (fun e => HMBN.out.2 e)))
      have HEND : Hid (JnAt (fun x => S x ∨ w.heap.size ≤ x) w5 p (.slice (some ⟨gq, 0, none⟩) (L.length + 1) bc : Value) op (some mb) nn3 (addC C op ls) (L ++ [⟨kind, g, n, cp, op, ls⟩])) := Lib.hid ⟨HJN.out, HMB9.out, HOW5.out, HNP9.out, .inl HAT.out.sp, (fun k e => (HKK.out k e).elim (fun e => .inl (HAT.out.sv k e)) (fun e => .inr (by have := HW9.out.size; omega))), (fun x e => by
        injection e with e
        subst e
        refine ⟨HMBS.out.elim (fun e => .inl (HAT.out.sm _ e).1) (fun e => .inr e), HMBN.out.1, fun e => ?_⟩
        rcases HKK.out _ e with e | e
        · exact HMBN.out.2 e
        · have := HMP3.out.lt
          have := H9.out.size
          omega), by rw [hl1]; have := HAT.out.nb; have := HNN3.out; omega, by rw [hl1]; omega,
        ps_more HAT.out HW9.out HG5.out HKK.out HMBS.out HRD.out HCZ.out (Nat.le_refl _) (by have := HGW.out; have := HW3.out.size; show w.heap.size ≤ g; omega) HGL.out (by have := HMP3.out.lt; have := HGW.out; show mb ≠ g; omega)⟩
      have HOS : Hid (Only S w w5) := Lib.hid ((HW9.out.mono (fun k hk e => e.elim (fun e => by rw [e]; exact HAT.out.sp) (fun e => (HAT.out.sm k e).1))).then HG5.out (fun k hk e => e.elim (fun e => by rw [e]; exact HAT.out.sp) (fun e => HAT.out.sv k e)))
      rw [← hw5]
      clear hw5 hHeld d0 f0 ef HOW12 HG9 hot HS HAL HSZ HRD HGL HJ12 HMB9 HOW5 HNP9 HJN
      go_wp2_with fail
      go_ret2
      exact ⟨rfl, _, _, _, _, _, HEND.out, HOS.out⟩
end Go.Proofs.YtkbaafgaaiekpaaGreat.jnw
namespace Go.Proofs.YtkbaafgaaiekpaaGreat.jnw
open Go.RowKit mem accm accn entw entm
set_option linter.unusedVariables false

open Classical in
noncomputable def pErr (C : Ac → Option (List Int)) (kind : Int) (ls : List Lg) : Int := if chk kind ls ≠ 0 then chk kind ls else if ∃ j, j < ls.length ∧ overL C (ls.getD j default) then 6 else 0
def PostAt (S : Nat → Prop) (p op : Nat) (v : Value) (m : Option Nat) (nn : Nat) (C : Ac → Option (List Int)) (L : List Ps) (kind : Int) (n : Nat) (ls : List Lg) (w : World) (e : Ending) (w' : World) : Prop :=
  (pErr C kind ls ≠ 0 ∧ e = .returned (.tuple #[.int .i64 0, .int .i64 (pErr C kind ls)]) ∧ Only (fun _ => False) w w') ∨
  (pErr C kind ls = 0 ∧ chk kind ls = 0 ∧ e = .returned (.tuple #[.int .i64 (L.length : Int), .int .i64 0]) ∧ (∃ v' m' nn' g cp, JnAt (fun q => S q ∨ w.heap.size ≤ q) w' p v' op m' nn' (addC C op ls) (L ++ [⟨kind, g, n, cp, op, ls⟩])) ∧ Only S w w')
theorem post_any {S : Nat → Prop} (p op : Nat) (v : Value) (m : Option Nat) (nn : Nat) (C : Ac → Option (List Int)) (L : List Ps) (kind : Int) (a : Option Addr) (n cap : Nat) (ls : List Lg) (w : World) (h : JnAt S w p v op m nn C L) (hr : ReadsL w a n ls) (hn0 : L.length < 16384) (ha : ∀ x, a = some x → ¬ S x.block) :
    Calls Tryz.prog 31 #[.pointer (some ⟨p, 0, none⟩), .agg #[.int .i64 kind, .slice a n cap]] w (PostAt S p op v m nn C L kind n ls w) := by
  by_cases hc : chk kind ls = 0
  · by_cases ho : ∃ j, j < ls.length ∧ overL C (ls.getD j default)
    · have he : pErr C kind ls = 6 := by unfold pErr; rw [if_neg (by simpa using hc), if_pos ho]
      obtain ⟨a0, c0, rfl, -⟩ := h.own.reads
      refine (post_over p op a0 L.length c0 m nn C kind a n cap ls w h.jc h.mp hr hc hn0 (by rw [← hr.1]; exact ho)).mono ?_
      rintro e w' ⟨rfl, ho⟩
      exact .inl ⟨by rw [he]; decide, by rw [he], ho⟩
    · have he : pErr C kind ls = 0 := by unfold pErr; rw [if_neg (by simpa using hc), if_neg ho]
      refine (post_yes p op v m nn C L kind a n cap ls w h hr hc hn0 (fun j hj hov => ho ⟨j, by rw [hr.1]; exact hj, hov⟩) ha).mono ?_
      rintro e w' ⟨rfl, v', m', nn', g, cp, h1, h2⟩
      exact .inr ⟨he, hc, rfl, ⟨v', m', nn', g, cp, h1⟩, h2⟩
  · have he : pErr C kind ls = chk kind ls := by unfold pErr; rw [if_pos hc]
    refine (post_no p kind a n cap ls w hr hc).mono ?_
    rintro e w' ⟨rfl, ho⟩
    exact .inl ⟨by rw [he]; exact hc, by rw [he], ho⟩

theorem sum_set : ∀ (l : List Int) (k : Nat) (y : Int), k < l.length → (l.set k y).sum = l.sum - l.getD k 0 + y := by
  intro l
  induction l with
  | nil => intro k y h; simp at h
  | cons x r ih =>
    intro k y h
    cases k with
    | zero => simp [List.getD]; omega
    | succ k =>
      have := ih k y (by simpa using h)
      rw [List.set_cons_succ, List.sum_cons, this, List.sum_cons]
      simp [List.getD]
      omega
end Go.Proofs.YtkbaafgaaiekpaaGreat.jnw
namespace Go.Proofs.YtkbaafgaaiekpaaGreat.jnw
open Go.RowKit mem accm accn entw entm
set_option linter.unusedVariables false

def ror (C : Ac → Option (List Int)) (a : Ac) : List Int := (C a).getD noughts
def atA (a : Ac) (ls : List Lg) : Int := atS a.k a.n a.g ls
theorem atA_cons (a : Ac) (l : Lg) (r : List Lg) : atA a (l :: r) = (if lgA l = a then l.a else 0) + atA a r := by
  obtain ⟨k, n, g⟩ := a
  unfold atA atS lgA
  simp only [List.map_cons, List.sum_cons, Ac.mk.injEq]
theorem atA_not {a : Ac} : ∀ {ls : List Lg}, a ∉ ls.map lgA → atA a ls = 0
  | [], _ => rfl
  | l :: r, h => by
    rw [atA_cons, if_neg (fun e => h (by rw [← e]; simp)), atA_not (fun e => h (by simp [List.mem_map] at e ⊢; exact .inr e))]
    rfl
theorem atA_le {a : Ac} {M : Int} (hM : 0 ≤ M) : ∀ {ls : List Lg}, (ls.map lgA).Nodup → (∀ l ∈ ls, -M ≤ l.a ∧ l.a ≤ M) → -M ≤ atA a ls ∧ atA a ls ≤ M
  | [], _, _ => by show -M ≤ (0 : Int) ∧ (0 : Int) ≤ M; omega
  | l :: r, hn, h => by
    rw [List.map_cons, List.nodup_cons] at hn
    rw [atA_cons]
    by_cases e : lgA l = a
    · rw [if_pos e, atA_not (by rw [← e]; exact hn.1)]
      have := h l (by simp)
      omega
    · rw [if_neg e]
      have := atA_le (a := a) hM hn.2 (fun x hx => h x (by simp [hx]))
      omega
theorem ror_upd (C : Ac → Option (List Int)) (b : Ac) (r : List Int) (a : Ac) : ror (updA C b r) a = if a = b then r else ror C a := by
  unfold ror updA
  split <;> rfl
theorem set_get {l : List Int} {k : Nat} (h : k < l.length) : l.set k (l.getD k 0) = l := by
  apply List.ext_getElem?
  intro j
  rw [List.getElem?_set]
  by_cases e : k = j
  · subst e; rw [if_pos rfl, if_pos h, List.getD_eq_getElem?_getD, List.getElem?_eq_getElem h]; rfl
  · rw [if_neg e]
theorem getD_set {l : List Int} {k j : Nat} {y : Int} (h : k < l.length) : (l.set k y).getD j 0 = if j = k then y else l.getD j 0 := by
  rw [List.getD_eq_getElem?_getD, List.getElem?_set, List.getD_eq_getElem?_getD]
  by_cases e : k = j
  · subst e; rw [if_pos rfl, if_pos h, if_pos rfl]; rfl
  · rw [if_neg e, if_neg (fun x => e x.symm)]
theorem addC_at {op : Nat} (hop : op < 32) : ∀ (ls : List Lg) (C : Ac → Option (List Int)), (ls.map lgA).Nodup → (∀ l ∈ ls, -9007199254740992 ≤ l.a ∧ l.a ≤ 9007199254740992) → (∀ a, (ror C a).length = 32) → (∀ l ∈ ls, -2305843009213693952 ≤ (ror C (lgA l)).getD op 0 ∧ (ror C (lgA l)).getD op 0 ≤ 2305843009213693952) →
    ∀ a, ror (addC C op ls) a = (ror C a).set op ((ror C a).getD op 0 + atA a ls)
  | [], C, _, _, hl, _, a => by
    show ror C a = (ror C a).set op ((ror C a).getD op 0 + 0)
    rw [Int.add_zero, set_get (by rw [hl]; exact hop)]
  | l :: r, C, hn, hm, hl, hb, a => by
    rw [List.map_cons, List.nodup_cons] at hn
    have hne : ∀ l' ∈ r, lgA l' ≠ lgA l := fun l' h e => hn.1 (by rw [← e]; exact List.mem_map_of_mem h)
    have hl1 : ∀ b, (ror (updA C (lgA l) (rowAdd (ror C (lgA l)) op l.a)) b).length = 32 := fun b => by
      rw [ror_upd]
      split
      · unfold rowAdd; rw [List.length_set]; exact hl _
      · exact hl b
    have ih := addC_at hop r (updA C (lgA l) (rowAdd (ror C (lgA l)) op l.a)) hn.2 (fun x hx => hm x (by simp [hx])) hl1 (fun x hx => by
      rw [ror_upd, if_neg (hne x hx)]
      exact hb x (by simp [hx])) a
    show ror (addC (updA C (lgA l) (rowAdd (ror C (lgA l)) op l.a)) op r) a = _
    rw [ih, atA_cons, ror_upd]
    by_cases e : a = lgA l
    · subst e
      have h1 := hm l (by simp)
      have h2 := hb l (by simp)
      have hw : wrap64 ((ror C (lgA l)).getD op 0 + l.a) = (ror C (lgA l)).getD op 0 + l.a := by unfold wrap64; omega
      rw [if_pos rfl, if_pos rfl, atA_not hn.1]
      unfold rowAdd
      rw [hw, getD_set (by rw [hl]; exact hop), if_pos rfl, List.set_set, Int.add_zero, Int.add_zero]
    · rw [if_neg e, if_neg (fun x => e x.symm), Int.zero_add]
def Bnd (C : Ac → Option (List Int)) (B : Int) : Prop := ∀ a, (ror C a).length = 32 ∧ (-B ≤ (ror C a).sum ∧ (ror C a).sum ≤ B) ∧ ∀ j, -B ≤ (ror C a).getD j 0 ∧ (ror C a).getD j 0 ≤ B
theorem Bnd.nil : Bnd (fun _ => none) 0 := fun a => by
  refine ⟨rfl, by show -(0 : Int) ≤ noughts.sum ∧ noughts.sum ≤ 0; decide, fun j => ?_⟩
  show -(0 : Int) ≤ noughts.getD j 0 ∧ noughts.getD j 0 ≤ 0
  have : noughts.getD j 0 = 0 := by
    unfold noughts
    rw [List.getD_eq_getElem?_getD, List.getElem?_replicate]
    split <;> rfl
  omega
theorem chk_legs {k : Int} {ls : List Lg} (h : chk k ls = 0) : (ls.map lgA).Nodup ∧ ∀ l ∈ ls, -9007199254740992 ≤ l.a ∧ l.a ≤ 9007199254740992 := by
  obtain ⟨_, _, h3, _, h5⟩ := (chk_ok k ls).1 h
  refine ⟨?_, fun l hl => by have := amt_bound (h3 l hl).2; omega⟩
  rw [List.nodup_iff_pairwise_ne, List.pairwise_map]
  refine h5.imp (fun {x y} hxy e => ?_)
  unfold lgA at e
  injection e with e1 e2 e3
  unfold ltA at hxy
  omega
theorem Bnd.at {C : Ac → Option (List Int)} {B : Int} (h : Bnd C B) (hB : B ≤ 1152921504606846976) {op : Nat} (hop : op < 32) {k : Int} {ls : List Lg} (hc : chk k ls = 0) (a : Ac) : ror (addC C op ls) a = (ror C a).set op ((ror C a).getD op 0 + atA a ls) :=
  addC_at hop ls C (chk_legs hc).1 (chk_legs hc).2 (fun a => (h a).1) (fun l _ => by have := (h (lgA l)).2.2 op; omega) a
theorem Bnd.sum {C : Ac → Option (List Int)} {B : Int} (h : Bnd C B) (hB : B ≤ 1152921504606846976) {op : Nat} (hop : op < 32) {k : Int} {ls : List Lg} (hc : chk k ls = 0) (a : Ac) : (ror (addC C op ls) a).sum = (ror C a).sum + atA a ls := by
  rw [h.at hB hop hc, sum_set _ _ _ (by rw [(h a).1]; exact hop)]
  omega
theorem Bnd.get {C : Ac → Option (List Int)} {B : Int} (h : Bnd C B) (hB : B ≤ 1152921504606846976) {op : Nat} (hop : op < 32) {k : Int} {ls : List Lg} (hc : chk k ls = 0) (a : Ac) (j : Nat) : (ror (addC C op ls) a).getD j 0 = (ror C a).getD j 0 + if j = op then atA a ls else 0 := by
  rw [h.at hB hop hc, getD_set (by rw [(h a).1]; exact hop)]
  by_cases e : j = op
  · rw [if_pos e, if_pos e, e]
  · rw [if_neg e, if_neg e]; omega
theorem Bnd.add {C : Ac → Option (List Int)} {B : Int} (h : Bnd C B) (hB : B ≤ 1152921504606846976) {op : Nat} (hop : op < 32) {k : Int} {ls : List Lg} (hc : chk k ls = 0) : Bnd (addC C op ls) (B + 9007199254740992) := fun a => by
  have h1 := atA_le (a := a) (by omega) (chk_legs hc).1 (chk_legs hc).2
  refine ⟨by rw [h.at hB hop hc, List.length_set]; exact (h a).1, ?_, fun j => ?_⟩
  · rw [h.sum hB hop hc]
    have := (h a).2.1
    omega
  · rw [h.get hB hop hc]
    have := (h a).2.2 j
    split <;> omega
theorem Bnd.mono {C : Ac → Option (List Int)} {B B' : Int} (h : Bnd C B) (hB : B ≤ B') : Bnd C B' := fun a => ⟨(h a).1, by have := (h a).2.1; omega, fun j => by have := (h a).2.2 j; omega⟩
theorem Bnd.none {C : Ac → Option (List Int)} {B : Int} (h : Bnd C B) (hB : B + 9007199254740992 ≤ 1152921504606846976) {k : Int} {ls : List Lg} (hc : chk k ls = 0) : pErr C k ls = 0 := by
  have hn : ¬ ∃ j, j < ls.length ∧ overL C (ls.getD j default) := by
    rintro ⟨j, hj, ho⟩
    have hm : ls.getD j default ∈ ls := by
      rw [List.getD_eq_getElem?_getD, List.getElem?_eq_getElem hj]; exact List.getElem_mem hj
    generalize ls.getD j default = l at ho hm
    have h1 := (chk_legs hc).2 l hm
    have h2 := (h (lgA l)).2.1
    unfold overL at ho
    change 1152921504606846976 < wrap64 (wrap64 (ror C (lgA l)).sum + l.a) ∨ wrap64 (wrap64 (ror C (lgA l)).sum + l.a) < -1152921504606846976 at ho
    have e1 : wrap64 (ror C (lgA l)).sum = (ror C (lgA l)).sum := by unfold wrap64; omega
    rw [e1] at ho
    have e2 : wrap64 ((ror C (lgA l)).sum + l.a) = (ror C (lgA l)).sum + l.a := by unfold wrap64; omega
    rw [e2] at ho
    omega
  unfold pErr
  rw [if_neg (by simpa using hc), if_neg hn]
end Go.Proofs.YtkbaafgaaiekpaaGreat.jnw
