/- The journal's Post: of what is an entry, and doesn't go too far. -/
import Derived.Test.YtdjiljkdnpmilaaJnH
namespace Go.Proofs.Ytdjiljkdnpmilaa.jnw
open Go.RowKit mem accm accn entw entm
set_option linter.unusedVariables false

theorem run_buildQ (k : Int) (g n c : Nat) (op : Nat) (w : World) : (Instr.build 86 #[(0, .agg #[.int .i64 k, .slice (some ⟨g, 0, none⟩) n c]), (1, .int .i64 (op : Int))]).run Try.prog w = .ok (.agg #[.int .i64 k, .slice (some ⟨g, 0, none⟩) n c, .int .i64 (op : Int)]) w := by kernel_rfl
set_option maxRecDepth 100000 in
set_option maxHeartbeats 4000000 in
theorem post_yes {S : Nat → Prop} (p op : Nat) (v : Value) (m : Option Nat) (nn : Nat) (C : Ac → Option (List Int)) (L : List Ps) (kind : Int) (a : Option Addr) (n cap : Nat) (ls : List Lg) (w : World) (h : JnAt S w p v op m nn C L) (hr : ReadsL w a n ls) (hc : chk kind ls = 0) (hn0 : L.length < 16384)
    (hno : ∀ j, j < n → ¬ overL C (ls.getD j default)) (ha : ∀ x, a = some x → ¬ S x.block) :
    Calls Try.prog 13 #[.pointer (some ⟨p, 0, none⟩), .agg #[.int .i64 kind, .slice a n cap]] w fun e w' => e = .returned (.tuple #[.int .i64 (L.length : Int), .int .i64 0]) ∧ ∃ v' m' nn' g cp, JnAt (fun q => S q ∨ w.heap.size ≤ q) w' p v' op m' nn' (addC C op ls) (L ++ [⟨kind, g, n, cp, op, ls⟩]) ∧ Only S w w' := by
  have hn64 : n ≤ 64 := by have := ((chk_ok kind ls).1 hc).2.1; have := hr.1; omega
  have hn2 : 2 ≤ n := by have := ((chk_ok kind ls).1 hc).2.1; have := hr.1; omega
  obtain ⟨b, off, rfl, -⟩ := hr.2.2.2.resolve_left (by omega)
  have hbS : ¬ S b := ha _ rfl
  obtain ⟨a0, c0, rfl, -, -, -, -⟩ := h.own.reads
  obtain ⟨w1, hw1⟩ : ∃ x, x = w.alloc (.cells #[.int .i64 kind, .slice (some ⟨b, off, none⟩) n cap] 25) := ⟨_, rfl⟩
  obtain ⟨q, hq⟩ : ∃ x, x = w.heap.size := ⟨_, rfl⟩
  have ho1 : Only (fun _ => False) w w1 := by rw [hw1]; exact (Only.refl _ w).alloc _
  have k0 : w1.cell? ⟨q, 0, none⟩ = some (.int .i64 kind) := by rw [hw1]; exact alloc_new _ _ _ _ _ _ hq rfl
  have k1 : w1.cell? ⟨q, 1, none⟩ = some (.slice (some ⟨b, off, none⟩) n cap) := by rw [hw1]; exact alloc_new _ _ _ _ _ _ hq rfl
  have HO1 := Lib.hid ho1
  have HQW : Hid (w.heap.size ≤ q) := Lib.hid (by omega)
  have hck := check_any kind (some ⟨b, off, none⟩) n cap ls w1 (hr.only ho1 (fun _ _ f => f))
  rw [hc] at hck
  have HCK := Lib.hid hck
  have HCZ := Lib.hid hc
  have HNV0 := Lib.hid hno
  have HLN : Hid (n = ls.length) := Lib.hid hr.1.symm
  have HAT := Lib.hid h
  have HR0 := Lib.hid hr
  have HNP : Hid ((.slice a0 L.length c0 : Value).ownBlock ≠ some p) := Lib.hid h.np
  have HBP : Hid (b ≠ p) := Lib.hid (fun e => hbS (by rw [e]; exact h.sp))
  have HBL2 : Hid (b < w.heap.size) := Lib.hid (readsL_lt hr (by omega))
  have HPM : Hid (∀ mb, m = some mb → mb ≠ p ∧ b ≠ mb) := Lib.hid (fun mb e => ⟨(h.sm mb e).2.1, fun e2 => hbS (by rw [e2]; exact (h.sm mb e).1)⟩)
  clear hr hc ho1 hck hno h ha hbS
  go_enter Try.func13, Try.ntmps13
  go_upto_region 3 with fail
  simp only [← hw1, ← hq]
  clear hw1 hq
  go_wp2_with fail
  refine HCK.out.mono ?_
  rintro _ w2 ⟨rfl, ho⟩
  have HO2 := Lib.hid (HO1.out.trans ho)
  have d0 := ho.cell' k0 (fun f => f)
  have d1 := ho.cell' k1 (fun f => f)
  have HQB : Hid (∀ w', Only (fun _ => False) w2 w' → w'.cell? ⟨q, 0, none⟩ = some (.int .i64 kind) ∧ w'.cell? ⟨q, 1, none⟩ = some (.slice (some ⟨b, off, none⟩) n cap)) := Lib.hid (fun w' ho2 => ⟨(ho.trans ho2).cell' k0 (fun f => f), (ho.trans ho2).cell' k1 (fun f => f)⟩)
  have e0 := (HAT.out.jc.only HO2.out (fun f => f)).c0
  have hnb : ¬ (16384 : Int) ≤ (L.length : Int) := by omega
  clear ho HCK k0 k1
  go_wp2_with fail
  have HJ : Hid (∀ w', Only (fun _ => False) w2 w' → JnC w' p (.slice a0 L.length c0) op m) := Lib.hid (fun w' ho => HAT.out.jc.only (HO2.out.trans ho) (fun f => f))
  have HM : Hid (∀ w', Only (fun _ => False) w2 w' → MapN w' m nn C) := Lib.hid (fun w' ho => HAT.out.mp.only (HO2.out.trans ho) (fun _ _ f => f))
  have HRL : Hid (∀ w', Only (fun _ => False) w2 w' → ReadsL w' (some ⟨b, off, none⟩) n ls) := Lib.hid (fun w' ho => HR0.out.only (HO2.out.trans ho) (fun _ _ f => f))
  clear d0 d1 e0 hnb HR0 HO1
  go_loopw [26] (fun i wr => ∃ k : Nat, k ≤ n ∧ i = .int .i64 k ∧ Hid (Only (fun _ => False) w2 wr)) (fun i _ => n - (intOf i).toNat)
  case atStart => exact ⟨0, by omega, rfl, Lib.hid (Only.refl _ _)⟩
  case round =>
    obtain ⟨k, hk, rfl, HW⟩ := hrel
    rename World => wr
    by_cases h8 : k < n
    · obtain ⟨b', off', hbe, hc⟩ := (HRL.out wr HW.out).2.2.2.resolve_left (by omega)
      injection hbe with hbe
      injection hbe with hb1 hb2
      subst hb1 hb2
      obtain ⟨y0, y1, y2, y3⟩ := hc k h8
      have hin := (HRL.out wr HW.out).2.2.1 _ (getL_mem ls k (by rw [← HLN.out]; exact h8))
      obtain ⟨⟨xk, xn, xg, xa⟩, hle⟩ : ∃ x, ls.getD k default = x := ⟨_, rfl⟩
      have HLE := Lib.hid hle
      rw [hle] at y0 y1 y2 y3 hin
      dsimp only at y0 y1 y2 y3
      have HIA : Hid (InA ⟨xk, xn, xg⟩) := Lib.hid (lgA_in hin)
      have hk0 : (0 : Int) ≤ (k : Int) := by omega
      have hkm : (k : Int) < (n : Int) := by omega
      clear hc hle hin
      obtain ⟨wa, hwa⟩ : ∃ x, x = wr.alloc (.cells #[.int .i64 xk, .int .i64 xn, .int .i64 xg, .int .i64 xa] 40) := ⟨_, rfl⟩
      obtain ⟨q5, hq5⟩ : ∃ x, x = wr.heap.size := ⟨_, rfl⟩
      have HOA : Hid (Only (fun _ => False) w2 wa) := Lib.hid (by rw [hwa]; exact HW.out.alloc _)
      have HQ : Hid (∀ w', Only (fun _ => False) wa w' → w'.cell? ⟨q5, 0, none⟩ = some (.int .i64 xk) ∧ w'.cell? ⟨q5, 1, none⟩ = some (.int .i64 xn) ∧ w'.cell? ⟨q5, 2, none⟩ = some (.int .i64 xg) ∧ w'.cell? ⟨q5, 3, none⟩ = some (.int .i64 xa)) := Lib.hid (fun w' ho =>
        ⟨ho.cell' (by rw [hwa]; exact alloc_new _ _ _ _ _ _ hq5 rfl) (fun f => f), ho.cell' (by rw [hwa]; exact alloc_new _ _ _ _ _ _ hq5 rfl) (fun f => f), ho.cell' (by rw [hwa]; exact alloc_new _ _ _ _ _ _ hq5 rfl) (fun f => f), ho.cell' (by rw [hwa]; exact alloc_new _ _ _ _ _ _ hq5 rfl) (fun f => f)⟩)
      have HBL : Hid (∀ w', Only (fun _ => False) wa w' → _) := Lib.hid (fun w' (ho : Only (fun _ => False) wa w') => bal_any p op (.slice a0 L.length c0) m nn C xk xn xg HIA.out w' (HJ.out w' (HOA.out.trans ho)) (HM.out w' (HOA.out.trans ho)))
      obtain ⟨y, hy⟩ : ∃ x, x = wrap64 (((C ⟨xk, xn, xg⟩).getD noughts).sum) := ⟨_, rfl⟩
      rw [← hy] at HBL
      obtain ⟨z, hz⟩ : ∃ x, x = wrap64 (y + xa) := ⟨_, rfl⟩
      have HZ : Hid (IntKind.i64.wrap (y + xa) = z) := Lib.hid (by rw [hz, IntKind.wrap_i64]; simp only [wrap64])
      have HOV : Hid (overL C (ls.getD k default) ↔ 1152921504606846976 < z ∨ z < -1152921504606846976) := Lib.hid (by rw [HLE.out, hz, hy]; exact Iff.rfl)
      clear hy hz
      go_upto_region 11 with fail
      simp only [← hwa, ← hq5]
      clear hwa hq5 y0 y1 y2 y3
      refine wp_region_noPanic ?_
      refine late.region (fun w' => w'.cell? ⟨q5, 0, none⟩ = some (.int .i64 xk) ∧ w'.cell? ⟨q5, 1, none⟩ = some (.int .i64 xn) ∧ w'.cell? ⟨q5, 2, none⟩ = some (.int .i64 xg) ∧ w'.cell? ⟨q5, 3, none⟩ = some (.int .i64 xa)) (fun j => [].contains j) (by kernel_rfl) (HQ.out _ (Only.refl _ _).drew) (fun hHeld => ?_)
      obtain ⟨z0, hz0⟩ : ∃ x, x = wa.drew := ⟨_, rfl⟩
      rw [← hz0] at hHeld ⊢
      have hot : Hid (Only (fun _ => False) wa z0) := Lib.hid (by rw [hz0]; exact (Only.refl _ _).drew)
      clear hz0
      refine late.take (i := 0) [3, 6, 7] (v := ?_) rfl (by kernel_rfl) (by kernel_rfl) (by kernel_rfl) (by kernel_rfl) (fun _ _ _ h => h) (Or.inl ⟨by rfl, ?_⟩) (by assumption) ?_
      rotate_left 1
      · intro w' hSw
        try dsimp only at hSw
        go_simp
        try with_reducible rfl
      try simp only [List.getElem_toArray, List.getElem_cons_zero, Act.put, List.setIfInBounds_toArray, List.set_cons_zero, List.set_cons_succ]
      refine late.take (i := 1) [2, 3, 6, 7] (v := ?_) rfl (by kernel_rfl) (by kernel_rfl) (by kernel_rfl) (by kernel_rfl) (fun _ _ _ h => h) (Or.inl ⟨by rfl, ?_⟩) (by assumption) ?_
      rotate_left 1
      · intro w' hSw
        try dsimp only at hSw
        go_simp
        try with_reducible rfl
      try simp only [List.getElem_toArray, List.getElem_cons_zero, List.getElem_cons_succ, Act.put, List.setIfInBounds_toArray, List.set_cons_zero, List.set_cons_succ]
      refine late.take (i := 2) [3, 6, 7] (v := ?_) rfl (by kernel_rfl) (by kernel_rfl) (by kernel_rfl) (by kernel_rfl) (fun _ _ _ h => h) (Or.inl ⟨by rfl, ?_⟩) (by assumption) ?_
      rotate_left 1
      · intro w' hSw
        try dsimp only at hSw
        go_simp
        try with_reducible rfl
      try simp only [List.getElem_toArray, List.getElem_cons_zero, List.getElem_cons_succ, Act.put, List.setIfInBounds_toArray, List.set_cons_zero, List.set_cons_succ]
      refine late.take (i := 4) [5, 6, 7] (v := ?_) rfl (by kernel_rfl) (by kernel_rfl) (by kernel_rfl) (by kernel_rfl) (fun _ _ _ h => h) (Or.inl ⟨by rfl, ?_⟩) (by assumption) ?_
      rotate_left 1
      · intro w' hSw
        try dsimp only at hSw
        go_simp
        try with_reducible rfl
      try simp only [List.getElem_toArray, List.getElem_cons_zero, List.getElem_cons_succ, Act.put, List.setIfInBounds_toArray, List.set_cons_zero, List.set_cons_succ]
      refine late.take (i := 5) [6, 7] (v := ?_) rfl (by kernel_rfl) (by kernel_rfl) (by kernel_rfl) (by kernel_rfl) (fun _ _ _ h => h) (Or.inl ⟨by rfl, ?_⟩) (by assumption) ?_
      rotate_left 1
      · intro w' hSw
        try dsimp only at hSw
        go_simp
        try with_reducible rfl
      try simp only [List.getElem_toArray, List.getElem_cons_zero, List.getElem_cons_succ, Act.put, List.setIfInBounds_toArray, List.set_cons_zero, List.set_cons_succ]
      refine late.ready (rs := [3]) (by kernel_rfl) (by simp) ?_
      refine late.Each.cons rfl (fun K hK => ?_) late.Each.nil
      try simp only [List.getElem_toArray, List.getElem_cons_zero, List.getElem_cons_succ]
      go_simp
      go_at_call 20
      with_reducible refine (HBL.out _ hot.out).mono ?_
      rintro _ W1 ⟨rfl, ho⟩
      replace hot := Lib.hid (hot.out.trans ho)
      clear ho
      try dsimp only
      refine hK.out _ _ (fun _ => HQ.out _ hot.out) (fun hHeld1 => ?_)
      replace hHeld1 := hHeld1 rfl
      clear hK K
      try simp only [List.getElem_toArray, List.getElem_cons_zero, List.getElem_cons_succ, Act.put, List.setIfInBounds_toArray, List.set_cons_zero, List.set_cons_succ]
      refine late.take (i := 6) [7] (v := ?_) rfl (by kernel_rfl) (by kernel_rfl) (by kernel_rfl) (by kernel_rfl) (fun _ _ _ h => h) (Or.inl ⟨by rfl, ?_⟩) (by assumption) ?_
      rotate_left 1
      · intro w' hSw
        try dsimp only at hSw
        go_simp
        try with_reducible rfl
      try simp only [List.getElem_toArray, List.getElem_cons_zero, List.getElem_cons_succ, Act.put, List.setIfInBounds_toArray, List.set_cons_zero, List.set_cons_succ]
      refine late.take (i := 7) [] (v := ?_) rfl (by kernel_rfl) (by kernel_rfl) (by kernel_rfl) (by kernel_rfl) (fun _ _ _ h => h) (Or.inl ⟨by rfl, ?_⟩) (by assumption) ?_
      rotate_left 1
      · intro w' hSw
        try dsimp only at hSw
        go_simp
        try with_reducible rfl
      try simp only [List.getElem_toArray, List.getElem_cons_zero, List.getElem_cons_succ, Act.put, List.setIfInBounds_toArray, List.set_cons_zero, List.set_cons_succ]
      refine late.done (by kernel_rfl) ?_ _
      refine NoPanic.normal ?_
      have HO9 := Lib.hid (HOA.out.trans hot.out)
      have hwz := HZ.out
      clear hHeld hot HBL HQ HOA
      by_cases g1 : 1152921504606846976 < z
      · exact absurd (HOV.out.2 (Or.inl g1)) (HNV0.out k h8)
      · by_cases g2 : z < -1152921504606846976
        · exact absurd (HOV.out.2 (Or.inr g2)) (HNV0.out k h8)
        · go_wp2_with fail
          go_roundw
          case rel => exact ⟨k + 1, by omega, by go_num, HO9⟩
          case measure => (simp [intOf]; omega)
    · have hge : ¬ (k : Int) < (n : Int) := by omega
      obtain rfl : n = k := by omega
      have d1 := (HQB.out wr HW.out).2
      have HADD := Lib.hid (add_any p op (.slice a0 L.length c0) m nn C b off n cap ls wr (HJ.out wr HW.out) (HM.out wr HW.out) (HRL.out wr HW.out) HPM.out HBP.out (Nat.lt_of_lt_of_le HBL2.out (HO2.out.trans HW.out).size) (by have := HAT.out.nb; omega) hn64)
      go_wp2_with fail
      refine HADD.out.mono ?_
      rintro _ w3 ⟨rfl, mb, nn3, hj3, hm3, ho3, hnn3, hmb3⟩
      have HW2 : Hid (Only (fun _ => False) w wr) := Lib.hid (HO2.out.trans HW.out)
      have HW3 : Hid (Only (fun x => x = p ∨ m = some x) w w3) := Lib.hid ((HW2.out.mono (fun _ _ f => f.elim)).trans ho3)
      have HNN3 := Lib.hid hnn3
      have HMP3 := Lib.hid hm3
      have HMBS : Hid (m = some mb ∨ w.heap.size ≤ mb) := Lib.hid (hmb3.imp (fun x => x) (fun e => Nat.le_trans HW2.out.size e))
      have HMBN : Hid (mb ≠ p ∧ (.slice a0 L.length c0 : Value).ownBlock ≠ some mb) := Lib.hid (HMBS.out.elim (fun e => (HAT.out.sm mb e).2) (fun e => ⟨by have := HAT.out.lt; omega, fun e2 => by have := HAT.out.own.lt e2; omega⟩))
      have HJ3 : Hid (∀ w', Only (fun _ => False) w3 w' → JnC w' p (.slice a0 L.length c0) op (some mb)) := Lib.hid (fun w' ho => hj3.only ho (fun f => f))
      have HOW : Hid (∀ w', Only (fun _ => False) w3 w' → OwnP w' (.slice a0 L.length c0) L) := Lib.hid (fun w' ho => (HAT.out.own.only HW3.out (fun k e q => q.elim (fun q => HAT.out.np (by rw [e, q])) (fun q => (HAT.out.sm k q).2.2 e))).only ho (fun _ _ f => f))
      have HS : Hid (∀ w', Only (fun _ => False) w3 w' → w'.cell? ⟨p, 0, none⟩ = some (.slice a0 L.length c0) ∧ w'.cell? ⟨p, 1, none⟩ = some (.int .i64 (op : Int)) ∧ w'.cell? ⟨q, 0, none⟩ = some (.int .i64 kind) ∧ w'.cell? ⟨q, 1, none⟩ = some (.slice (some ⟨b, off, none⟩) n cap)) := Lib.hid (fun w' ho => by
        obtain ⟨t0, t1⟩ := HQB.out wr HW.out
        have hq : ¬ (q = p ∨ m = some q) := fun e => e.elim (fun e => by have := HAT.out.lt; have := HQW.out; omega) (fun e => by have := HAT.out.mp.lt e; have := HQW.out; omega)
        exact ⟨(HJ3.out w' ho).c0, (HJ3.out w' ho).c1, ho.cell' (ho3.cell' t0 hq) (fun f => f), ho.cell' (ho3.cell' t1 hq) (fun f => f)⟩)
      have HCP : Hid (∀ w', Only (fun _ => False) w3 w' → _) := Lib.hid (fun w' (ho : Only (fun _ => False) w3 w') => copied_any kind b off n cap ls w' (((HRL.out wr HW.out).only ho3 (fun y e q => by
        cases e
        rcases q with q | q
        · exact HBP.out q
        · exact (HPM.out _ q).2 rfl)).only ho (fun _ _ f => f)) (by omega) (by omega))
      have hbp := run_buildQ
      clear d1 HADD ho3 hj3 hm3 hnn3 hmb3 hge
      go_upto_region 16 with fail
      refine wp_region_noPanic ?_
      refine late.region (fun w' => w'.cell? ⟨p, 0, none⟩ = some (.slice a0 L.length c0) ∧ w'.cell? ⟨p, 1, none⟩ = some (.int .i64 (op : Int)) ∧ w'.cell? ⟨q, 0, none⟩ = some (.int .i64 kind) ∧ w'.cell? ⟨q, 1, none⟩ = some (.slice (some ⟨b, off, none⟩) n cap)) (fun j => [16].contains j) (by kernel_rfl) (HS.out _ (Only.refl _ _).drew) (fun hHeld => ?_)
      obtain ⟨z0, hz0⟩ : ∃ x, x = w3.drew := ⟨_, rfl⟩
      rw [← hz0] at hHeld ⊢
      have hot : Hid (Only (fun _ => False) w3 z0) := Lib.hid (by rw [hz0]; exact (Only.refl _ _).drew)
      clear hz0
      refine late.take (i := 0) [14, 15, 16] (v := ?_) rfl (by kernel_rfl) (by kernel_rfl) (by kernel_rfl) (by kernel_rfl) (fun _ _ _ h => h) (Or.inl ⟨by rfl, ?_⟩) (by assumption) ?_
      rotate_left 1
      · intro w' hSw
        try dsimp only at hSw
        go_simp
        try with_reducible rfl
      try simp only [List.getElem_toArray, List.getElem_cons_zero, Act.put, List.setIfInBounds_toArray, List.set_cons_zero, List.set_cons_succ]
      refine late.take (i := 1) [2, 3, 4, 13, 14, 15, 16] (v := ?_) rfl (by kernel_rfl) (by kernel_rfl) (by kernel_rfl) (by kernel_rfl) (fun _ _ _ h => h) (Or.inl ⟨by rfl, ?_⟩) (by assumption) ?_
      rotate_left 1
      · intro w' hSw
        try dsimp only at hSw
        go_simp
        try with_reducible rfl
      try simp only [List.getElem_toArray, List.getElem_cons_zero, List.getElem_cons_succ, Act.put, List.setIfInBounds_toArray, List.set_cons_zero, List.set_cons_succ]
      refine late.take (i := 2) [3, 4, 13, 14, 15, 16] (v := ?_) rfl (by kernel_rfl) (by kernel_rfl) (by kernel_rfl) (by kernel_rfl) (fun _ _ _ h => h) (Or.inl ⟨by rfl, ?_⟩) (by assumption) ?_
      rotate_left 1
      · intro w' hSw
        try dsimp only at hSw
        go_simp
        try with_reducible rfl
      try simp only [List.getElem_toArray, List.getElem_cons_zero, List.getElem_cons_succ, Act.put, List.setIfInBounds_toArray, List.set_cons_zero, List.set_cons_succ]
      refine late.take (i := 3) [4, 13, 14, 15, 16] (v := ?_) rfl (by kernel_rfl) (by kernel_rfl) (by kernel_rfl) (by kernel_rfl) (fun _ _ _ h => h) (Or.inl ⟨by rfl, ?_⟩) (by assumption) ?_
      rotate_left 1
      · intro w' hSw
        try dsimp only at hSw
        go_simp
        try with_reducible rfl
      try simp only [List.getElem_toArray, List.getElem_cons_zero, List.getElem_cons_succ, Act.put, List.setIfInBounds_toArray, List.set_cons_zero, List.set_cons_succ]
      refine late.take (i := 4) [13, 14, 15, 16] (v := ?_) rfl (by kernel_rfl) (by kernel_rfl) (by kernel_rfl) (by kernel_rfl) (fun _ _ _ h => h) (Or.inl ⟨by rfl, ?_⟩) (by assumption) ?_
      rotate_left 1
      · intro w' hSw
        try dsimp only at hSw
        go_simp
        try with_reducible rfl
      try simp only [List.getElem_toArray, List.getElem_cons_zero, List.getElem_cons_succ, Act.put, List.setIfInBounds_toArray, List.set_cons_zero, List.set_cons_succ]
      refine late.take (i := 5) [6, 11, 12, 13, 14, 15, 16] (v := ?_) rfl (by kernel_rfl) (by kernel_rfl) (by kernel_rfl) (by kernel_rfl) (fun _ _ _ h => h) (Or.inl ⟨by rfl, ?_⟩) (by assumption) ?_
      rotate_left 1
      · intro w' hSw
        try dsimp only at hSw
        go_simp
        try with_reducible rfl
      try simp only [List.getElem_toArray, List.getElem_cons_zero, List.getElem_cons_succ, Act.put, List.setIfInBounds_toArray, List.set_cons_zero, List.set_cons_succ]
      refine late.take (i := 7) [8, 9, 10, 11, 12, 13, 14, 15, 16] (v := ?_) rfl (by kernel_rfl) (by kernel_rfl) (by kernel_rfl) (by kernel_rfl) (fun _ _ _ h => h) (Or.inl ⟨by rfl, ?_⟩) (by assumption) ?_
      rotate_left 1
      · intro w' hSw
        try dsimp only at hSw
        go_simp
        try with_reducible rfl
      try simp only [List.getElem_toArray, List.getElem_cons_zero, List.getElem_cons_succ, Act.put, List.setIfInBounds_toArray, List.set_cons_zero, List.set_cons_succ]
      refine late.take (i := 8) [9, 10, 11, 12, 13, 14, 15, 16] (v := ?_) rfl (by kernel_rfl) (by kernel_rfl) (by kernel_rfl) (by kernel_rfl) (fun _ _ _ h => h) (Or.inl ⟨by rfl, ?_⟩) (by assumption) ?_
      rotate_left 1
      · intro w' hSw
        try dsimp only at hSw
        go_simp
        try with_reducible rfl
      try simp only [List.getElem_toArray, List.getElem_cons_zero, List.getElem_cons_succ, Act.put, List.setIfInBounds_toArray, List.set_cons_zero, List.set_cons_succ]
      refine late.take (i := 9) [10, 11, 12, 13, 14, 15, 16] (v := ?_) rfl (by kernel_rfl) (by kernel_rfl) (by kernel_rfl) (by kernel_rfl) (fun _ _ _ h => h) (Or.inl ⟨by rfl, ?_⟩) (by assumption) ?_
      rotate_left 1
      · intro w' hSw
        try dsimp only at hSw
        go_simp
        try with_reducible rfl
      try simp only [List.getElem_toArray, List.getElem_cons_zero, List.getElem_cons_succ, Act.put, List.setIfInBounds_toArray, List.set_cons_zero, List.set_cons_succ]
      refine late.take (i := 10) [11, 12, 13, 14, 15, 16] (v := ?_) rfl (by kernel_rfl) (by kernel_rfl) (by kernel_rfl) (by kernel_rfl) (fun _ _ _ h => h) (Or.inl ⟨by rfl, ?_⟩) (by assumption) ?_
      rotate_left 1
      · intro w' hSw
        try dsimp only at hSw
        go_simp
        try with_reducible rfl
      try simp only [List.getElem_toArray, List.getElem_cons_zero, List.getElem_cons_succ, Act.put, List.setIfInBounds_toArray, List.set_cons_zero, List.set_cons_succ]
      refine late.ready (rs := [6]) (by kernel_rfl) (by simp) ?_
      refine late.Each.cons rfl (fun K hK => ?_) late.Each.nil
      try simp only [List.getElem_toArray, List.getElem_cons_zero, List.getElem_cons_succ]
      go_simp
      go_at_call 35
      with_reducible refine (HCP.out _ hot.out).mono ?_
      rintro _ W1 ⟨g, cp, rfl, hrd, hg, ho⟩
      have HRD := Lib.hid hrd
      have HGL : Hid (g < W1.heap.size) := Lib.hid (readsL_lt hrd (by omega))
      have HGW : Hid (w3.heap.size ≤ g) := Lib.hid (Nat.le_trans hot.out.size hg)
      replace hot := Lib.hid (hot.out.trans ho)
      clear ho hrd hg
      try dsimp only
      refine hK.out _ _ (fun _ => HS.out _ hot.out) (fun hHeld1 => ?_)
      replace hHeld1 := hHeld1 rfl
      clear hK K
      try simp only [List.getElem_toArray, List.getElem_cons_zero, List.getElem_cons_succ, Act.put, List.setIfInBounds_toArray, List.set_cons_zero, List.set_cons_succ]
      refine late.take (i := 11) [12, 13, 14, 15, 16] (v := ?_) rfl (by kernel_rfl) (by kernel_rfl) (by kernel_rfl) (by kernel_rfl) (fun _ _ _ h => h) (Or.inl ⟨by rfl, ?_⟩) (by assumption) ?_
      rotate_left 1
      · intro w' hSw
        try dsimp only at hSw
        go_simp
        try with_reducible rfl
      try simp only [List.getElem_toArray, List.getElem_cons_zero, List.getElem_cons_succ, Act.put, List.setIfInBounds_toArray, List.set_cons_zero, List.set_cons_succ]
      refine late.ready (rs := [12]) (by kernel_rfl) (by simp) ?_
      refine late.Each.cons rfl (fun K hK => ?_) late.Each.nil
      try simp only [List.getElem_toArray, List.getElem_cons_zero, List.getElem_cons_succ]
      go_simp
      obtain ⟨w9, hw9⟩ : ∃ x, x = W1 := ⟨_, rfl⟩
      rw [← hw9] at hot HRD HGL ⊢
      clear hw9
      obtain ⟨W2, hW2⟩ : ∃ x, x = w9.alloc (.cells #[.int .i64 kind, .slice (some ⟨g, 0, none⟩) n cp, .int .i64 (op : Int)] 86) := ⟨_, rfl⟩
      obtain ⟨g2, hg2⟩ : ∃ x, x = w9.heap.size := ⟨_, rfl⟩
      rw [← hW2, ← hg2]
      have hal : Only (fun _ => False) w9 W2 := by rw [hW2]; exact (Only.refl _ _).alloc _
      have HNW : Hid (∀ j u, (encP ⟨kind, g, n, cp, op, ls⟩)[j]? = some u → W2.cell? ⟨g2, j, none⟩ = some u) := Lib.hid (fun j u hu => by
        rw [hW2, hg2, Go.Joins.cell_of_block (cs := #[.int .i64 kind, .slice (some ⟨g, 0, none⟩) n cp, .int .i64 (op : Int)]) (t := 86) (fr := (0, 0)) (by rw [heap_alloc, if_pos rfl])]
        rw [← hu]; simp [encP])
      have H9 := Lib.hid hot.out
      have HAL := Lib.hid hal
      have HSZ : Hid (w9.heap.size ≤ W2.heap.size) := Lib.hid hal.size
      replace hot := Lib.hid (hot.out.trans hal)
      clear hW2 hg2 hal
      refine hK.out _ _ (fun _ => HS.out _ hot.out) (fun hHeld2 => ?_)
      replace hHeld2 := hHeld2 rfl
      clear hK K
      try simp only [List.getElem_toArray, List.getElem_cons_zero, List.getElem_cons_succ, Act.put, List.setIfInBounds_toArray, List.set_cons_zero, List.set_cons_succ]
      refine late.ready (rs := [13]) (by kernel_rfl) (by simp) ?_
      refine late.Each.cons rfl (fun K hK => ?_) late.Each.nil
      refine step_post (a := { tmps := _, defers := _ }) rfl _ _ rfl _ L rfl (HOW.out _ hot.out) g2 1 ⟨kind, g, n, cp, op, ls⟩ rfl HNW.out (by omega) ?_
      rintro v3 W3 hown hgrow hkk
      obtain ⟨gq, bc, hvf, -, -, hbc, -⟩ := owns_form hown (by simp)
      have hl1 : (L ++ [(⟨kind, g, n, cp, op, ls⟩ : Ps)]).length = L.length + 1 := by simp
      rw [hl1] at hvf hbc
      subst hvf
      have hgo := Only.of_grown hgrow
      obtain ⟨s0, s1, s2, s3⟩ := HS.out _ hot.out
      have d0 := hgo.cell' s0 (fun e => HNP.out e)
      have f0 : W3.frozen? ⟨p, 0, none⟩ = false := (hgo.frozen (p := ⟨p, 0, none⟩) (World.block_lt_of_cell? _ _ s0) (fun e => HNP.out e)).trans (HJ3.out _ hot.out).f0
      have HOW12 := Lib.hid hown
      have HKK : Hid (∀ k, (.slice (some ⟨gq, 0, none⟩) (L.length + 1) bc : Value).ownBlock = some k → (.slice a0 L.length c0 : Value).ownBlock = some k ∨ w9.heap.size ≤ k) := Lib.hid (fun k e => (hkk k e).imp (fun x => x) (fun e2 => Nat.le_trans HSZ.out e2))
      have HG9 : Hid (Only (fun x => x = p ∨ (.slice a0 L.length c0 : Value).ownBlock = some x) w9 W3) := Lib.hid ((HAL.out.mono (fun _ _ f => f.elim)).trans (hgo.mono (fun k _ e => .inr e)))
      have HJ12 : Hid (W3.cell? ⟨p, 1, none⟩ = some (.int .i64 (op : Int)) ∧ W3.cell? ⟨p, 2, none⟩ = some (.map (some mb)) ∧ W3.frozen? ⟨p, 1, none⟩ = false ∧ W3.frozen? ⟨p, 2, none⟩ = false) := Lib.hid ⟨hgo.cell' s1 (fun e => HNP.out e), hgo.cell' (HJ3.out _ hot.out).c2 (fun e => HNP.out e), (hgo.frozen (p := ⟨p, 1, none⟩) (World.block_lt_of_cell? _ _ s1) (fun e => HNP.out e)).trans (HJ3.out _ hot.out).f1, (hgo.frozen (p := ⟨p, 2, none⟩) (World.block_lt_of_cell? _ _ (HJ3.out _ hot.out).c2) (fun e => HNP.out e)).trans (HJ3.out _ hot.out).f2⟩
      have HQ12 : Hid (W3.cell? ⟨q, 0, none⟩ = some (.int .i64 kind) ∧ W3.cell? ⟨q, 1, none⟩ = some (.slice (some ⟨b, off, none⟩) n cap)) := Lib.hid ⟨hgo.cell' s2 (fun e => by have h1 : q < w.heap.size := HAT.out.own.lt e; have := HQW.out; omega), hgo.cell' s3 (fun e => by have h1 : q < w.heap.size := HAT.out.own.lt e; have := HQW.out; omega)⟩
      have hl1z : IntKind.i64.wrap (((L.length + 1 : Nat) : Int) - 1) = (L.length : Int) := by rw [IntKind.wrap_i64]; omega
      clear hown hgrow hkk hgo HNW s0 s1 s2 s3
      refine hK.out _ _ (fun _ => ⟨d0, HJ12.out.1, HQ12.out.1, HQ12.out.2⟩) (fun hHeld3 => ?_)
      replace hHeld3 := hHeld3 rfl
      clear hK K
      try simp only [List.getElem_toArray, List.getElem_cons_zero, List.getElem_cons_succ, Act.put, List.setIfInBounds_toArray, List.set_cons_zero, List.set_cons_succ]
      refine late.take (i := 14) [15, 16] (v := ?_) rfl (by kernel_rfl) (by kernel_rfl) (by kernel_rfl) (by kernel_rfl) (fun _ _ _ h => h) (Or.inl ⟨by rfl, ?_⟩) (by assumption) ?_
      rotate_left 1
      · intro w' hSw
        try dsimp only at hSw
        go_simp
        try with_reducible rfl
      try simp only [List.getElem_toArray, List.getElem_cons_zero, List.getElem_cons_succ, Act.put, List.setIfInBounds_toArray, List.set_cons_zero, List.set_cons_succ]
      refine late.take (i := 15) [16] (v := ?_) rfl (by kernel_rfl) (by kernel_rfl) (by kernel_rfl) (by kernel_rfl) (fun _ _ _ h => h) (Or.inl ⟨by rfl, ?_⟩) (by assumption) ?_
      rotate_left 1
      · intro w' hSw
        try dsimp only at hSw
        go_simp
        try with_reducible rfl
      try simp only [List.getElem_toArray, List.getElem_cons_zero, List.getElem_cons_succ, Act.put, List.setIfInBounds_toArray, List.set_cons_zero, List.set_cons_succ]
      refine late.ready (rs := [16]) (by kernel_rfl) (by simp) ?_
      refine late.Each.cons rfl (fun K hK => ?_) late.Each.nil
      try simp only [List.getElem_toArray, List.getElem_cons_zero, List.getElem_cons_succ]
      go_simp
      refine hK.out _ _ (fun h => by cases h) (fun _ => ?_)
      clear hK K
      try simp only [List.getElem_toArray, List.getElem_cons_zero, List.getElem_cons_succ, Act.put, List.setIfInBounds_toArray, List.set_cons_zero, List.set_cons_succ]
      refine late.done (by kernel_rfl) ?_ _
      refine NoPanic.normal ?_
      obtain ⟨w5, hw5⟩ : ∃ x, x = W3.setCell ⟨p, 0, none⟩ (.slice (some ⟨gq, 0, none⟩) (L.length + 1) bc : Value) := ⟨_, rfl⟩
      have e0 : w5.cell? ⟨p, 0, none⟩ = some (.slice (some ⟨gq, 0, none⟩) (L.length + 1) bc : Value) := by rw [hw5]; exact cell_same d0
      have ef : w5.frozen? ⟨p, 0, none⟩ = false := by rw [hw5]; exact frozen_set.trans f0
      have HJN : Hid (JnC w5 p (.slice (some ⟨gq, 0, none⟩) (L.length + 1) bc : Value) op (some mb)) := Lib.hid ⟨e0, by rw [hw5, cell_other (fun e => by injection e with _ e _; omega)]; exact HJ12.out.1, by rw [hw5, cell_other (fun e => by injection e with _ e _; omega)]; exact HJ12.out.2.1, ef, by rw [hw5]; exact frozen_set.trans HJ12.out.2.2.1, by rw [hw5]; exact frozen_set.trans HJ12.out.2.2.2, (HJ3.out w3 (Only.refl _ _)).le⟩
      have HNP9 : Hid ((.slice (some ⟨gq, 0, none⟩) (L.length + 1) bc : Value).ownBlock ≠ some p) := Lib.hid (fun e => (HKK.out p e).elim (fun e => HNP.out e) (fun e => by have := H9.out.size; have := HW3.out.size; have := HAT.out.lt; omega))
      have HOW5 : Hid (OwnP w5 (.slice (some ⟨gq, 0, none⟩) (L.length + 1) bc : Value) (L ++ [⟨kind, g, n, cp, op, ls⟩])) := Lib.hid (by rw [hw5]; have h := HOW12.out.only (Only.set (fun x => x = p) _ p 0 (.slice (some ⟨gq, 0, none⟩) (L.length + 1) bc : Value) rfl) (fun k e e2 => HNP9.out (by rw [e, e2])); exact h)
      have HG5 : Hid (Only (fun x => x = p ∨ (.slice a0 L.length c0 : Value).ownBlock = some x) w9 w5) := Lib.hid (HG9.out.trans (by rw [hw5]; exact Only.set _ _ p 0 _ (.inl rfl)))
      have HW9 : Hid (Only (fun x => x = p ∨ m = some x) w w9) := Lib.hid (HW3.out.trans (H9.out.mono (fun _ _ f => f.elim)))
      have HMB9 : Hid (MapA w5 mb nn3 (addC C op ls)) := Lib.hid ((HMP3.out.only H9.out (fun f => f)).only HG5.out (fun e => e.elim (fun e => HMBN.out.1 e) (fun e => HMBN.out.2 e)))
      have HEND : Hid (JnAt (fun x => S x ∨ w.heap.size ≤ x) w5 p (.slice (some ⟨gq, 0, none⟩) (L.length + 1) bc : Value) op (some mb) nn3 (addC C op ls) (L ++ [⟨kind, g, n, cp, op, ls⟩])) := Lib.hid ⟨HJN.out, HMB9.out, HOW5.out, HNP9.out, .inl HAT.out.sp, (fun k e => (HKK.out k e).elim (fun e => .inl (HAT.out.sv k e)) (fun e => .inr (by have := HW9.out.size; omega))), (fun x e => by
        injection e with e
        subst e
        refine ⟨HMBS.out.elim (fun e => .inl (HAT.out.sm _ e).1) (fun e => .inr e), HMBN.out.1, fun e => ?_⟩
        rcases HKK.out _ e with e | e
        · exact HMBN.out.2 e
        · have := HMP3.out.lt
          have := H9.out.size
          omega), by rw [hl1]; have := HAT.out.nb; have := HNN3.out; omega, by rw [hl1]; omega,
        ps_more HAT.out HW9.out HG5.out HKK.out HMBS.out HRD.out HCZ.out (Nat.le_refl _) (by have := HGW.out; have := HW3.out.size; show w.heap.size ≤ g; omega) HGL.out (by have := HMP3.out.lt; have := HGW.out; show mb ≠ g; omega)⟩
      have HOS : Hid (Only S w w5) := Lib.hid ((HW9.out.mono (fun k hk e => e.elim (fun e => by rw [e]; exact HAT.out.sp) (fun e => (HAT.out.sm k e).1))).then HG5.out (fun k hk e => e.elim (fun e => by rw [e]; exact HAT.out.sp) (fun e => HAT.out.sv k e)))
      rw [← hw5]
      clear hw5 hHeld d0 f0 ef HOW12 HG9 hot HS HAL HSZ HRD HGL HJ12 HMB9 HOW5 HNP9 HJN
      go_wp2_with fail
      go_ret2
      exact ⟨rfl, _, _, _, _, _, HEND.out, HOS.out⟩
end Go.Proofs.Ytdjiljkdnpmilaa.jnw
