/- The journal's Post: of what goes too far. -/
import Derived.Test.YtdjiljkdnpmilaaJnE
namespace Go.Proofs.Ytdjiljkdnpmilaa.jnw
open Go.RowKit mem accm accn entw entm
set_option linter.unusedVariables false

/-- the balance of a leg's account would go too far -/
def overL (C : Ac → Option (List Int)) (l : Lg) : Prop := 1152921504606846976 < wrap64 (wrap64 (((C (lgA l)).getD noughts).sum) + l.a) ∨ wrap64 (wrap64 (((C (lgA l)).getD noughts).sum) + l.a) < -1152921504606846976
theorem below_succ {P : Nat → Prop} {k : Nat} (h : ∀ j, j < k → P j) (hk : P k) : ∀ j, j < k + 1 → P j := by
  intro j hj
  by_cases e : j = k
  · rw [e]; exact hk
  · exact h j (by omega)
set_option maxRecDepth 100000 in
set_option maxHeartbeats 4000000 in
theorem post_over (p op : Nat) (a0 : Option Addr) (n0 c0 : Nat) (m : Option Nat) (nn : Nat) (C : Ac → Option (List Int)) (kind : Int) (a : Option Addr) (n cap : Nat) (ls : List Lg) (w : World) (h : JnC w p (.slice a0 n0 c0) op m) (hm : MapN w m nn C) (hr : ReadsL w a n ls) (hc : chk kind ls = 0) (hn0 : n0 < 16384)
    (hex : ∃ j, j < n ∧ overL C (ls.getD j default)) :
    Calls Try.prog 13 #[.pointer (some ⟨p, 0, none⟩), .agg #[.int .i64 kind, .slice a n cap]] w fun e w' => e = .returned (.tuple #[.int .i64 0, .int .i64 6]) ∧ Only (fun _ => False) w w' := by
  obtain ⟨w1, hw1⟩ : ∃ x, x = w.alloc (.cells #[.int .i64 kind, .slice a n cap] 25) := ⟨_, rfl⟩
  obtain ⟨q, hq⟩ : ∃ x, x = w.heap.size := ⟨_, rfl⟩
  have ho1 : Only (fun _ => False) w w1 := by rw [hw1]; exact (Only.refl _ w).alloc _
  have c0 : w1.cell? ⟨q, 0, none⟩ = some (.int .i64 kind) := by rw [hw1]; exact alloc_new _ _ _ _ _ _ hq rfl
  have c1 : w1.cell? ⟨q, 1, none⟩ = some (.slice a n cap) := by rw [hw1]; exact alloc_new _ _ _ _ _ _ hq rfl
  have HO1 := Lib.hid ho1
  have hck := check_any kind a n cap ls w1 (hr.only ho1 (fun _ _ f => f))
  rw [hc] at hck
  have HCK := Lib.hid hck
  have HEX := Lib.hid hex
  have hn64 : n ≤ 64 := by have := ((chk_ok kind ls).1 hc).2.1; have := hr.1; omega
  have HLN : Hid (n = ls.length) := Lib.hid hr.1.symm
  have HJ0 := Lib.hid h
  have HM0 := Lib.hid hm
  have HR0 := Lib.hid hr
  clear hr hc ho1 hck hex h hm
  go_enter Try.func13, Try.ntmps13
  go_upto_region 3 with fail
  simp only [← hw1, ← hq]
  clear hw1 hq
  go_wp2_with fail
  refine HCK.out.mono ?_
  rintro _ w2 ⟨rfl, ho⟩
  have HO2 := Lib.hid (HO1.out.trans ho)
  have d0 := ho.cell' c0 (fun f => f)
  have d1 := ho.cell' c1 (fun f => f)
  have e0 := (HJ0.out.only HO2.out (fun f => f)).c0
  have hnb : ¬ (16384 : Int) ≤ (n0 : Int) := by omega
  clear ho HCK c0 c1
  go_wp2_with fail
  obtain ⟨v, hv⟩ : ∃ v, v = Value.slice a0 n0 c0 := ⟨_, rfl⟩
  have HJ : Hid (∀ w', Only (fun _ => False) w2 w' → JnC w' p v op m) := Lib.hid (fun w' ho => by rw [hv]; exact HJ0.out.only (HO2.out.trans ho) (fun f => f))
  have HM : Hid (∀ w', Only (fun _ => False) w2 w' → MapN w' m nn C) := Lib.hid (fun w' ho => HM0.out.only (HO2.out.trans ho) (fun _ _ f => f))
  have HRL : Hid (∀ w', Only (fun _ => False) w2 w' → ReadsL w' a n ls) := Lib.hid (fun w' ho => HR0.out.only (HO2.out.trans ho) (fun _ _ f => f))
  clear d0 d1 e0 hv hn0 hnb HJ0 HM0 HR0 HO1
  go_loopw [26] (fun i wr => ∃ k : Nat, k ≤ n ∧ i = .int .i64 k ∧ (∀ j, j < k → ¬ overL C (ls.getD j default)) ∧ Hid (Only (fun _ => False) w2 wr)) (fun i _ => n - (intOf i).toNat)
  case atStart => exact ⟨0, by omega, rfl, fun j hj => absurd hj (by omega), Lib.hid (Only.refl _ _)⟩
  case round =>
    obtain ⟨k, hk, rfl, hno, HW⟩ := hrel
    have HNO := Lib.hid hno
    clear hno
    rename World => wr
    by_cases h8 : k < n
    · obtain ⟨b, off, rfl, hc⟩ := (HRL.out wr HW.out).2.2.2.resolve_left (by omega)
      obtain ⟨c0, c1, c2, c3⟩ := hc k h8
      have hin := (HRL.out wr HW.out).2.2.1 _ (getL_mem ls k (by rw [← HLN.out]; exact h8))
      obtain ⟨⟨xk, xn, xg, xa⟩, hle⟩ : ∃ x, ls.getD k default = x := ⟨_, rfl⟩
      have HLE := Lib.hid hle
      rw [hle] at c0 c1 c2 c3 hin
      dsimp only at c0 c1 c2 c3
      have HIA : Hid (InA ⟨xk, xn, xg⟩) := Lib.hid (lgA_in hin)
      have hk0 : (0 : Int) ≤ (k : Int) := by omega
      have hkm : (k : Int) < (n : Int) := by omega
      clear hc hle hin
      obtain ⟨wa, hwa⟩ : ∃ x, x = wr.alloc (.cells #[.int .i64 xk, .int .i64 xn, .int .i64 xg, .int .i64 xa] 40) := ⟨_, rfl⟩
      obtain ⟨q5, hq5⟩ : ∃ x, x = wr.heap.size := ⟨_, rfl⟩
      have HOA : Hid (Only (fun _ => False) w2 wa) := Lib.hid (by rw [hwa]; exact HW.out.alloc _)
      have HQ : Hid (∀ w', Only (fun _ => False) wa w' → w'.cell? ⟨q5, 0, none⟩ = some (.int .i64 xk) ∧ w'.cell? ⟨q5, 1, none⟩ = some (.int .i64 xn) ∧ w'.cell? ⟨q5, 2, none⟩ = some (.int .i64 xg) ∧ w'.cell? ⟨q5, 3, none⟩ = some (.int .i64 xa)) := Lib.hid (fun w' ho =>
        ⟨ho.cell' (by rw [hwa]; exact alloc_new _ _ _ _ _ _ hq5 rfl) (fun f => f), ho.cell' (by rw [hwa]; exact alloc_new _ _ _ _ _ _ hq5 rfl) (fun f => f), ho.cell' (by rw [hwa]; exact alloc_new _ _ _ _ _ _ hq5 rfl) (fun f => f), ho.cell' (by rw [hwa]; exact alloc_new _ _ _ _ _ _ hq5 rfl) (fun f => f)⟩)
      have HBL : Hid (∀ w', Only (fun _ => False) wa w' → _) := Lib.hid (fun w' (ho : Only (fun _ => False) wa w') => bal_any p op v m nn C xk xn xg HIA.out w' (HJ.out w' (HOA.out.trans ho)) (HM.out w' (HOA.out.trans ho)))
      obtain ⟨y, hy⟩ : ∃ x, x = wrap64 (((C ⟨xk, xn, xg⟩).getD noughts).sum) := ⟨_, rfl⟩
      rw [← hy] at HBL
      obtain ⟨z, hz⟩ : ∃ x, x = wrap64 (y + xa) := ⟨_, rfl⟩
      have HZ : Hid (IntKind.i64.wrap (y + xa) = z) := Lib.hid (by rw [hz, IntKind.wrap_i64]; simp only [wrap64])
      have HOV : Hid (overL C (ls.getD k default) ↔ 1152921504606846976 < z ∨ z < -1152921504606846976) := Lib.hid (by rw [HLE.out, hz, hy]; exact Iff.rfl)
      clear hy hz
      go_upto_region 11 with fail
      simp only [← hwa, ← hq5]
      clear hwa hq5 c0 c1 c2 c3
      refine wp_region_noPanic ?_
      refine late.region (fun w' => w'.cell? ⟨q5, 0, none⟩ = some (.int .i64 xk) ∧ w'.cell? ⟨q5, 1, none⟩ = some (.int .i64 xn) ∧ w'.cell? ⟨q5, 2, none⟩ = some (.int .i64 xg) ∧ w'.cell? ⟨q5, 3, none⟩ = some (.int .i64 xa)) (fun j => [].contains j) (by kernel_rfl) (HQ.out _ (Only.refl _ _).drew) (fun hHeld => ?_)
      obtain ⟨z0, hz0⟩ : ∃ x, x = wa.drew := ⟨_, rfl⟩
      rw [← hz0] at hHeld ⊢
      have hot : Hid (Only (fun _ => False) wa z0) := Lib.hid (by rw [hz0]; exact (Only.refl _ _).drew)
      clear hz0
      refine late.take (i := 0) [3, 6, 7] (v := ?_) rfl (by kernel_rfl) (by kernel_rfl) (by kernel_rfl) (by kernel_rfl) (fun _ _ _ h => h) (Or.inl ⟨by rfl, ?_⟩) (by assumption) ?_
      rotate_left 1
      · intro w' hSw
        try dsimp only at hSw
        go_simp
        try with_reducible rfl
      try simp only [List.getElem_toArray, List.getElem_cons_zero, Act.put, List.setIfInBounds_toArray, List.set_cons_zero, List.set_cons_succ]
      refine late.take (i := 1) [2, 3, 6, 7] (v := ?_) rfl (by kernel_rfl) (by kernel_rfl) (by kernel_rfl) (by kernel_rfl) (fun _ _ _ h => h) (Or.inl ⟨by rfl, ?_⟩) (by assumption) ?_
      rotate_left 1
      · intro w' hSw
        try dsimp only at hSw
        go_simp
        try with_reducible rfl
      try simp only [List.getElem_toArray, List.getElem_cons_zero, List.getElem_cons_succ, Act.put, List.setIfInBounds_toArray, List.set_cons_zero, List.set_cons_succ]
      refine late.take (i := 2) [3, 6, 7] (v := ?_) rfl (by kernel_rfl) (by kernel_rfl) (by kernel_rfl) (by kernel_rfl) (fun _ _ _ h => h) (Or.inl ⟨by rfl, ?_⟩) (by assumption) ?_
      rotate_left 1
      · intro w' hSw
        try dsimp only at hSw
        go_simp
        try with_reducible rfl
      try simp only [List.getElem_toArray, List.getElem_cons_zero, List.getElem_cons_succ, Act.put, List.setIfInBounds_toArray, List.set_cons_zero, List.set_cons_succ]
      refine late.take (i := 4) [5, 6, 7] (v := ?_) rfl (by kernel_rfl) (by kernel_rfl) (by kernel_rfl) (by kernel_rfl) (fun _ _ _ h => h) (Or.inl ⟨by rfl, ?_⟩) (by assumption) ?_
      rotate_left 1
      · intro w' hSw
        try dsimp only at hSw
        go_simp
        try with_reducible rfl
      try simp only [List.getElem_toArray, List.getElem_cons_zero, List.getElem_cons_succ, Act.put, List.setIfInBounds_toArray, List.set_cons_zero, List.set_cons_succ]
      refine late.take (i := 5) [6, 7] (v := ?_) rfl (by kernel_rfl) (by kernel_rfl) (by kernel_rfl) (by kernel_rfl) (fun _ _ _ h => h) (Or.inl ⟨by rfl, ?_⟩) (by assumption) ?_
      rotate_left 1
      · intro w' hSw
        try dsimp only at hSw
        go_simp
        try with_reducible rfl
      try simp only [List.getElem_toArray, List.getElem_cons_zero, List.getElem_cons_succ, Act.put, List.setIfInBounds_toArray, List.set_cons_zero, List.set_cons_succ]
      refine late.ready (rs := [3]) (by kernel_rfl) (by simp) ?_
      refine late.Each.cons rfl (fun K hK => ?_) late.Each.nil
      try simp only [List.getElem_toArray, List.getElem_cons_zero, List.getElem_cons_succ]
      go_simp
      go_at_call 20
      with_reducible refine (HBL.out _ hot.out).mono ?_
      rintro _ W1 ⟨rfl, ho⟩
      replace hot := Lib.hid (hot.out.trans ho)
      clear ho
      try dsimp only
      refine hK.out _ _ (fun _ => HQ.out _ hot.out) (fun hHeld1 => ?_)
      replace hHeld1 := hHeld1 rfl
      clear hK K
      try simp only [List.getElem_toArray, List.getElem_cons_zero, List.getElem_cons_succ, Act.put, List.setIfInBounds_toArray, List.set_cons_zero, List.set_cons_succ]
      refine late.take (i := 6) [7] (v := ?_) rfl (by kernel_rfl) (by kernel_rfl) (by kernel_rfl) (by kernel_rfl) (fun _ _ _ h => h) (Or.inl ⟨by rfl, ?_⟩) (by assumption) ?_
      rotate_left 1
      · intro w' hSw
        try dsimp only at hSw
        go_simp
        try with_reducible rfl
      try simp only [List.getElem_toArray, List.getElem_cons_zero, List.getElem_cons_succ, Act.put, List.setIfInBounds_toArray, List.set_cons_zero, List.set_cons_succ]
      refine late.take (i := 7) [] (v := ?_) rfl (by kernel_rfl) (by kernel_rfl) (by kernel_rfl) (by kernel_rfl) (fun _ _ _ h => h) (Or.inl ⟨by rfl, ?_⟩) (by assumption) ?_
      rotate_left 1
      · intro w' hSw
        try dsimp only at hSw
        go_simp
        try with_reducible rfl
      try simp only [List.getElem_toArray, List.getElem_cons_zero, List.getElem_cons_succ, Act.put, List.setIfInBounds_toArray, List.set_cons_zero, List.set_cons_succ]
      refine late.done (by kernel_rfl) ?_ _
      refine NoPanic.normal ?_
      have HO9 := Lib.hid (HOA.out.trans hot.out)
      have hwz := HZ.out
      clear hHeld hot HBL HQ HOA
      by_cases g1 : 1152921504606846976 < z
      · go_wp2_with fail
        go_ret2
        exact ⟨rfl, HO2.out.trans HO9.out⟩
      · by_cases g2 : z < -1152921504606846976
        · go_wp2_with fail
          go_ret2
          exact ⟨rfl, HO2.out.trans HO9.out⟩
        · have HNV : Hid (¬ overL C (ls.getD k default)) := Lib.hid (fun h => by rcases HOV.out.1 h with h | h; exact g1 h; exact g2 h)
          go_wp2_with fail
          go_roundw
          case rel => exact ⟨k + 1, by omega, by go_num, below_succ HNO.out HNV.out, HO9⟩
          case measure => (simp [intOf]; omega)
    · have hge : ¬ (k : Int) < (n : Int) := by omega
      obtain rfl : n = k := by omega
      obtain ⟨j, hj, hov⟩ := HEX.out
      exact absurd hov (HNO.out j hj)
end Go.Proofs.Ytdjiljkdnpmilaa.jnw
