/- Several texts together: JnE, JnF, JnG, JnH, JnI, JnQ, JnK. -/
import Derived.Test.YtkbaafgaaiekpaaZ5
import Derived.Test.YtkbaafgaaiekpaaStepApp
import Derived.Test.YtkbaafgaaiekpaaHeldL
import Derived.Test.YtkbaafgaaiekpaaZB
namespace Go.Proofs.Ytkbaafgaaiekpaa.jnw
open Go.RowKit mem accm accn entw entm
set_option linter.unusedVariables false

set_option maxRecDepth 100000 in
set_option maxHeartbeats 2000000 in
theorem post_no (p : Nat) (kind : Int) (a : Option Addr) (n cap : Nat) (ls : List Lg) (w : World) (hr : ReadsL w a n ls) (hc : chk kind ls ≠ 0) :
    Calls Try.prog 31 #[.pointer (some ⟨p, 0, none⟩), .agg #[.int .i64 kind, .slice a n cap]] w fun e w' => e = .returned (.tuple #[.int .i64 0, .int .i64 (chk kind ls)]) ∧ Only (fun _ => False) w w' := by
  obtain ⟨w1, hw1⟩ : ∃ x, x = w.alloc (.cells #[.int .i64 kind, .slice a n cap] 68) := ⟨_, rfl⟩
  obtain ⟨q, hq⟩ : ∃ x, x = w.heap.size := ⟨_, rfl⟩
  have ho1 : Only (fun _ => False) w w1 := by rw [hw1]; exact (Only.refl _ w).alloc _
  have c0 : w1.cell? ⟨q, 0, none⟩ = some (.int .i64 kind) := by rw [hw1]; exact alloc_new _ _ _ _ _ _ hq rfl
  have c1 : w1.cell? ⟨q, 1, none⟩ = some (.slice a n cap) := by rw [hw1]; exact alloc_new _ _ _ _ _ _ hq rfl
  have HO1 := Lib.hid ho1
  have HCK := Lib.hid (check_any kind a n cap ls w1 (hr.only ho1 (fun _ _ f => f)))
  have hcz : (chk kind ls != 0) = true := by simpa using hc
  generalize chk kind ls = e at *
  clear hr hc ho1
  go_enter Try.func31, Try.ntmps31
  go_upto_region 3 with fail
  simp only [← hw1, ← hq]
  clear hw1 hq
  go_wp2_with fail
  refine HCK.out.mono ?_
  rintro _ w2 ⟨rfl, ho⟩
  have HO2 := Lib.hid (HO1.out.trans ho)
  clear ho HCK c0 c1
  go_wp2_with fail
  go_ret2
  exact ⟨rfl, HO2.out⟩
end Go.Proofs.Ytkbaafgaaiekpaa.jnw

namespace Go.Proofs.Ytkbaafgaaiekpaa.jnw
open Go.RowKit mem accm accn entw entm
set_option linter.unusedVariables false

/-- the balance of a leg's account would go too far -/
def overL (C : Ac → Option (List Int)) (l : Lg) : Prop := 1152921504606846976 < wrap64 (wrap64 (((C (lgA l)).getD noughts).sum) + l.a) ∨ wrap64 (wrap64 (((C (lgA l)).getD noughts).sum) + l.a) < -1152921504606846976
theorem below_succ {P : Nat → Prop} {k : Nat} (h : ∀ j, j < k → P j) (hk : P k) : ∀ j, j < k + 1 → P j := by
  intro j hj
  by_cases e : j = k
  · rw [e]; exact hk
  · exact h j (by omega)
set_option maxRecDepth 100000 in
set_option maxHeartbeats 4000000 in
theorem post_over (p op : Nat) (a0 : Option Addr) (n0 c0 : Nat) (m : Option Nat) (nn : Nat) (C : Ac → Option (List Int)) (kind : Int) (a : Option Addr) (n cap : Nat) (ls : List Lg) (w : World) (h : JnC w p (.slice a0 n0 c0) op m) (hm : MapN w m nn C) (hr : ReadsL w a n ls) (hc : chk kind ls = 0) (hn0 : n0 < 16384)
    (hex : ∃ j, j < n ∧ overL C (ls.getD j default)) :
    Calls Try.prog 31 #[.pointer (some ⟨p, 0, none⟩), .agg #[.int .i64 kind, .slice a n cap]] w fun e w' => e = .returned (.tuple #[.int .i64 0, .int .i64 6]) ∧ Only (fun _ => False) w w' := by
  obtain ⟨w1, hw1⟩ : ∃ x, x = w.alloc (.cells #[.int .i64 kind, .slice a n cap] 68) := ⟨_, rfl⟩
  obtain ⟨q, hq⟩ : ∃ x, x = w.heap.size := ⟨_, rfl⟩
  have ho1 : Only (fun _ => False) w w1 := by rw [hw1]; exact (Only.refl _ w).alloc _
  have c0 : w1.cell? ⟨q, 0, none⟩ = some (.int .i64 kind) := by rw [hw1]; exact alloc_new _ _ _ _ _ _ hq rfl
  have c1 : w1.cell? ⟨q, 1, none⟩ = some (.slice a n cap) := by rw [hw1]; exact alloc_new _ _ _ _ _ _ hq rfl
  have HO1 := Lib.hid ho1
  have hck := check_any kind a n cap ls w1 (hr.only ho1 (fun _ _ f => f))
  rw [hc] at hck
  have HCK := Lib.hid hck
  have HEX := Lib.hid hex
  have hn64 : n ≤ 64 := by have := ((chk_ok kind ls).1 hc).2.1; have := hr.1; omega
  have HLN : Hid (n = ls.length) := Lib.hid hr.1.symm
  have HJ0 := Lib.hid h
  have HM0 := Lib.hid hm
  have HR0 := Lib.hid hr
  clear hr hc ho1 hck hex h hm
  go_enter Try.func31, Try.ntmps31
  go_upto_region 3 with fail
  simp only [← hw1, ← hq]
  clear hw1 hq
  go_wp2_with fail
  refine HCK.out.mono ?_
  rintro _ w2 ⟨rfl, ho⟩
  have HO2 := Lib.hid (HO1.out.trans ho)
  have d0 := ho.cell' c0 (fun f => f)
  have d1 := ho.cell' c1 (fun f => f)
  have e0 := (HJ0.out.only HO2.out (fun f => f)).c0
  have hnb : ¬ (16384 : Int) ≤ (n0 : Int) := by omega
  clear ho HCK c0 c1
  go_wp2_with fail
  obtain ⟨v, hv⟩ : ∃ v, v = Value.slice a0 n0 c0 := ⟨_, rfl⟩
  have HJ : Hid (∀ w', Only (fun _ => False) w2 w' → JnC w' p v op m) := Lib.hid (fun w' ho => by rw [hv]; exact HJ0.out.only (HO2.out.trans ho) (fun f => f))
  have HM : Hid (∀ w', Only (fun _ => False) w2 w' → MapN w' m nn C) := Lib.hid (fun w' ho => HM0.out.only (HO2.out.trans ho) (fun _ _ f => f))
  have HRL : Hid (∀ w', Only (fun _ => False) w2 w' → ReadsL w' a n ls) := Lib.hid (fun w' ho => HR0.out.only (HO2.out.trans ho) (fun _ _ f => f))
  clear d0 d1 e0 hv hn0 hnb HJ0 HM0 HR0 HO1
  go_loopw [26] (fun i wr => ∃ k : Nat, k ≤ n ∧ i = .int .i64 k ∧ (∀ j, j < k → ¬ overL C (ls.getD j default)) ∧ Hid (Only (fun _ => False) w2 wr)) (fun i _ => n - (intOf i).toNat)
  case atStart => exact ⟨0, by omega, rfl, fun j hj => absurd hj (by omega), Lib.hid (Only.refl _ _)⟩
  case round =>
    obtain ⟨k, hk, rfl, hno, HW⟩ := hrel
    have HNO := Lib.hid hno
    clear hno
    rename World => wr
    by_cases h8 : k < n
    · obtain ⟨b, off, rfl, hc⟩ := (HRL.out wr HW.out).2.2.2.resolve_left (by omega)
      obtain ⟨c0, c1, c2, c3⟩ := hc k h8
      have hin := (HRL.out wr HW.out).2.2.1 _ (getL_mem ls k (by rw [← HLN.out]; exact h8))
      obtain ⟨⟨xk, xn, xg, xa⟩, hle⟩ : ∃ x, ls.getD k default = x := ⟨_, rfl⟩
      have HLE := Lib.hid hle
      rw [hle] at c0 c1 c2 c3 hin
      dsimp only at c0 c1 c2 c3
      have HIA : Hid (InA ⟨xk, xn, xg⟩) := Lib.hid (lgA_in hin)
      have hk0 : (0 : Int) ≤ (k : Int) := by omega
      have hkm : (k : Int) < (n : Int) := by omega
      clear hc hle hin
      obtain ⟨wa, hwa⟩ : ∃ x, x = wr.alloc (.cells #[.int .i64 xk, .int .i64 xn, .int .i64 xg, .int .i64 xa] 106) := ⟨_, rfl⟩
      obtain ⟨q5, hq5⟩ : ∃ x, x = wr.heap.size := ⟨_, rfl⟩
      have HOA : Hid (Only (fun _ => False) w2 wa) := Lib.hid (by rw [hwa]; exact HW.out.alloc _)
      have HQ : Hid (∀ w', Only (fun _ => False) wa w' → w'.cell? ⟨q5, 0, none⟩ = some (.int .i64 xk) ∧ w'.cell? ⟨q5, 1, none⟩ = some (.int .i64 xn) ∧ w'.cell? ⟨q5, 2, none⟩ = some (.int .i64 xg) ∧ w'.cell? ⟨q5, 3, none⟩ = some (.int .i64 xa)) := Lib.hid (fun w' ho =>
        ⟨ho.cell' (by rw [hwa]; exact alloc_new _ _ _ _ _ _ hq5 rfl) (fun f => f), ho.cell' (by rw [hwa]; exact alloc_new _ _ _ _ _ _ hq5 rfl) (fun f => f), ho.cell' (by rw [hwa]; exact alloc_new _ _ _ _ _ _ hq5 rfl) (fun f => f), ho.cell' (by rw [hwa]; exact alloc_new _ _ _ _ _ _ hq5 rfl) (fun f => f)⟩)
      have HBL : Hid (∀ w', Only (fun _ => False) wa w' → _) := Lib.hid (fun w' (ho : Only (fun _ => False) wa w') => bal_any p op v m nn C xk xn xg HIA.out w' (HJ.out w' (HOA.out.trans ho)) (HM.out w' (HOA.out.trans ho)))
      obtain ⟨y, hy⟩ : ∃ x, x = wrap64 (((C ⟨xk, xn, xg⟩).getD noughts).sum) := ⟨_, rfl⟩
      rw [← hy] at HBL
      obtain ⟨z, hz⟩ : ∃ x, x = wrap64 (y + xa) := ⟨_, rfl⟩
      have HZ : Hid (IntKind.i64.wrap (y + xa) = z) := Lib.hid (by rw [hz, IntKind.wrap_i64]; simp only [wrap64])
      have HOV : Hid (overL C (ls.getD k default) ↔ 1152921504606846976 < z ∨ z < -1152921504606846976) := Lib.hid (by rw [HLE.out, hz, hy]; exact Iff.rfl)
      clear hy hz
      go_upto_region 11 with fail
      simp only [← hwa, ← hq5]
      clear hwa hq5 c0 c1 c2 c3
      refine wp_region_noPanic ?_
      refine late.region (fun w' => w'.cell? ⟨q5, 0, none⟩ = some (.int .i64 xk) ∧ w'.cell? ⟨q5, 1, none⟩ = some (.int .i64 xn) ∧ w'.cell? ⟨q5, 2, none⟩ = some (.int .i64 xg) ∧ w'.cell? ⟨q5, 3, none⟩ = some (.int .i64 xa)) (fun j => [].contains j) (by kernel_rfl) (HQ.out _ (Only.refl _ _).drew) (fun hHeld => ?_)
      obtain ⟨z0, hz0⟩ : ∃ x, x = wa.drew := ⟨_, rfl⟩
      rw [← hz0] at hHeld ⊢
      have hot : Hid (Only (fun _ => False) wa z0) := Lib.hid (by rw [hz0]; exact (Only.refl _ _).drew)
      clear hz0
      refine late.take (i := 0) [3, 6, 7] (v := ?_) rfl (by kernel_rfl) (by kernel_rfl) (by kernel_rfl) (by kernel_rfl) (fun _ _ _ h => h) (Or.inl ⟨by rfl, ?_⟩) (by assumption) ?_
      rotate_left 1
      · intro w' hSw
        try dsimp only at hSw
        go_simp
        try with_reducible rfl
      try simp only [List.getElem_toArray, List.getElem_cons_zero, Act.put, List.setIfInBounds_toArray, List.set_cons_zero, List.set_cons_succ]
      refine late.take (i := 1) [2, 3, 6, 7] (v := ?_) rfl (by kernel_rfl) (by kernel_rfl) (by kernel_rfl) (by kernel_rfl) (fun _ _ _ h => h) (Or.inl ⟨by rfl, ?_⟩) (by assumption) ?_
      rotate_left 1
      · intro w' hSw
        try dsimp only at hSw
        go_simp
        try with_reducible rfl
      try simp only [List.getElem_toArray, List.getElem_cons_zero, List.getElem_cons_succ, Act.put, List.setIfInBounds_toArray, List.set_cons_zero, List.set_cons_succ]
      refine late.take (i := 2) [3, 6, 7] (v := ?_) rfl (by kernel_rfl) (by kernel_rfl) (by kernel_rfl) (by kernel_rfl) (fun _ _ _ h => h) (Or.inl ⟨by rfl, ?_⟩) (by assumption) ?_
      rotate_left 1
      · intro w' hSw
        try dsimp only at hSw
        go_simp
        try with_reducible rfl
      try simp only [List.getElem_toArray, List.getElem_cons_zero, List.getElem_cons_succ, Act.put, List.setIfInBounds_toArray, List.set_cons_zero, List.set_cons_succ]
      refine late.take (i := 4) [5, 6, 7] (v := ?_) rfl (by kernel_rfl) (by kernel_rfl) (by kernel_rfl) (by kernel_rfl) (fun _ _ _ h => h) (Or.inl ⟨by rfl, ?_⟩) (by assumption) ?_
      rotate_left 1
      · intro w' hSw
        try dsimp only at hSw
        go_simp
        try with_reducible rfl
      try simp only [List.getElem_toArray, List.getElem_cons_zero, List.getElem_cons_succ, Act.put, List.setIfInBounds_toArray, List.set_cons_zero, List.set_cons_succ]
      refine late.take (i := 5) [6, 7] (v := ?_) rfl (by kernel_rfl) (by kernel_rfl) (by kernel_rfl) (by kernel_rfl) (fun _ _ _ h => h) (Or.inl ⟨by rfl, ?_⟩) (by assumption) ?_
      rotate_left 1
      · intro w' hSw
        try dsimp only at hSw
        go_simp
        try with_reducible rfl
      try simp only [List.getElem_toArray, List.getElem_cons_zero, List.getElem_cons_succ, Act.put, List.setIfInBounds_toArray, List.set_cons_zero, List.set_cons_succ]
      refine late.ready (rs := [3]) (by kernel_rfl) (by simp) ?_
      refine late.Each.cons rfl (fun K hK => ?_) late.Each.nil
      try simp only [List.getElem_toArray, List.getElem_cons_zero, List.getElem_cons_succ]
      go_simp
      go_at_call 23
      with_reducible refine (HBL.out _ hot.out).mono ?_
      rintro _ W1 ⟨rfl, ho⟩
      replace hot := Lib.hid (hot.out.trans ho)
      clear ho
      try dsimp only
      refine hK.out _ _ (fun _ => HQ.out _ hot.out) (fun hHeld1 => ?_)
      replace hHeld1 := hHeld1 rfl
      clear hK K
      try simp only [List.getElem_toArray, List.getElem_cons_zero, List.getElem_cons_succ, Act.put, List.setIfInBounds_toArray, List.set_cons_zero, List.set_cons_succ]
      refine late.take (i := 6) [7] (v := ?_) rfl (by kernel_rfl) (by kernel_rfl) (by kernel_rfl) (by kernel_rfl) (fun _ _ _ h => h) (Or.inl ⟨by rfl, ?_⟩) (by assumption) ?_
      rotate_left 1
      · intro w' hSw
        try dsimp only at hSw
        go_simp
        try with_reducible rfl
      try simp only [List.getElem_toArray, List.getElem_cons_zero, List.getElem_cons_succ, Act.put, List.setIfInBounds_toArray, List.set_cons_zero, List.set_cons_succ]
      refine late.take (i := 7) [] (v := ?_) rfl (by kernel_rfl) (by kernel_rfl) (by kernel_rfl) (by kernel_rfl) (fun _ _ _ h => h) (Or.inl ⟨by rfl, ?_⟩) (by assumption) ?_
      rotate_left 1
      · intro w' hSw
        try dsimp only at hSw
        go_simp
        try with_reducible rfl
      try simp only [List.getElem_toArray, List.getElem_cons_zero, List.getElem_cons_succ, Act.put, List.setIfInBounds_toArray, List.set_cons_zero, List.set_cons_succ]
      refine late.done (by kernel_rfl) ?_ _
      refine NoPanic.normal ?_
      have HO9 := Lib.hid (HOA.out.trans hot.out)
      have hwz := HZ.out
      clear hHeld hot HBL HQ HOA
      by_cases g1 : 1152921504606846976 < z
      · go_wp2_with fail
        go_ret2
        exact ⟨rfl, HO2.out.trans HO9.out⟩
      · by_cases g2 : z < -1152921504606846976
        · go_wp2_with fail
          go_ret2
          exact ⟨rfl, HO2.out.trans HO9.out⟩
        · have HNV : Hid (¬ overL C (ls.getD k default)) := Lib.hid (fun h => by rcases HOV.out.1 h with h | h; exact g1 h; exact g2 h)
          go_wp2_with fail
          go_roundw
          case rel => exact ⟨k + 1, by omega, by go_num, below_succ HNO.out HNV.out, HO9⟩
          case measure => (simp [intOf]; omega)
    · have hge : ¬ (k : Int) < (n : Int) := by omega
      obtain rfl : n = k := by omega
      obtain ⟨j, hj, hov⟩ := HEX.out
      exact absurd hov (HNO.out j hj)
end Go.Proofs.Ytkbaafgaaiekpaa.jnw

namespace Go.Proofs.Ytkbaafgaaiekpaa.jnw
open Go.RowKit mem accm accn entw entm
set_option linter.unusedVariables false

theorem box_lt {w : World} {q g s : Nat} {v : Value} (h : w.cell? ⟨q, 0, none⟩ = some v) (h1 : w.heap.size ≤ s) (h2 : s ≤ g) : q < g := by
  have : q < w.heap.size := World.block_lt_of_cell? w _ h
  omega
theorem run_buildP (k : Int) (a : Option Addr) (n c : Nat) (w : World) : (Instr.build 68 #[(0, .int .i64 k), (1, .slice a n c)]).run Try.prog w = .ok (.agg #[.int .i64 k, .slice a n c]) w := by kernel_rfl
set_option maxRecDepth 100000 in
set_option maxHeartbeats 2000000 in
theorem copied_any (kind : Int) (b off n cap : Nat) (ls : List Lg) (w : World) (h : ReadsL w (some ⟨b, off, none⟩) n ls) (h1 : 1 ≤ n) (hm : n ≤ 1000) :
    Calls Try.prog 59 #[.agg #[.int .i64 kind, .slice (some ⟨b, off, none⟩) n cap]] w fun e w' => ∃ g cp, e = .returned (.agg #[.int .i64 kind, .slice (some ⟨g, 0, none⟩) n cp]) ∧ ReadsL w' (some ⟨g, 0, none⟩) n ls ∧ w.heap.size ≤ g ∧ Only (fun _ => False) w w' := by
  obtain ⟨w1, hw1⟩ : ∃ x, x = w.alloc (.cells #[.int .i64 kind, .slice (some ⟨b, off, none⟩) n cap] 68) := ⟨_, rfl⟩
  obtain ⟨w2, hw2⟩ : ∃ x, x = w1.alloc (.cells #[.int .i64 0, .slice none 0 0] 68) := ⟨_, rfl⟩
  obtain ⟨q1, hq1⟩ : ∃ x, x = w.heap.size := ⟨_, rfl⟩
  obtain ⟨q2, hq3⟩ : ∃ x, x = q1 + 1 := ⟨_, rfl⟩
  have hq2 : q2 = w1.heap.size := by rw [hq3, hw1, hq1]; simp
  have ha : Only (fun _ => False) w w1 := by rw [hw1]; exact (Only.refl _ _).alloc _
  have hb : Only (fun _ => False) w1 w2 := by rw [hw2]; exact (Only.refl _ _).alloc _
  have HO2 : Hid (Only (fun _ => False) w w2) := Lib.hid (ha.trans hb)
  have HQW : Hid (w.heap.size ≤ q2) := Lib.hid (by rw [hq2]; exact ha.size)
  have HS : Hid (∀ w', Only (fun _ => False) w2 w' → w'.cell? ⟨q1, 0, none⟩ = some (.int .i64 kind) ∧ w'.cell? ⟨q1, 1, none⟩ = some (.slice (some ⟨b, off, none⟩) n cap)) := Lib.hid (fun w' ho => ⟨(hb.trans ho).cell' (by rw [hw1]; exact alloc_new _ _ _ _ _ _ hq1 rfl) (fun f => f), (hb.trans ho).cell' (by rw [hw1]; exact alloc_new _ _ _ _ _ _ hq1 rfl) (fun f => f)⟩)
  have hn0 : w2.cell? ⟨q2, 0, none⟩ = some (.int .i64 0) := by rw [hw2]; exact alloc_new _ _ _ _ _ _ hq2 rfl
  have hn1 : w2.cell? ⟨q2, 1, none⟩ = some (.slice none 0 0) := by rw [hw2]; exact alloc_new _ _ _ _ _ _ hq2 rfl
  have hf0 : w2.frozen? ⟨q2, 0, none⟩ = false := by rw [hw2]; exact alloc_froz _ _ _ _ _ hq2
  have hf1 : w2.frozen? ⟨q2, 1, none⟩ = false := by rw [hw2]; exact alloc_froz _ _ _ _ _ hq2
  have hlt : q2 < w2.heap.size := World.block_lt_of_cell? w2 _ hn0
  have HQ : Hid (∀ w', Only (fun _ => False) w2 w' → w'.cell? ⟨q2, 0, none⟩ = some (.int .i64 0) ∧ w'.cell? ⟨q2, 1, none⟩ = some (.slice none 0 0) ∧ w'.frozen? ⟨q2, 0, none⟩ = false ∧ w'.frozen? ⟨q2, 1, none⟩ = false) := Lib.hid (fun w' ho =>
    ⟨ho.cell' hn0 (fun f => f), ho.cell' hn1 (fun f => f), (ho.frozen (p := ⟨q2, 0, none⟩) hlt (fun f => f)).trans hf0, (ho.frozen (p := ⟨q2, 1, none⟩) hlt (fun f => f)).trans hf1⟩)
  have HCL : Hid (∀ w', Only (fun _ => False) w2 w' → _) := Lib.hid (fun w' (ho : Only (fun _ => False) w2 w') => clone_legs b off n cap ls w' (h.only (HO2.out.trans ho) (fun _ _ f => f)) hm h1)
  have HLN : Hid (n = ls.length) := Lib.hid h.1.symm
  have HIN : Hid (∀ l ∈ ls, InL l) := Lib.hid h.2.2.1
  have hbp := run_buildP
  clear h ha hb hn0 hn1 hf0 hf1 hlt
  go_enter Try.func59, Try.ntmps59
  go_upto_region 1 with fail
  simp only [← hw1, ← hq1]
  simp only [← hw2, ← hq3]
  clear hw1 hw2 hq1 hq2 hq3
  refine wp_region_noPanic ?_
  refine late.region (fun w' => w'.cell? ⟨q1, 0, none⟩ = some (.int .i64 kind) ∧ w'.cell? ⟨q1, 1, none⟩ = some (.slice (some ⟨b, off, none⟩) n cap)) (fun j => [6].contains j) (by kernel_rfl) (HS.out _ (Only.refl _ _).drew) (fun hHeld => ?_)
  obtain ⟨z0, hz0⟩ : ∃ x, x = w2.drew := ⟨_, rfl⟩
  rw [← hz0] at hHeld ⊢
  have hot : Hid (Only (fun _ => False) w2 z0) := Lib.hid (by rw [hz0]; exact (Only.refl _ _).drew)
  clear hz0
  refine late.take (i := 0) [1, 5, 6] (v := ?_) rfl (by kernel_rfl) (by kernel_rfl) (by kernel_rfl) (by kernel_rfl) (fun _ _ _ h => h) (Or.inl ⟨by rfl, ?_⟩) (by assumption) ?_
  rotate_left 1
  · intro w' hSw
    try dsimp only at hSw
    go_simp
    try with_reducible rfl
  try simp only [List.getElem_toArray, List.getElem_cons_zero, Act.put, List.setIfInBounds_toArray, List.set_cons_zero, List.set_cons_succ]
  refine late.take (i := 1) [5, 6] (v := ?_) rfl (by kernel_rfl) (by kernel_rfl) (by kernel_rfl) (by kernel_rfl) (fun _ _ _ h => h) (Or.inl ⟨by rfl, ?_⟩) (by assumption) ?_
  rotate_left 1
  · intro w' hSw
    try dsimp only at hSw
    go_simp
    try with_reducible rfl
  try simp only [List.getElem_toArray, List.getElem_cons_zero, List.getElem_cons_succ, Act.put, List.setIfInBounds_toArray, List.set_cons_zero, List.set_cons_succ]
  refine late.take (i := 2) [3, 4, 5, 6] (v := ?_) rfl (by kernel_rfl) (by kernel_rfl) (by kernel_rfl) (by kernel_rfl) (fun _ _ _ h => h) (Or.inl ⟨by rfl, ?_⟩) (by assumption) ?_
  rotate_left 1
  · intro w' hSw
    try dsimp only at hSw
    go_simp
    try with_reducible rfl
  try simp only [List.getElem_toArray, List.getElem_cons_zero, List.getElem_cons_succ, Act.put, List.setIfInBounds_toArray, List.set_cons_zero, List.set_cons_succ]
  refine late.take (i := 3) [4, 5, 6] (v := ?_) rfl (by kernel_rfl) (by kernel_rfl) (by kernel_rfl) (by kernel_rfl) (fun _ _ _ h => h) (Or.inl ⟨by rfl, ?_⟩) (by assumption) ?_
  rotate_left 1
  · intro w' hSw
    try dsimp only at hSw
    go_simp
    try with_reducible rfl
  try simp only [List.getElem_toArray, List.getElem_cons_zero, List.getElem_cons_succ, Act.put, List.setIfInBounds_toArray, List.set_cons_zero, List.set_cons_succ]
  refine late.ready (rs := [4]) (by kernel_rfl) (by simp) ?_
  refine late.Each.cons rfl (fun K hK => ?_) late.Each.nil
  try simp only [List.getElem_toArray, List.getElem_cons_zero, List.getElem_cons_succ]
  go_simp
  go_at_call 81
  with_reducible refine (HCL.out _ hot.out).mono ?_
  rintro _ W1 ⟨g, cp, rfl, hown, hg, ho⟩
  have HOW := Lib.hid hown
  have HGQ := Lib.hid (box_lt (HQ.out w2 (Only.refl _ _)).1 hot.out.size hg)
  have HGS : Hid (w.heap.size ≤ g) := Lib.hid (by have := HO2.out.size; have := hot.out.size; omega)
  replace hot := Lib.hid (hot.out.trans ho)
  clear ho hown hg
  try dsimp only
  refine hK.out _ _ (fun _ => HS.out _ hot.out) (fun hHeld1 => ?_)
  replace hHeld1 := hHeld1 rfl
  clear hK K
  try simp only [List.getElem_toArray, List.getElem_cons_zero, List.getElem_cons_succ, Act.put, List.setIfInBounds_toArray, List.set_cons_zero, List.set_cons_succ]
  refine late.take (i := 5) [6] (v := ?_) rfl (by kernel_rfl) (by kernel_rfl) (by kernel_rfl) (by kernel_rfl) (fun _ _ _ h => h) (Or.inl ⟨by rfl, ?_⟩) (by assumption) ?_
  rotate_left 1
  · intro w' hSw
    try dsimp only at hSw
    go_simp
    try with_reducible rfl
  try simp only [List.getElem_toArray, List.getElem_cons_zero, List.getElem_cons_succ, Act.put, List.setIfInBounds_toArray, List.set_cons_zero, List.set_cons_succ]
  refine late.ready (rs := [6]) (by kernel_rfl) (by simp) ?_
  refine late.Each.cons rfl (fun K hK => ?_) late.Each.nil
  obtain ⟨e0, e1, f0, f1⟩ := HQ.out _ hot.out
  have HE := Lib.hid (set_two (x := .int .i64 kind) (y := .slice (some ⟨g, 0, none⟩) n cp) e0 e1)
  try simp only [List.getElem_toArray, List.getElem_cons_zero, List.getElem_cons_succ]
  go_simp
  refine hK.out _ _ (fun h => by cases h) (fun _ => ?_)
  clear hK K
  try simp only [List.getElem_toArray, List.getElem_cons_zero, List.getElem_cons_succ, Act.put, List.setIfInBounds_toArray, List.set_cons_zero, List.set_cons_succ]
  refine late.done (by kernel_rfl) ?_ _
  refine NoPanic.normal ?_
  have HS2 : Hid (Only (fun q => q = q2) W1 ((W1.setCell ⟨q2, 0, none⟩ (.int .i64 kind)).setCell ⟨q2, 1, none⟩ (.slice (some ⟨g, 0, none⟩) n cp))) := Lib.hid (((Only.refl (fun q => q = q2) W1).setCell (p := ⟨q2, 0, none⟩) (.inl rfl) _).setCell (p := ⟨q2, 1, none⟩) (.inl rfl) _)
  have HR : Hid (ReadsL W1 (some ⟨g, 0, none⟩) n ls) := Lib.hid (HOW.out.reads HLN.out (by have := HLN.out; omega) HIN.out)
  go_wp2_with fail
  refine bodyPost_ret (v := .agg #[.int .i64 kind, .slice (some ⟨g, 0, none⟩) n cp]) (by simp [results, Try.results59, go_sem, HE.out.1, HE.out.2]) rfl ?_
  refine ⟨g, ⟨cp, rfl⟩, ?_, HGS.out, (HO2.out.trans hot.out).then HS2.out (fun q hq e => by have := HQW.out; omega)⟩
  refine HR.out.only HS2.out (fun x hx e => ?_)
  injection hx with hx
  subst hx
  have e : g = q2 := e
  have := HGQ.out
  omega
end Go.Proofs.Ytkbaafgaaiekpaa.jnw

namespace Go.Proofs.Ytkbaafgaaiekpaa.jnw
open Go.RowKit mem accm accn entw entm
set_option linter.unusedVariables false

/-- a posting as it stands in memory -/
structure Ps where
  kd : Int
  g : Nat
  len : Nat
  cp : Nat
  per : Nat
  ls : List Lg
deriving Inhabited
def encP (x : Ps) : List Value := [.int .i64 x.kd, .slice (some ⟨x.g, 0, none⟩) x.len x.cp, .int .i64 (x.per : Int)]
def pv (l : List Ps) : List Value := l.flatMap encP
theorem pv_cons (x : Ps) (r : List Ps) : pv (x :: r) = encP x ++ pv r := by simp [pv]
theorem pv_append (a b : List Ps) : pv (a ++ b) = pv a ++ pv b := by simp [pv]
theorem pv_one (l : List Ps) : ∀ u ∈ pv l, u.oneCell' = true := by
  intro u hu
  simp only [pv, List.mem_flatMap] at hu
  obtain ⟨x, _, hx⟩ := hu
  simp [encP] at hx
  rcases hx with rfl | rfl | rfl <;> rfl
theorem pv_drop : ∀ (l : List Ps) (k : Nat), (pv l).drop (k * 3) = pv (l.drop k) := by
  intro l
  induction l with
  | nil => intro k; simp [pv]
  | cons x r ih =>
    intro k
    cases k with
    | zero => simp [pv]
    | succ k =>
      have e : (k + 1) * 3 = k * 3 + 3 := by omega
      rw [e, List.drop_succ_cons, pv_cons, ← ih k]
      rfl
theorem pv_get (l : List Ps) (i c : Nat) (hi : i < l.length) (hc : c < 3) : (pv l)[i * 3 + c]? = (encP (l.getD i default))[c]? := by
  have h : l.drop i = l.getD i default :: l.drop (i + 1) := by rw [List.drop_eq_getElem_cons hi]; simp [List.getD, hi]
  rw [← List.getElem?_drop, pv_drop, h, pv_cons, List.getElem?_append_left (by show c < 3; exact hc)]
def OwnP (w : World) (v : Value) (l : List Ps) : Prop := w.ownsRow 0 91 3 v l.length (pv l)
theorem OwnP.nil (w : World) : OwnP w (.slice none 0 0) [] := World.ownsRow_nil _ _ _ _
theorem OwnP.only {S : Nat → Prop} {w w' : World} {v : Value} {l : List Ps} (h : OwnP w v l) (ho : Only S w w') (hs : ∀ k, v.ownBlock = some k → ¬ S k) : OwnP w' v l := owns_only ho h hs
theorem OwnP.lt {w : World} {v : Value} {l : List Ps} (h : OwnP w v l) {q : Nat} (hq : v.ownBlock = some q) : q < w.heap.size := by
  rcases h.2 with ⟨hv, hn⟩ | ⟨g, cap, cur, hv, hg, hh, _⟩
  · rw [hv] at hq; simp [Value.ownBlock] at hq
  · rw [hv] at hq
    have e : g = q := by simpa [Value.ownBlock] using hq
    rw [← e]; exact heap_lt hh
/-- a row of postings that is read, nil or not -/
def ReadsP (w : World) (a : Option Addr) (len : Nat) (l : List Ps) : Prop := l.length = len ∧ (len = 0 ∨ ∃ g, a = some ⟨g, 0, none⟩ ∧ ∀ k, k < len → w.cell? ⟨g, k * 3, none⟩ = some (.int .i64 (l.getD k default).kd) ∧ w.cell? ⟨g, k * 3 + 1, none⟩ = some (.slice (some ⟨(l.getD k default).g, 0, none⟩) (l.getD k default).len (l.getD k default).cp) ∧ w.cell? ⟨g, k * 3 + 2, none⟩ = some (.int .i64 ((l.getD k default).per : Int)))
theorem OwnP.reads {w : World} {v : Value} {l : List Ps} (h : OwnP w v l) : ∃ a cap, v = .slice a l.length cap ∧ l.length ≤ cap ∧ cap ≤ maxLen ∧ ReadsP w a l.length l ∧ ∀ y, a = some y → v.ownBlock = some y.block := by
  have h0 := h
  rcases h.2 with ⟨hv, hn⟩ | ⟨g, cap, cur, hv, hg, hh, hc, hm, _⟩
  · have hl : l = [] := List.eq_nil_of_length_eq_zero hn
    subst hl
    exact ⟨none, 0, hv, Nat.le_refl _, by unfold maxLen; omega, ⟨rfl, .inl rfl⟩, fun y e => by cases e⟩
  · refine ⟨_, cap, hv, hc, hm, ⟨rfl, .inr ⟨g, rfl, fun k hk => ?_⟩⟩, fun y e => by cases e; rw [hv]; rfl⟩
    have h1 : w.ownsRow 0 91 3 (.slice (some ⟨g, 0, none⟩) l.length cap) l.length (pv l) := by rw [← hv]; exact h0
    have e : ∀ c, c < 3 → w.cell? ⟨g, k * 3 + c, none⟩ = (encP (l.getD k default))[c]? := fun c hc => by
      rw [h1.cellAt (k * 3 + c) (by omega), pv_get l k c hk hc]
    exact ⟨e 0 (by omega), e 1 (by omega), e 2 (by omega)⟩
theorem ReadsP.only {S : Nat → Prop} {w w' : World} {a : Option Addr} {len : Nat} {l : List Ps} (h : ReadsP w a len l) (ho : Only S w w') (hs : ∀ x, a = some x → ¬ S x.block) : ReadsP w' a len l := by
  refine ⟨h.1, h.2.imp (fun x => x) fun ⟨g, e, hc⟩ => ⟨g, e, fun k hk => ?_⟩⟩
  obtain ⟨c0, c1, c2⟩ := hc k hk
  have hn : ¬ S g := hs _ e
  exact ⟨ho.cell' c0 hn, ho.cell' c1 hn, ho.cell' c2 hn⟩
theorem info_ps : (Try.prog.info? 91).map (fun i => (i.zero, i.size, i.bytes)) = some (some (Value.agg #[.int .i64 0, .slice none 0 0, .int .i64 0]), 3, 40) := by kernel_rfl
theorem step_post {ops : Array Oper} {o : Oper} {a : Act} {w : World} {K : Act → World → Prop} {Q : Exit → Act → World → Prop} {E : Prop}
    (hg : o.guard = none) (s x : Operand) (ho : o.op = Op.call { callee := Callee.builtin Builtin.append, args := #[s, x], argTypes := #[74, 74] })
    (v : Value) (xs : List Ps) (hs : a.eval s = v) (hown : OwnP w v xs) (g c : Nat) (d : Ps) (hx : a.eval x = .slice (some ⟨g, 0, none⟩) 1 c) (hn : ∀ j u, (encP d)[j]? = some u → w.cell? ⟨g, j, none⟩ = some u) (hb : xs.length ≤ 20000)
    (hK : ∀ v' w', OwnP w' v' (xs ++ [d]) → w.grownBy w' v.ownBlock → (∀ k, v'.ownBlock = some k → v.ownBlock = some k ∨ w.heap.size ≤ k) → K (a.put o.dst v') w') :
    if Region.wanted o (yielded ops a.tmps) = true then Oper.wp Try.prog o a w K Q else E := by
  obtain ⟨i0, hi, hz0, hz1, hz2⟩ := info_parts info_ps
  refine step_mine hg s x 74 ho 91 i0 _ 3 40 Try.underlying74 hi hz0 hz1 hz2 rfl (by decide) v xs.length _ hs hown ⟨g, 0, none⟩ 1 c (encP d) hx rfl (fun j u h => by rw [mem.add_none, Nat.zero_add]; exact hn j u h) (fun u hu => pv_one [d] u (by simpa [pv] using hu)) (by unfold maxLen; omega) (by omega) ?_
  intro v' w' h1 h2 h3
  refine hK v' w' ?_ h2 h3
  unfold OwnP
  rw [List.length_append, pv_append]
  have e : pv [d] = encP d := by simp [pv]
  rw [e]
  exact h1

/-- a posting's legs lie apart from all else of the journal's -/
def PsIn (S : Nat → Prop) (w : World) (p : Nat) (v : Value) (m : Option Nat) (op : Nat) (x : Ps) : Prop := ReadsL w (some ⟨x.g, 0, none⟩) x.len x.ls ∧ chk x.kd x.ls = 0 ∧ x.per ≤ op ∧ S x.g ∧ x.g ≠ p ∧ v.ownBlock ≠ some x.g ∧ m ≠ some x.g
theorem PsIn.len {S : Nat → Prop} {w : World} {p : Nat} {v : Value} {m : Option Nat} {op : Nat} {x : Ps} (h : PsIn S w p v m op x) : 2 ≤ x.len ∧ x.len ≤ 64 := by
  have := ((chk_ok _ _).1 h.2.1).2.1
  have := h.1.1
  omega
theorem readsL_lt {w : World} {g n off : Nat} {ls : List Lg} (h : ReadsL w (some ⟨g, off, none⟩) n ls) (hn : 0 < n) : g < w.heap.size := by
  obtain ⟨b, o, e, hc⟩ := h.2.2.2.resolve_left (by omega)
  injection e with e
  injection e with e1 e2
  subst e1
  exact World.block_lt_of_cell? w _ (hc 0 hn).1
theorem PsIn.lt {S : Nat → Prop} {w : World} {p : Nat} {v : Value} {m : Option Nat} {op : Nat} {x : Ps} (h : PsIn S w p v m op x) : x.g < w.heap.size := readsL_lt h.1 (by have := h.len; omega)
/-- a journal in memory, all of whose blocks are of S -/
structure JnAt (S : Nat → Prop) (w : World) (p : Nat) (v : Value) (op : Nat) (m : Option Nat) (nn : Nat) (C : Ac → Option (List Int)) (L : List Ps) : Prop where
  jc : JnC w p v op m
  mp : MapN w m nn C
  own : OwnP w v L
  np : v.ownBlock ≠ some p
  sp : S p
  sv : ∀ q, v.ownBlock = some q → S q
  sm : ∀ b, m = some b → S b ∧ b ≠ p ∧ v.ownBlock ≠ some b
  nb : nn ≤ 64 * L.length
  len : L.length ≤ 16384
  pl : ∀ x ∈ L, PsIn S w p v m op x
theorem JnAt.lt {S : Nat → Prop} {w : World} {p : Nat} {v : Value} {op : Nat} {m : Option Nat} {nn : Nat} {C : Ac → Option (List Int)} {L : List Ps} (h : JnAt S w p v op m nn C L) : p < w.heap.size := World.block_lt_of_cell? w _ h.jc.c0
theorem MapN.lt {w : World} {m : Option Nat} {n : Nat} {C : Ac → Option (List Int)} (h : MapN w m n C) {b : Nat} (e : m = some b) : b < w.heap.size := by
  subst e
  exact MapA.lt h
theorem PsIn.only {S T : Nat → Prop} {w w' : World} {p : Nat} {v : Value} {m : Option Nat} {op : Nat} {x : Ps} (h : PsIn S w p v m op x) (ho : Only T w w') (hT : ∀ q, S q → ¬ T q) : PsIn S w' p v m op x :=
  ⟨h.1.only ho (fun y e => by cases e; exact hT _ h.2.2.2.1), h.2⟩
theorem JnAt.only {S T : Nat → Prop} {w w' : World} {p : Nat} {v : Value} {op : Nat} {m : Option Nat} {nn : Nat} {C : Ac → Option (List Int)} {L : List Ps} (h : JnAt S w p v op m nn C L) (ho : Only T w w') (hT : ∀ q, S q → ¬ T q) : JnAt S w' p v op m nn C L :=
  ⟨h.jc.only ho (hT _ h.sp), h.mp.only ho (fun b e => hT _ (h.sm b e).1), h.own.only ho (fun k e => hT _ (h.sv k e)), h.np, h.sp, h.sv, h.sm, h.nb, h.len, fun x hx => (h.pl x hx).only ho hT⟩
theorem JnAt.quiet {S : Nat → Prop} {w w' : World} {p : Nat} {v : Value} {op : Nat} {m : Option Nat} {nn : Nat} {C : Ac → Option (List Int)} {L : List Ps} (h : JnAt S w p v op m nn C L) (ho : Only (fun _ => False) w w') : JnAt S w' p v op m nn C L := h.only ho (fun _ _ f => f)
theorem JnAt.mono {S T : Nat → Prop} {w : World} {p : Nat} {v : Value} {op : Nat} {m : Option Nat} {nn : Nat} {C : Ac → Option (List Int)} {L : List Ps} (h : JnAt S w p v op m nn C L) (hT : ∀ q, q < w.heap.size → S q → T q) : JnAt T w p v op m nn C L :=
  ⟨h.jc, h.mp, h.own, h.np, hT _ h.lt h.sp, fun q e => hT _ (h.own.lt e) (h.sv q e), fun b e => ⟨hT _ (h.mp.lt e) (h.sm b e).1, (h.sm b e).2⟩, h.nb, h.len, fun x hx => by obtain ⟨a1, a2, a3, a4, a5⟩ := h.pl x hx; exact ⟨a1, a2, a3, hT _ (h.pl x hx).lt a4, a5⟩⟩
theorem JnAt.new {S : Nat → Prop} {w : World} {p op : Nat} (h : JnC w p (.slice none 0 0) op none) (hp : S p) : JnAt S w p (.slice none 0 0) op none 0 (fun _ => none) [] :=
  ⟨h, fun _ => rfl, OwnP.nil w, (by simp [Value.ownBlock]), hp, (fun q e => by simp [Value.ownBlock] at e), (fun b e => by cases e), (by simp), (by simp), (fun x hx => by cases hx)⟩
theorem JnAt.close {S : Nat → Prop} {w w' : World} {p : Nat} {v : Value} {op : Nat} {m : Option Nat} {nn : Nat} {C : Ac → Option (List Int)} {L : List Ps} (h : JnAt S w p v op m nn C L) (hj : JnC w' p v (op + 1) m) (ho : Only (fun q => q = p) w w') : JnAt S w' p v (op + 1) m nn C L :=
  ⟨hj, h.mp.only ho (fun b e => (h.sm b e).2.1), h.own.only ho (fun k e e2 => h.np (by rw [e, e2])), h.np, h.sp, h.sv, h.sm, h.nb, h.len, fun x hx => by
    obtain ⟨a1, a2, a3, a4, a5, a6⟩ := h.pl x hx
    exact ⟨a1.only ho (fun y e e2 => by cases e; exact a5 e2), a2, by omega, a4, a5, a6⟩⟩

theorem add_any (p op : Nat) (v : Value) (m : Option Nat) (nn : Nat) (C : Ac → Option (List Int)) (b off n cap : Nat) (ls : List Lg) (w : World) (h : JnC w p v op m) (hm : MapN w m nn C) (hr : ReadsL w (some ⟨b, off, none⟩) n ls) (hpm : ∀ mb, m = some mb → mb ≠ p ∧ b ≠ mb) (hbp : b ≠ p) (hbl : b < w.heap.size) (hnn : nn ≤ 10000000) (hn : n ≤ 64) :
    Calls Try.prog 58 #[.pointer (some ⟨p, 0, none⟩), .slice (some ⟨b, off, none⟩) n cap] w fun e w' => e = .returned (.tuple #[]) ∧ ∃ mb nn', JnC w' p v op (some mb) ∧ MapA w' mb nn' (addC C op ls) ∧ Only (fun q => q = p ∨ m = some q) w w' ∧ nn' ≤ nn + n ∧ (m = some mb ∨ w.heap.size ≤ mb) := by
  cases m with
  | none =>
    have hC : C = fun _ => none := funext hm
    subst hC
    refine (add_none p op v b off n cap ls w h hr hbp hbl hn).mono ?_
    rintro _ w' ⟨rfl, mb, h1, h2, h3, h4⟩
    exact ⟨rfl, mb, n, h1, h2, h3.mono (fun _ _ e => .inl e), by omega, .inr (by omega)⟩
  | some mb =>
    obtain ⟨k1, k2⟩ := hpm mb rfl
    refine (add_some p op v mb nn C b off n cap ls w h hm hr k1 hbp k2 hnn hn).mono ?_
    rintro _ w' ⟨rfl, h1, h2, h3⟩
    exact ⟨rfl, mb, nn + n, h1, h2, h3.mono (fun _ _ e => .inr (by rw [e])), by omega, .inl rfl⟩

/-- what was posted stays, with one more behind it -/
theorem ps_more {S : Nat → Prop} {w w9 w' : World} {p : Nat} {v v' : Value} {op : Nat} {m : Option Nat} {mb nn : Nat} {C : Ac → Option (List Int)} {L : List Ps} {d : Ps} (h : JnAt S w p v op m nn C L) (h09 : Only (fun q => q = p ∨ m = some q) w w9) (h9 : Only (fun q => q = p ∨ v.ownBlock = some q) w9 w')
    (hv : ∀ k, v'.ownBlock = some k → v.ownBlock = some k ∨ w9.heap.size ≤ k) (hmb : m = some mb ∨ w.heap.size ≤ mb)
    (hd : ReadsL w9 (some ⟨d.g, 0, none⟩) d.len d.ls) (hd1 : chk d.kd d.ls = 0) (hd2 : d.per ≤ op) (hg1 : w.heap.size ≤ d.g) (hg2 : d.g < w9.heap.size) (hg3 : mb ≠ d.g) :
    ∀ x ∈ L ++ [d], PsIn (fun q => S q ∨ w.heap.size ≤ q) w' p v' (some mb) op x := by
  have hp := h.lt
  have hsz := h09.size
  intro x hx
  rcases List.mem_append.1 hx with hx | hx
  · have hlt := (h.pl x hx).lt
    obtain ⟨a1, a2, a3, a4, a5, a6, a7⟩ := h.pl x hx
    refine ⟨(a1.only h09 (fun y e q => by cases e; exact q.elim a5 a7)).only h9 (fun y e q => by cases e; exact q.elim a5 a6), a2, a3, .inl a4, a5, fun e => ?_, fun e => ?_⟩
    · rcases hv _ e with q | q
      · exact a6 q
      · omega
    · injection e with e
      subst e
      rcases hmb with q | q
      · exact a7 q
      · omega
  · rw [List.mem_singleton] at hx
    subst hx
    refine ⟨hd.only h9 (fun y e q => ?_), hd1, hd2, .inr hg1, by omega, fun e => ?_, fun e => ?_⟩
    · cases e
      rcases q with q | q
      · have q' : x.g = p := q
        omega
      · have := h.own.lt q
        have q2 : x.g < w.heap.size := this
        omega
    · rcases hv _ e with q | q
      · have := h.own.lt q
        omega
      · omega
    · injection e with e
      exact hg3 e
end Go.Proofs.Ytkbaafgaaiekpaa.jnw

namespace Go.Proofs.Ytkbaafgaaiekpaa.jnw
open Go.RowKit mem accm accn entw entm
set_option linter.unusedVariables false

theorem run_buildQ (k : Int) (g n c : Nat) (op : Nat) (w : World) : (Instr.build 91 #[(0, .agg #[.int .i64 k, .slice (some ⟨g, 0, none⟩) n c]), (1, .int .i64 (op : Int))]).run Try.prog w = .ok (.agg #[.int .i64 k, .slice (some ⟨g, 0, none⟩) n c, .int .i64 (op : Int)]) w := by kernel_rfl
set_option maxRecDepth 100000 in
set_option maxHeartbeats 4000000 in
theorem post_yes {S : Nat → Prop} (p op : Nat) (v : Value) (m : Option Nat) (nn : Nat) (C : Ac → Option (List Int)) (L : List Ps) (kind : Int) (a : Option Addr) (n cap : Nat) (ls : List Lg) (w : World) (h : JnAt S w p v op m nn C L) (hr : ReadsL w a n ls) (hc : chk kind ls = 0) (hn0 : L.length < 16384)
    (hno : ∀ j, j < n → ¬ overL C (ls.getD j default)) (ha : ∀ x, a = some x → ¬ S x.block) :
    Calls Try.prog 31 #[.pointer (some ⟨p, 0, none⟩), .agg #[.int .i64 kind, .slice a n cap]] w fun e w' => e = .returned (.tuple #[.int .i64 (L.length : Int), .int .i64 0]) ∧ ∃ v' m' nn' g cp, JnAt (fun q => S q ∨ w.heap.size ≤ q) w' p v' op m' nn' (addC C op ls) (L ++ [⟨kind, g, n, cp, op, ls⟩]) ∧ Only S w w' := by
  have hn64 : n ≤ 64 := by have := ((chk_ok kind ls).1 hc).2.1; have := hr.1; omega
  have hn2 : 2 ≤ n := by have := ((chk_ok kind ls).1 hc).2.1; have := hr.1; omega
  obtain ⟨b, off, rfl, -⟩ := hr.2.2.2.resolve_left (by omega)
  have hbS : ¬ S b := ha _ rfl
  obtain ⟨a0, c0, rfl, -, -, -, -⟩ := h.own.reads
  obtain ⟨w1, hw1⟩ : ∃ x, x = w.alloc (.cells #[.int .i64 kind, .slice (some ⟨b, off, none⟩) n cap] 68) := ⟨_, rfl⟩
  obtain ⟨q, hq⟩ : ∃ x, x = w.heap.size := ⟨_, rfl⟩
  have ho1 : Only (fun _ => False) w w1 := by rw [hw1]; exact (Only.refl _ w).alloc _
  have k0 : w1.cell? ⟨q, 0, none⟩ = some (.int .i64 kind) := by rw [hw1]; exact alloc_new _ _ _ _ _ _ hq rfl
  have k1 : w1.cell? ⟨q, 1, none⟩ = some (.slice (some ⟨b, off, none⟩) n cap) := by rw [hw1]; exact alloc_new _ _ _ _ _ _ hq rfl
  have HO1 := Lib.hid ho1
  have HQW : Hid (w.heap.size ≤ q) := Lib.hid (by omega)
  have hck := check_any kind (some ⟨b, off, none⟩) n cap ls w1 (hr.only ho1 (fun _ _ f => f))
  rw [hc] at hck
  have HCK := Lib.hid hck
  have HCZ := Lib.hid hc
  have HNV0 := Lib.hid hno
  have HLN : Hid (n = ls.length) := Lib.hid hr.1.symm
  have HAT := Lib.hid h
  have HR0 := Lib.hid hr
  have HNP : Hid ((.slice a0 L.length c0 : Value).ownBlock ≠ some p) := Lib.hid h.np
  have HBP : Hid (b ≠ p) := Lib.hid (fun e => hbS (by rw [e]; exact h.sp))
  have HBL2 : Hid (b < w.heap.size) := Lib.hid (readsL_lt hr (by omega))
  have HPM : Hid (∀ mb, m = some mb → mb ≠ p ∧ b ≠ mb) := Lib.hid (fun mb e => ⟨(h.sm mb e).2.1, fun e2 => hbS (by rw [e2]; exact (h.sm mb e).1)⟩)
  clear hr hc ho1 hck hno h ha hbS
  go_enter Try.func31, Try.ntmps31
  go_upto_region 3 with fail
  simp only [← hw1, ← hq]
  clear hw1 hq
  go_wp2_with fail
  refine HCK.out.mono ?_
  rintro _ w2 ⟨rfl, ho⟩
  have HO2 := Lib.hid (HO1.out.trans ho)
  have d0 := ho.cell' k0 (fun f => f)
  have d1 := ho.cell' k1 (fun f => f)
  have HQB : Hid (∀ w', Only (fun _ => False) w2 w' → w'.cell? ⟨q, 0, none⟩ = some (.int .i64 kind) ∧ w'.cell? ⟨q, 1, none⟩ = some (.slice (some ⟨b, off, none⟩) n cap)) := Lib.hid (fun w' ho2 => ⟨(ho.trans ho2).cell' k0 (fun f => f), (ho.trans ho2).cell' k1 (fun f => f)⟩)
  have e0 := (HAT.out.jc.only HO2.out (fun f => f)).c0
  have hnb : ¬ (16384 : Int) ≤ (L.length : Int) := by omega
  clear ho HCK k0 k1
  go_wp2_with fail
  have HJ : Hid (∀ w', Only (fun _ => False) w2 w' → JnC w' p (.slice a0 L.length c0) op m) := Lib.hid (fun w' ho => HAT.out.jc.only (HO2.out.trans ho) (fun f => f))
  have HM : Hid (∀ w', Only (fun _ => False) w2 w' → MapN w' m nn C) := Lib.hid (fun w' ho => HAT.out.mp.only (HO2.out.trans ho) (fun _ _ f => f))
  have HRL : Hid (∀ w', Only (fun _ => False) w2 w' → ReadsL w' (some ⟨b, off, none⟩) n ls) := Lib.hid (fun w' ho => HR0.out.only (HO2.out.trans ho) (fun _ _ f => f))
  clear d0 d1 e0 hnb HR0 HO1
  go_loopw [26] (fun i wr => ∃ k : Nat, k ≤ n ∧ i = .int .i64 k ∧ Hid (Only (fun _ => False) w2 wr)) (fun i _ => n - (intOf i).toNat)
  case atStart => exact ⟨0, by omega, rfl, Lib.hid (Only.refl _ _)⟩
  case round =>
    obtain ⟨k, hk, rfl, HW⟩ := hrel
    rename World => wr
    by_cases h8 : k < n
    · obtain ⟨b', off', hbe, hc⟩ := (HRL.out wr HW.out).2.2.2.resolve_left (by omega)
      injection hbe with hbe
      injection hbe with hb1 hb2
      subst hb1 hb2
      obtain ⟨y0, y1, y2, y3⟩ := hc k h8
      have hin := (HRL.out wr HW.out).2.2.1 _ (getL_mem ls k (by rw [← HLN.out]; exact h8))
      obtain ⟨⟨xk, xn, xg, xa⟩, hle⟩ : ∃ x, ls.getD k default = x := ⟨_, rfl⟩
      have HLE := Lib.hid hle
      rw [hle] at y0 y1 y2 y3 hin
      dsimp only at y0 y1 y2 y3
      have HIA : Hid (InA ⟨xk, xn, xg⟩) := Lib.hid (lgA_in hin)
      have hk0 : (0 : Int) ≤ (k : Int) := by omega
      have hkm : (k : Int) < (n : Int) := by omega
      clear hc hle hin
      obtain ⟨wa, hwa⟩ : ∃ x, x = wr.alloc (.cells #[.int .i64 xk, .int .i64 xn, .int .i64 xg, .int .i64 xa] 106) := ⟨_, rfl⟩
      obtain ⟨q5, hq5⟩ : ∃ x, x = wr.heap.size := ⟨_, rfl⟩
      have HOA : Hid (Only (fun _ => False) w2 wa) := Lib.hid (by rw [hwa]; exact HW.out.alloc _)
      have HQ : Hid (∀ w', Only (fun _ => False) wa w' → w'.cell? ⟨q5, 0, none⟩ = some (.int .i64 xk) ∧ w'.cell? ⟨q5, 1, none⟩ = some (.int .i64 xn) ∧ w'.cell? ⟨q5, 2, none⟩ = some (.int .i64 xg) ∧ w'.cell? ⟨q5, 3, none⟩ = some (.int .i64 xa)) := Lib.hid (fun w' ho =>
        ⟨ho.cell' (by rw [hwa]; exact alloc_new _ _ _ _ _ _ hq5 rfl) (fun f => f), ho.cell' (by rw [hwa]; exact alloc_new _ _ _ _ _ _ hq5 rfl) (fun f => f), ho.cell' (by rw [hwa]; exact alloc_new _ _ _ _ _ _ hq5 rfl) (fun f => f), ho.cell' (by rw [hwa]; exact alloc_new _ _ _ _ _ _ hq5 rfl) (fun f => f)⟩)
      have HBL : Hid (∀ w', Only (fun _ => False) wa w' → _) := Lib.hid (fun w' (ho : Only (fun _ => False) wa w') => bal_any p op (.slice a0 L.length c0) m nn C xk xn xg HIA.out w' (HJ.out w' (HOA.out.trans ho)) (HM.out w' (HOA.out.trans ho)))
      obtain ⟨y, hy⟩ : ∃ x, x = wrap64 (((C ⟨xk, xn, xg⟩).getD noughts).sum) := ⟨_, rfl⟩
      rw [← hy] at HBL
      obtain ⟨z, hz⟩ : ∃ x, x = wrap64 (y + xa) := ⟨_, rfl⟩
      have HZ : Hid (IntKind.i64.wrap (y + xa) = z) := Lib.hid (by rw [hz, IntKind.wrap_i64]; simp only [wrap64])
      have HOV : Hid (overL C (ls.getD k default) ↔ 1152921504606846976 < z ∨ z < -1152921504606846976) := Lib.hid (by rw [HLE.out, hz, hy]; exact Iff.rfl)
      clear hy hz
      go_upto_region 11 with fail
      simp only [← hwa, ← hq5]
      clear hwa hq5 y0 y1 y2 y3
      refine wp_region_noPanic ?_
      refine late.region (fun w' => w'.cell? ⟨q5, 0, none⟩ = some (.int .i64 xk) ∧ w'.cell? ⟨q5, 1, none⟩ = some (.int .i64 xn) ∧ w'.cell? ⟨q5, 2, none⟩ = some (.int .i64 xg) ∧ w'.cell? ⟨q5, 3, none⟩ = some (.int .i64 xa)) (fun j => [].contains j) (by kernel_rfl) (HQ.out _ (Only.refl _ _).drew) (fun hHeld => ?_)
      obtain ⟨z0, hz0⟩ : ∃ x, x = wa.drew := ⟨_, rfl⟩
      rw [← hz0] at hHeld ⊢
      have hot : Hid (Only (fun _ => False) wa z0) := Lib.hid (by rw [hz0]; exact (Only.refl _ _).drew)
      clear hz0
      refine late.take (i := 0) [3, 6, 7] (v := ?_) rfl (by kernel_rfl) (by kernel_rfl) (by kernel_rfl) (by kernel_rfl) (fun _ _ _ h => h) (Or.inl ⟨by rfl, ?_⟩) (by assumption) ?_
      rotate_left 1
      · intro w' hSw
        try dsimp only at hSw
        go_simp
        try with_reducible rfl
      try simp only [List.getElem_toArray, List.getElem_cons_zero, Act.put, List.setIfInBounds_toArray, List.set_cons_zero, List.set_cons_succ]
      refine late.take (i := 1) [2, 3, 6, 7] (v := ?_) rfl (by kernel_rfl) (by kernel_rfl) (by kernel_rfl) (by kernel_rfl) (fun _ _ _ h => h) (Or.inl ⟨by rfl, ?_⟩) (by assumption) ?_
      rotate_left 1
      · intro w' hSw
        try dsimp only at hSw
        go_simp
        try with_reducible rfl
      try simp only [List.getElem_toArray, List.getElem_cons_zero, List.getElem_cons_succ, Act.put, List.setIfInBounds_toArray, List.set_cons_zero, List.set_cons_succ]
      refine late.take (i := 2) [3, 6, 7] (v := ?_) rfl (by kernel_rfl) (by kernel_rfl) (by kernel_rfl) (by kernel_rfl) (fun _ _ _ h => h) (Or.inl ⟨by rfl, ?_⟩) (by assumption) ?_
      rotate_left 1
      · intro w' hSw
        try dsimp only at hSw
        go_simp
        try with_reducible rfl
      try simp only [List.getElem_toArray, List.getElem_cons_zero, List.getElem_cons_succ, Act.put, List.setIfInBounds_toArray, List.set_cons_zero, List.set_cons_succ]
      refine late.take (i := 4) [5, 6, 7] (v := ?_) rfl (by kernel_rfl) (by kernel_rfl) (by kernel_rfl) (by kernel_rfl) (fun _ _ _ h => h) (Or.inl ⟨by rfl, ?_⟩) (by assumption) ?_
      rotate_left 1
      · intro w' hSw
        try dsimp only at hSw
        go_simp
        try with_reducible rfl
      try simp only [List.getElem_toArray, List.getElem_cons_zero, List.getElem_cons_succ, Act.put, List.setIfInBounds_toArray, List.set_cons_zero, List.set_cons_succ]
      refine late.take (i := 5) [6, 7] (v := ?_) rfl (by kernel_rfl) (by kernel_rfl) (by kernel_rfl) (by kernel_rfl) (fun _ _ _ h => h) (Or.inl ⟨by rfl, ?_⟩) (by assumption) ?_
      rotate_left 1
      · intro w' hSw
        try dsimp only at hSw
        go_simp
        try with_reducible rfl
      try simp only [List.getElem_toArray, List.getElem_cons_zero, List.getElem_cons_succ, Act.put, List.setIfInBounds_toArray, List.set_cons_zero, List.set_cons_succ]
      refine late.ready (rs := [3]) (by kernel_rfl) (by simp) ?_
      refine late.Each.cons rfl (fun K hK => ?_) late.Each.nil
      try simp only [List.getElem_toArray, List.getElem_cons_zero, List.getElem_cons_succ]
      go_simp
      go_at_call 23
      with_reducible refine (HBL.out _ hot.out).mono ?_
      rintro _ W1 ⟨rfl, ho⟩
      replace hot := Lib.hid (hot.out.trans ho)
      clear ho
      try dsimp only
      refine hK.out _ _ (fun _ => HQ.out _ hot.out) (fun hHeld1 => ?_)
      replace hHeld1 := hHeld1 rfl
      clear hK K
      try simp only [List.getElem_toArray, List.getElem_cons_zero, List.getElem_cons_succ, Act.put, List.setIfInBounds_toArray, List.set_cons_zero, List.set_cons_succ]
      refine late.take (i := 6) [7] (v := ?_) rfl (by kernel_rfl) (by kernel_rfl) (by kernel_rfl) (by kernel_rfl) (fun _ _ _ h => h) (Or.inl ⟨by rfl, ?_⟩) (by assumption) ?_
      rotate_left 1
      · intro w' hSw
        try dsimp only at hSw
        go_simp
        try with_reducible rfl
      try simp only [List.getElem_toArray, List.getElem_cons_zero, List.getElem_cons_succ, Act.put, List.setIfInBounds_toArray, List.set_cons_zero, List.set_cons_succ]
      refine late.take (i := 7) [] (v := ?_) rfl (by kernel_rfl) (by kernel_rfl) (by kernel_rfl) (by kernel_rfl) (fun _ _ _ h => h) (Or.inl ⟨by rfl, ?_⟩) (by assumption) ?_
      rotate_left 1
      · intro w' hSw
        try dsimp only at hSw
        go_simp
        try with_reducible rfl
      try simp only [List.getElem_toArray, List.getElem_cons_zero, List.getElem_cons_succ, Act.put, List.setIfInBounds_toArray, List.set_cons_zero, List.set_cons_succ]
      refine late.done (by kernel_rfl) ?_ _
      refine NoPanic.normal ?_
      have HO9 := Lib.hid (HOA.out.trans hot.out)
      have hwz := HZ.out
      clear hHeld hot HBL HQ HOA
      by_cases g1 : 1152921504606846976 < z
      · exact absurd (HOV.out.2 (Or.inl g1)) (HNV0.out k h8)
      · by_cases g2 : z < -1152921504606846976
        · exact absurd (HOV.out.2 (Or.inr g2)) (HNV0.out k h8)
        · go_wp2_with fail
          go_roundw
          case rel => exact ⟨k + 1, by omega, by go_num, HO9⟩
          case measure => (simp [intOf]; omega)
    · have hge : ¬ (k : Int) < (n : Int) := by omega
      obtain rfl : n = k := by omega
      have d1 := (HQB.out wr HW.out).2
      have HADD := Lib.hid (add_any p op (.slice a0 L.length c0) m nn C b off n cap ls wr (HJ.out wr HW.out) (HM.out wr HW.out) (HRL.out wr HW.out) HPM.out HBP.out (Nat.lt_of_lt_of_le HBL2.out (HO2.out.trans HW.out).size) (by have := HAT.out.nb; omega) hn64)
      go_wp2_with fail
      refine HADD.out.mono ?_
      rintro _ w3 ⟨rfl, mb, nn3, hj3, hm3, ho3, hnn3, hmb3⟩
      have HW2 : Hid (Only (fun _ => False) w wr) := Lib.hid (HO2.out.trans HW.out)
      have HW3 : Hid (Only (fun x => x = p ∨ m = some x) w w3) := Lib.hid ((HW2.out.mono (fun _ _ f => f.elim)).trans ho3)
      have HNN3 := Lib.hid hnn3
      have HMP3 := Lib.hid hm3
      have HMBS : Hid (m = some mb ∨ w.heap.size ≤ mb) := Lib.hid (hmb3.imp (fun x => x) (fun e => Nat.le_trans HW2.out.size e))
      have HMBN : Hid (mb ≠ p ∧ (.slice a0 L.length c0 : Value).ownBlock ≠ some mb) := Lib.hid (HMBS.out.elim (fun e => (HAT.out.sm mb e).2) (fun e => ⟨by have := HAT.out.lt; omega, fun e2 => by have := HAT.out.own.lt e2; omega⟩))
      have HJ3 : Hid (∀ w', Only (fun _ => False) w3 w' → JnC w' p (.slice a0 L.length c0) op (some mb)) := Lib.hid (fun w' ho => hj3.only ho (fun f => f))
      have HOW : Hid (∀ w', Only (fun _ => False) w3 w' → OwnP w' (.slice a0 L.length c0) L) := Lib.hid (fun w' ho => (HAT.out.own.only HW3.out (fun k e q => q.elim (fun q => HAT.out.np (by rw [e, q])) (fun q => (HAT.out.sm k q).2.2 e))).only ho (fun _ _ f => f))
      have HS : Hid (∀ w', Only (fun _ => False) w3 w' → w'.cell? ⟨p, 0, none⟩ = some (.slice a0 L.length c0) ∧ w'.cell? ⟨p, 1, none⟩ = some (.int .i64 (op : Int)) ∧ w'.cell? ⟨q, 0, none⟩ = some (.int .i64 kind) ∧ w'.cell? ⟨q, 1, none⟩ = some (.slice (some ⟨b, off, none⟩) n cap)) := Lib.hid (fun w' ho => by
        obtain ⟨t0, t1⟩ := HQB.out wr HW.out
        have hq : ¬ (q = p ∨ m = some q) := fun e => e.elim (fun e => by have := HAT.out.lt; have := HQW.out; omega) (fun e => by have := HAT.out.mp.lt e; have := HQW.out; omega)
        exact ⟨(HJ3.out w' ho).c0, (HJ3.out w' ho).c1, ho.cell' (ho3.cell' t0 hq) (fun f => f), ho.cell' (ho3.cell' t1 hq) (fun f => f)⟩)
      have HCP : Hid (∀ w', Only (fun _ => False) w3 w' → _) := Lib.hid (fun w' (ho : Only (fun _ => False) w3 w') => copied_any kind b off n cap ls w' (((HRL.out wr HW.out).only ho3 (fun y e q => by
        cases e
        rcases q with q | q
        · exact HBP.out q
        · exact (HPM.out _ q).2 rfl)).only ho (fun _ _ f => f)) (by omega) (by omega))
      have hbp := run_buildQ
      clear d1 HADD ho3 hj3 hm3 hnn3 hmb3 hge
      go_upto_region 16 with fail
      refine wp_region_noPanic ?_
      refine late.region (fun w' => w'.cell? ⟨p, 0, none⟩ = some (.slice a0 L.length c0) ∧ w'.cell? ⟨p, 1, none⟩ = some (.int .i64 (op : Int)) ∧ w'.cell? ⟨q, 0, none⟩ = some (.int .i64 kind) ∧ w'.cell? ⟨q, 1, none⟩ = some (.slice (some ⟨b, off, none⟩) n cap)) (fun j => [16].contains j) (by kernel_rfl) (HS.out _ (Only.refl _ _).drew) (fun hHeld => ?_)
      obtain ⟨z0, hz0⟩ : ∃ x, x = w3.drew := ⟨_, rfl⟩
      rw [← hz0] at hHeld ⊢
      have hot : Hid (Only (fun _ => False) w3 z0) := Lib.hid (by rw [hz0]; exact (Only.refl _ _).drew)
      clear hz0
      refine late.take (i := 0) [14, 15, 16] (v := ?_) rfl (by kernel_rfl) (by kernel_rfl) (by kernel_rfl) (by kernel_rfl) (fun _ _ _ h => h) (Or.inl ⟨by rfl, ?_⟩) (by assumption) ?_
      rotate_left 1
      · intro w' hSw
        try dsimp only at hSw
        go_simp
        try with_reducible rfl
      try simp only [List.getElem_toArray, List.getElem_cons_zero, Act.put, List.setIfInBounds_toArray, List.set_cons_zero, List.set_cons_succ]
      refine late.take (i := 1) [2, 3, 4, 13, 14, 15, 16] (v := ?_) rfl (by kernel_rfl) (by kernel_rfl) (by kernel_rfl) (by kernel_rfl) (fun _ _ _ h => h) (Or.inl ⟨by rfl, ?_⟩) (by assumption) ?_
      rotate_left 1
      · intro w' hSw
        try dsimp only at hSw
        go_simp
        try with_reducible rfl
      try simp only [List.getElem_toArray, List.getElem_cons_zero, List.getElem_cons_succ, Act.put, List.setIfInBounds_toArray, List.set_cons_zero, List.set_cons_succ]
      refine late.take (i := 2) [3, 4, 13, 14, 15, 16] (v := ?_) rfl (by kernel_rfl) (by kernel_rfl) (by kernel_rfl) (by kernel_rfl) (fun _ _ _ h => h) (Or.inl ⟨by rfl, ?_⟩) (by assumption) ?_
      rotate_left 1
      · intro w' hSw
        try dsimp only at hSw
        go_simp
        try with_reducible rfl
      try simp only [List.getElem_toArray, List.getElem_cons_zero, List.getElem_cons_succ, Act.put, List.setIfInBounds_toArray, List.set_cons_zero, List.set_cons_succ]
      refine late.take (i := 3) [4, 13, 14, 15, 16] (v := ?_) rfl (by kernel_rfl) (by kernel_rfl) (by kernel_rfl) (by kernel_rfl) (fun _ _ _ h => h) (Or.inl ⟨by rfl, ?_⟩) (by assumption) ?_
      rotate_left 1
      · intro w' hSw
        try dsimp only at hSw
        go_simp
        try with_reducible rfl
      try simp only [List.getElem_toArray, List.getElem_cons_zero, List.getElem_cons_succ, Act.put, List.setIfInBounds_toArray, List.set_cons_zero, List.set_cons_succ]
      refine late.take (i := 4) [13, 14, 15, 16] (v := ?_) rfl (by kernel_rfl) (by kernel_rfl) (by kernel_rfl) (by kernel_rfl) (fun _ _ _ h => h) (Or.inl ⟨by rfl, ?_⟩) (by assumption) ?_
      rotate_left 1
      · intro w' hSw
        try dsimp only at hSw
        go_simp
        try with_reducible rfl
      try simp only [List.getElem_toArray, List.getElem_cons_zero, List.getElem_cons_succ, Act.put, List.setIfInBounds_toArray, List.set_cons_zero, List.set_cons_succ]
      refine late.take (i := 5) [6, 11, 12, 13, 14, 15, 16] (v := ?_) rfl (by kernel_rfl) (by kernel_rfl) (by kernel_rfl) (by kernel_rfl) (fun _ _ _ h => h) (Or.inl ⟨by rfl, ?_⟩) (by assumption) ?_
      rotate_left 1
      · intro w' hSw
        try dsimp only at hSw
        go_simp
        try with_reducible rfl
      try simp only [List.getElem_toArray, List.getElem_cons_zero, List.getElem_cons_succ, Act.put, List.setIfInBounds_toArray, List.set_cons_zero, List.set_cons_succ]
      refine late.take (i := 7) [8, 9, 10, 11, 12, 13, 14, 15, 16] (v := ?_) rfl (by kernel_rfl) (by kernel_rfl) (by kernel_rfl) (by kernel_rfl) (fun _ _ _ h => h) (Or.inl ⟨by rfl, ?_⟩) (by assumption) ?_
      rotate_left 1
      · intro w' hSw
        try dsimp only at hSw
        go_simp
        try with_reducible rfl
      try simp only [List.getElem_toArray, List.getElem_cons_zero, List.getElem_cons_succ, Act.put, List.setIfInBounds_toArray, List.set_cons_zero, List.set_cons_succ]
      refine late.take (i := 8) [9, 10, 11, 12, 13, 14, 15, 16] (v := ?_) rfl (by kernel_rfl) (by kernel_rfl) (by kernel_rfl) (by kernel_rfl) (fun _ _ _ h => h) (Or.inl ⟨by rfl, ?_⟩) (by assumption) ?_
      rotate_left 1
      · intro w' hSw
        try dsimp only at hSw
        go_simp
        try with_reducible rfl
      try simp only [List.getElem_toArray, List.getElem_cons_zero, List.getElem_cons_succ, Act.put, List.setIfInBounds_toArray, List.set_cons_zero, List.set_cons_succ]
      refine late.take (i := 9) [10, 11, 12, 13, 14, 15, 16] (v := ?_) rfl (by kernel_rfl) (by kernel_rfl) (by kernel_rfl) (by kernel_rfl) (fun _ _ _ h => h) (Or.inl ⟨by rfl, ?_⟩) (by assumption) ?_
      rotate_left 1
      · intro w' hSw
        try dsimp only at hSw
        go_simp
        try with_reducible rfl
      try simp only [List.getElem_toArray, List.getElem_cons_zero, List.getElem_cons_succ, Act.put, List.setIfInBounds_toArray, List.set_cons_zero, List.set_cons_succ]
      refine late.take (i := 10) [11, 12, 13, 14, 15, 16] (v := ?_) rfl (by kernel_rfl) (by kernel_rfl) (by kernel_rfl) (by kernel_rfl) (fun _ _ _ h => h) (Or.inl ⟨by rfl, ?_⟩) (by assumption) ?_
      rotate_left 1
      · intro w' hSw
        try dsimp only at hSw
        go_simp
        try with_reducible rfl
      try simp only [List.getElem_toArray, List.getElem_cons_zero, List.getElem_cons_succ, Act.put, List.setIfInBounds_toArray, List.set_cons_zero, List.set_cons_succ]
      refine late.ready (rs := [6]) (by kernel_rfl) (by simp) ?_
      refine late.Each.cons rfl (fun K hK => ?_) late.Each.nil
      try simp only [List.getElem_toArray, List.getElem_cons_zero, List.getElem_cons_succ]
      go_simp
      go_at_call 59
      with_reducible refine (HCP.out _ hot.out).mono ?_
      rintro _ W1 ⟨g, cp, rfl, hrd, hg, ho⟩
      have HRD := Lib.hid hrd
      have HGL : Hid (g < W1.heap.size) := Lib.hid (readsL_lt hrd (by omega))
      have HGW : Hid (w3.heap.size ≤ g) := Lib.hid (Nat.le_trans hot.out.size hg)
      replace hot := Lib.hid (hot.out.trans ho)
      clear ho hrd hg
      try dsimp only
      refine hK.out _ _ (fun _ => HS.out _ hot.out) (fun hHeld1 => ?_)
      replace hHeld1 := hHeld1 rfl
      clear hK K
      try simp only [List.getElem_toArray, List.getElem_cons_zero, List.getElem_cons_succ, Act.put, List.setIfInBounds_toArray, List.set_cons_zero, List.set_cons_succ]
      refine late.take (i := 11) [12, 13, 14, 15, 16] (v := ?_) rfl (by kernel_rfl) (by kernel_rfl) (by kernel_rfl) (by kernel_rfl) (fun _ _ _ h => h) (Or.inl ⟨by rfl, ?_⟩) (by assumption) ?_
      rotate_left 1
      · intro w' hSw
        try dsimp only at hSw
        go_simp
        try with_reducible rfl
      try simp only [List.getElem_toArray, List.getElem_cons_zero, List.getElem_cons_succ, Act.put, List.setIfInBounds_toArray, List.set_cons_zero, List.set_cons_succ]
      refine late.ready (rs := [12]) (by kernel_rfl) (by simp) ?_
      refine late.Each.cons rfl (fun K hK => ?_) late.Each.nil
      try simp only [List.getElem_toArray, List.getElem_cons_zero, List.getElem_cons_succ]
      go_simp
      obtain ⟨w9, hw9⟩ : ∃ x, x = W1 := ⟨_, rfl⟩
      rw [← hw9] at hot HRD HGL ⊢
      clear hw9
      obtain ⟨W2, hW2⟩ : ∃ x, x = w9.alloc (.cells #[.int .i64 kind, .slice (some ⟨g, 0, none⟩) n cp, .int .i64 (op : Int)] 91) := ⟨_, rfl⟩
      obtain ⟨g2, hg2⟩ : ∃ x, x = w9.heap.size := ⟨_, rfl⟩
      rw [← hW2, ← hg2]
      have hal : Only (fun _ => False) w9 W2 := by rw [hW2]; exact (Only.refl _ _).alloc _
      have HNW : Hid (∀ j u, (encP ⟨kind, g, n, cp, op, ls⟩)[j]? = some u → W2.cell? ⟨g2, j, none⟩ = some u) := Lib.hid (fun j u hu => by
        rw [hW2, hg2, Go.Joins.cell_of_block (cs := #[.int .i64 kind, .slice (some ⟨g, 0, none⟩) n cp, .int .i64 (op : Int)]) (t := 91) (fr := (0, 0)) (by rw [heap_alloc, if_pos rfl])]
        rw [← hu]; simp [encP])
      have H9 := Lib.hid hot.out
      have HAL := Lib.hid hal
      have HSZ : Hid (w9.heap.size ≤ W2.heap.size) := Lib.hid hal.size
      replace hot := Lib.hid (hot.out.trans hal)
      clear hW2 hg2 hal
      refine hK.out _ _ (fun _ => HS.out _ hot.out) (fun hHeld2 => ?_)
      replace hHeld2 := hHeld2 rfl
      clear hK K
      try simp only [List.getElem_toArray, List.getElem_cons_zero, List.getElem_cons_succ, Act.put, List.setIfInBounds_toArray, List.set_cons_zero, List.set_cons_succ]
      refine late.ready (rs := [13]) (by kernel_rfl) (by simp) ?_
      refine late.Each.cons rfl (fun K hK => ?_) late.Each.nil
      refine step_post (a := { tmps := _, defers := _ }) rfl _ _ rfl _ L rfl (HOW.out _ hot.out) g2 1 ⟨kind, g, n, cp, op, ls⟩ rfl HNW.out (by omega) ?_
      rintro v3 W3 hown hgrow hkk
      obtain ⟨gq, bc, hvf, -, -, hbc, -⟩ := owns_form hown (by simp)
      have hl1 : (L ++ [(⟨kind, g, n, cp, op, ls⟩ : Ps)]).length = L.length + 1 := by simp
      rw [hl1] at hvf hbc
      subst hvf
      have hgo := Only.of_grown hgrow
      obtain ⟨s0, s1, s2, s3⟩ := HS.out _ hot.out
      have d0 := hgo.cell' s0 (fun e => HNP.out e)
      have f0 : W3.frozen? ⟨p, 0, none⟩ = false := (hgo.frozen (p := ⟨p, 0, none⟩) (World.block_lt_of_cell? _ _ s0) (fun e => HNP.out e)).trans (HJ3.out _ hot.out).f0
      have HOW12 := Lib.hid hown
      have HKK : Hid (∀ k, (.slice (some ⟨gq, 0, none⟩) (L.length + 1) bc : Value).ownBlock = some k → (.slice a0 L.length c0 : Value).ownBlock = some k ∨ w9.heap.size ≤ k) := Lib.hid (fun k e => (hkk k e).imp (fun x => x) (fun e2 => Nat.le_trans HSZ.out e2))
      have HG9 : Hid (Only (fun x => x = p ∨ (.slice a0 L.length c0 : Value).ownBlock = some x) w9 W3) := Lib.hid ((HAL.out.mono (fun _ _ f => f.elim)).trans (hgo.mono (fun k _ e => .inr e)))
      have HJ12 : Hid (W3.cell? ⟨p, 1, none⟩ = some (.int .i64 (op : Int)) ∧ W3.cell? ⟨p, 2, none⟩ = some (.map (some mb)) ∧ W3.frozen? ⟨p, 1, none⟩ = false ∧ W3.frozen? ⟨p, 2, none⟩ = false) := Lib.hid ⟨hgo.cell' s1 (fun e => HNP.out e), hgo.cell' (HJ3.out _ hot.out).c2 (fun e => HNP.out e), (hgo.frozen (p := ⟨p, 1, none⟩) (World.block_lt_of_cell? _ _ s1) (fun e => HNP.out e)).trans (HJ3.out _ hot.out).f1, (hgo.frozen (p := ⟨p, 2, none⟩) (World.block_lt_of_cell? _ _ (HJ3.out _ hot.out).c2) (fun e => HNP.out e)).trans (HJ3.out _ hot.out).f2⟩
      have HQ12 : Hid (W3.cell? ⟨q, 0, none⟩ = some (.int .i64 kind) ∧ W3.cell? ⟨q, 1, none⟩ = some (.slice (some ⟨b, off, none⟩) n cap)) := Lib.hid ⟨hgo.cell' s2 (fun e => by have h1 : q < w.heap.size := HAT.out.own.lt e; have := HQW.out; omega), hgo.cell' s3 (fun e => by have h1 : q < w.heap.size := HAT.out.own.lt e; have := HQW.out; omega)⟩
      have hl1z : IntKind.i64.wrap (((L.length + 1 : Nat) : Int) - 1) = (L.length : Int) := by rw [IntKind.wrap_i64]; omega
      clear hown hgrow hkk hgo HNW s0 s1 s2 s3
      refine hK.out _ _ (fun _ => ⟨d0, HJ12.out.1, HQ12.out.1, HQ12.out.2⟩) (fun hHeld3 => ?_)
      replace hHeld3 := hHeld3 rfl
      clear hK K
      try simp only [List.getElem_toArray, List.getElem_cons_zero, List.getElem_cons_succ, Act.put, List.setIfInBounds_toArray, List.set_cons_zero, List.set_cons_succ]
      refine late.take (i := 14) [15, 16] (v := ?_) rfl (by kernel_rfl) (by kernel_rfl) (by kernel_rfl) (by kernel_rfl) (fun _ _ _ h => h) (Or.inl ⟨by rfl, ?_⟩) (by assumption) ?_
      rotate_left 1
      · intro w' hSw
        try dsimp only at hSw
        go_simp
        try with_reducible rfl
      try simp only [List.getElem_toArray, List.getElem_cons_zero, List.getElem_cons_succ, Act.put, List.setIfInBounds_toArray, List.set_cons_zero, List.set_cons_succ]
      refine late.take (i := 15) [16] (v := ?_) rfl (by kernel_rfl) (by kernel_rfl) (by kernel_rfl) (by kernel_rfl) (fun _ _ _ h => h) (Or.inl ⟨by rfl, ?_⟩) (by assumption) ?_
      rotate_left 1
      · intro w' hSw
        try dsimp only at hSw
        go_simp
        try with_reducible rfl
      try simp only [List.getElem_toArray, List.getElem_cons_zero, List.getElem_cons_succ, Act.put, List.setIfInBounds_toArray, List.set_cons_zero, List.set_cons_succ]
      refine late.ready (rs := [16]) (by kernel_rfl) (by simp) ?_
      refine late.Each.cons rfl (fun K hK => ?_) late.Each.nil
      try simp only [List.getElem_toArray, List.getElem_cons_zero, List.getElem_cons_succ]
      go_simp
      refine hK.out _ _ (fun h => by cases h) (fun _ => ?_)
      clear hK K
      try simp only [List.getElem_toArray, List.getElem_cons_zero, List.getElem_cons_succ, Act.put, List.setIfInBounds_toArray, List.set_cons_zero, List.set_cons_succ]
      refine late.done (by kernel_rfl) ?_ _
      refine NoPanic.normal ?_
      obtain ⟨w5, hw5⟩ : ∃ x, x = W3.setCell ⟨p, 0, none⟩ (.slice (some ⟨gq, 0, none⟩) (L.length + 1) bc : Value) := ⟨_, rfl⟩
      have e0 : w5.cell? ⟨p, 0, none⟩ = some (.slice (some ⟨gq, 0, none⟩) (L.length + 1) bc : Value) := by rw [hw5]; exact cell_same d0
      have ef : w5.frozen? ⟨p, 0, none⟩ = false := by rw [hw5]; exact frozen_set.trans f0
      have HJN : Hid (JnC w5 p (.slice (some ⟨gq, 0, none⟩) (L.length + 1) bc : Value) op (some mb)) := Lib.hid ⟨e0, by rw [hw5, cell_other (fun e => by injection e with _ e _; omega)]; exact HJ12.out.1, by rw [hw5, cell_other (fun e => by injection e with _ e _; omega)]; exact HJ12.out.2.1, ef, by rw [hw5]; exact frozen_set.trans HJ12.out.2.2.1, by rw [hw5]; exact frozen_set.trans HJ12.out.2.2.2, (HJ3.out w3 (Only.refl _ _)).le⟩
      have HNP9 : Hid ((.slice (some ⟨gq, 0, none⟩) (L.length + 1) bc : Value).ownBlock ≠ some p) := Lib.hid (fun e => (HKK.out p e).elim (fun e => HNP.out e) (fun e => by have := H9.out.size; have := HW3.out.size; have := HAT.out.lt; omega))
      have HOW5 : Hid (OwnP w5 (.slice (some ⟨gq, 0, none⟩) (L.length + 1) bc : Value) (L ++ [⟨kind, g, n, cp, op, ls⟩])) := Lib.hid (by rw [hw5]; have h := HOW12.out.only (Only.set (fun x => x = p) _ p 0 (.slice (some ⟨gq, 0, none⟩) (L.length + 1) bc : Value) rfl) (fun k e e2 => HNP9.out (by rw [e, e2])); exact h)
      have HG5 : Hid (Only (fun x => x = p ∨ (.slice a0 L.length c0 : Value).ownBlock = some x) w9 w5) := Lib.hid (HG9.out.trans (by rw [hw5]; exact Only.set _ _ p 0 _ (.inl rfl)))
      have HW9 : Hid (Only (fun x => x = p ∨ m = some x) w w9) := Lib.hid (HW3.out.trans (H9.out.mono (fun _ _ f => f.elim)))
      have HMB9 : Hid (MapA w5 mb nn3 (addC C op ls)) := Lib.hid ((HMP3.out.only H9.out (fun f => f)).only HG5.out (fun e => e.elim (fun e => HMBN.out.1 e) (fun e => HMBN.out.2 e)))
      have HEND : Hid (JnAt (fun x => S x ∨ w.heap.size ≤ x) w5 p (.slice (some ⟨gq, 0, none⟩) (L.length + 1) bc : Value) op (some mb) nn3 (addC C op ls) (L ++ [⟨kind, g, n, cp, op, ls⟩])) := Lib.hid ⟨HJN.out, HMB9.out, HOW5.out, HNP9.out, .inl HAT.out.sp, (fun k e => (HKK.out k e).elim (fun e => .inl (HAT.out.sv k e)) (fun e => .inr (by have := HW9.out.size; omega))), (fun x e => by
        injection e with e
        subst e
        refine ⟨HMBS.out.elim (fun e => .inl (HAT.out.sm _ e).1) (fun e => .inr e), HMBN.out.1, fun e => ?_⟩
        rcases HKK.out _ e with e | e
        · exact HMBN.out.2 e
        · have := HMP3.out.lt
          have := H9.out.size
          omega), by rw [hl1]; have := HAT.out.nb; have := HNN3.out; omega, by rw [hl1]; omega,
        ps_more HAT.out HW9.out HG5.out HKK.out HMBS.out HRD.out HCZ.out (Nat.le_refl _) (by have := HGW.out; have := HW3.out.size; show w.heap.size ≤ g; omega) HGL.out (by have := HMP3.out.lt; have := HGW.out; show mb ≠ g; omega)⟩
      have HOS : Hid (Only S w w5) := Lib.hid ((HW9.out.mono (fun k hk e => e.elim (fun e => by rw [e]; exact HAT.out.sp) (fun e => (HAT.out.sm k e).1))).then HG5.out (fun k hk e => e.elim (fun e => by rw [e]; exact HAT.out.sp) (fun e => HAT.out.sv k e)))
      rw [← hw5]
      clear hw5 hHeld d0 f0 ef HOW12 HG9 hot HS HAL HSZ HRD HGL HJ12 HMB9 HOW5 HNP9 HJN
      go_wp2_with fail
      go_ret2
      exact ⟨rfl, _, _, _, _, _, HEND.out, HOS.out⟩
end Go.Proofs.Ytkbaafgaaiekpaa.jnw

namespace Go.Proofs.Ytkbaafgaaiekpaa.jnw
open Go.RowKit mem accm accn entw entm
set_option linter.unusedVariables false

/-- what an account was moved in a period -/
def movV (C : Ac → Option (List Int)) (op : Nat) (a : Ac) (per : Int) : Int := if per < 0 ∨ (op : Int) < per then 0 else ((C a).getD noughts).getD per.toNat 0
open Classical in
/-- why an entry isn't posted; nought: it is -/
noncomputable def pErr (C : Ac → Option (List Int)) (kind : Int) (ls : List Lg) : Int := if chk kind ls ≠ 0 then chk kind ls else if ∃ j, j < ls.length ∧ overL C (ls.getD j default) then 6 else 0
def PostAt (S : Nat → Prop) (p op : Nat) (v : Value) (m : Option Nat) (nn : Nat) (C : Ac → Option (List Int)) (L : List Ps) (kind : Int) (n : Nat) (ls : List Lg) (w : World) (e : Ending) (w' : World) : Prop :=
  (pErr C kind ls ≠ 0 ∧ e = .returned (.tuple #[.int .i64 0, .int .i64 (pErr C kind ls)]) ∧ Only (fun _ => False) w w') ∨
  (pErr C kind ls = 0 ∧ chk kind ls = 0 ∧ e = .returned (.tuple #[.int .i64 (L.length : Int), .int .i64 0]) ∧ (∃ v' m' nn' g cp, JnAt (fun q => S q ∨ w.heap.size ≤ q) w' p v' op m' nn' (addC C op ls) (L ++ [⟨kind, g, n, cp, op, ls⟩])) ∧ Only S w w')
theorem post_any {S : Nat → Prop} (p op : Nat) (v : Value) (m : Option Nat) (nn : Nat) (C : Ac → Option (List Int)) (L : List Ps) (kind : Int) (a : Option Addr) (n cap : Nat) (ls : List Lg) (w : World) (h : JnAt S w p v op m nn C L) (hr : ReadsL w a n ls) (hn0 : L.length < 16384) (ha : ∀ x, a = some x → ¬ S x.block) :
    Calls Try.prog 31 #[.pointer (some ⟨p, 0, none⟩), .agg #[.int .i64 kind, .slice a n cap]] w (PostAt S p op v m nn C L kind n ls w) := by
  by_cases hc : chk kind ls = 0
  · by_cases ho : ∃ j, j < ls.length ∧ overL C (ls.getD j default)
    · have he : pErr C kind ls = 6 := by unfold pErr; rw [if_neg (by simpa using hc), if_pos ho]
      obtain ⟨a0, c0, rfl, -⟩ := h.own.reads
      refine (post_over p op a0 L.length c0 m nn C kind a n cap ls w h.jc h.mp hr hc hn0 (by rw [← hr.1]; exact ho)).mono ?_
      rintro e w' ⟨rfl, ho⟩
      exact .inl ⟨by rw [he]; decide, by rw [he], ho⟩
    · have he : pErr C kind ls = 0 := by unfold pErr; rw [if_neg (by simpa using hc), if_neg ho]
      refine (post_yes p op v m nn C L kind a n cap ls w h hr hc hn0 (fun j hj hov => ho ⟨j, by rw [hr.1]; exact hj, hov⟩) ha).mono ?_
      rintro e w' ⟨rfl, v', m', nn', g, cp, h1, h2⟩
      exact .inr ⟨he, hc, rfl, ⟨v', m', nn', g, cp, h1⟩, h2⟩
  · have he : pErr C kind ls = chk kind ls := by unfold pErr; rw [if_pos hc]
    refine (post_no p kind a n cap ls w hr hc).mono ?_
    rintro e w' ⟨rfl, ho⟩
    exact .inl ⟨by rw [he]; exact hc, by rw [he], ho⟩

theorem sum_set : ∀ (l : List Int) (k : Nat) (y : Int), k < l.length → (l.set k y).sum = l.sum - l.getD k 0 + y := by
  intro l
  induction l with
  | nil => intro k y h; simp at h
  | cons x r ih =>
    intro k y h
    cases k with
    | zero => simp [List.getD]; omega
    | succ k =>
      have := ih k y (by simpa using h)
      rw [List.set_cons_succ, List.sum_cons, this, List.sum_cons]
      simp [List.getD]
      omega
end Go.Proofs.Ytkbaafgaaiekpaa.jnw

namespace Go.Proofs.Ytkbaafgaaiekpaa.jnw
open Go.RowKit mem accm accn entw entm bigw intm
set_option linter.unusedVariables false

/-- a leg more on its side -/
def trS (x : Int × Int) (l : Lg) : Option (Int × Int) := if 0 < l.a then (if isInt (x.1 + l.a) = true then some (x.1 + l.a, x.2) else none) else (if isInt (x.2 - l.a) = true then some (x.1, x.2 - l.a) else none)
def trL : List Lg → Int × Int → Option (Int × Int)
  | [], x => some x
  | l :: r, x => (trS x l).bind (trL r)
theorem trL_append : ∀ (a b : List Lg) (x : Int × Int), trL (a ++ b) x = (trL a x).bind (trL b) := by
  intro a
  induction a with
  | nil => intro b x; rfl
  | cons l r ih =>
    intro b x
    show (trS x l).bind (trL (r ++ b)) = ((trS x l).bind (trL r)).bind (trL b)
    cases trS x l with
    | none => rfl
    | some y => exact ih b y
theorem trL_take {ls : List Lg} {k : Nat} {x : Int × Int} (h : k < ls.length) {d c : Int} (hk : trL (ls.take k) x = some (d, c)) : trL (ls.take (k + 1)) x = trS (d, c) (ls.getD k default) := by
  rw [take_snocL ls k h, trL_append, hk]
  show (trS (d, c) _).bind (trL []) = _
  cases trS (d, c) (ls.getD k default) <;> rfl
theorem trL_none {ls : List Lg} {k : Nat} {x : Int × Int} (hk : trL (ls.take k) x = none) : trL ls x = none := by
  rw [← List.take_append_drop k ls, trL_append, hk]
  rfl
def Two (x : Int × Int) : Prop := isInt x.1 = true ∧ isInt x.2 = true
theorem trS_two {x y : Int × Int} {l : Lg} (hx : Two x) (h : trS x l = some y) : Two y := by
  unfold trS at h
  split at h
  · split at h
    · rename_i h2
      injection h with h
      subst h
      exact ⟨h2, hx.2⟩
    · cases h
  · split at h
    · rename_i h2
      injection h with h
      subst h
      exact ⟨hx.1, h2⟩
    · cases h
theorem trL_two : ∀ (ls : List Lg) {x y : Int × Int}, Two x → trL ls x = some y → Two y := by
  intro ls
  induction ls with
  | nil => intro x y hx h; injection h with h; subst h; exact hx
  | cons l r ih =>
    intro x y hx h
    have h : (trS x l).bind (trL r) = some y := h
    cases hs : trS x l with
    | none => rw [hs] at h; cases h
    | some z => rw [hs] at h; exact ih (trS_two hx hs) h
/-- the entries of a period, or of all -/
def trP (per : Int) : List Ps → Int × Int → Option (Int × Int)
  | [], x => some x
  | p :: r, x => if per ≠ -1 ∧ (p.per : Int) ≠ per then trP per r x else (trL p.ls x).bind (trP per r)
theorem trP_append (per : Int) : ∀ (a b : List Ps) (x : Int × Int), trP per (a ++ b) x = (trP per a x).bind (trP per b) := by
  intro a
  induction a with
  | nil => intro b x; rfl
  | cons p r ih =>
    intro b x
    show (if _ then trP per (r ++ b) x else (trL p.ls x).bind (trP per (r ++ b))) = (if _ then trP per r x else (trL p.ls x).bind (trP per r)).bind (trP per b)
    split
    · exact ih b x
    · cases trL p.ls x with
      | none => rfl
      | some y => exact ih b y
theorem trP_two (per : Int) : ∀ (L : List Ps) {x y : Int × Int}, Two x → trP per L x = some y → Two y := by
  intro L
  induction L with
  | nil => intro x y hx h; injection h with h; subst h; exact hx
  | cons p r ih =>
    intro x y hx h
    have h : (if per ≠ -1 ∧ (p.per : Int) ≠ per then trP per r x else (trL p.ls x).bind (trP per r)) = some y := h
    split at h
    · exact ih hx h
    · cases hs : trL p.ls x with
      | none => rw [hs] at h; cases h
      | some z => rw [hs] at h; exact ih (trL_two _ hx hs) h
theorem take_snocP (L : List Ps) (k : Nat) (h : k < L.length) : L.take (k + 1) = L.take k ++ [L.getD k default] := by
  rw [List.take_succ_eq_append_getElem h]
  have : L.getD k default = L[k] := by simp [List.getD, h]
  rw [this]
theorem trP_take {per : Int} {L : List Ps} {k : Nat} {x y : Int × Int} (h : k < L.length) (hk : trP per (L.take k) x = some y) : trP per (L.take (k + 1)) x = if per ≠ -1 ∧ ((L.getD k default).per : Int) ≠ per then some y else trL (L.getD k default).ls y := by
  rw [take_snocP L k h, trP_append, hk]
  show (if _ then trP per [] y else (trL _ y).bind (trP per [])) = _
  split
  · rfl
  · cases trL (L.getD k default).ls y <;> rfl
theorem trP_none {per : Int} {L : List Ps} {k : Nat} {x : Int × Int} (hk : trP per (L.take k) x = none) : trP per L x = none := by
  rw [← List.take_append_drop k L, trP_append, hk]
  rfl

/-- what trial answers -/
def TrAt (o : Option (Int × Int)) (w : World) (e : Ending) (w' : World) : Prop := (∃ d c ok, e = .returned (.tuple #[.int .i64 d, .int .i64 c, .bool ok]) ∧ ((ok = true ∧ o = some (d, c)) ∨ (ok = false ∧ o = none))) ∧ Only (fun _ => False) w w'
set_option maxRecDepth 100000 in
set_option maxHeartbeats 2000000 in
theorem trl_any (d0 c0 : Int) (a : Option Addr) (n cap : Nat) (ls : List Lg) (w : World) (hr : ReadsL w a n ls) (hd : Two (d0, c0)) :
    Calls Try.prog 50 #[.int .i64 d0, .int .i64 c0, .slice a n cap] w (TrAt (trL ls (d0, c0)) w) := by
  have HR := Lib.hid hr
  have HD := Lib.hid hd
  have HLN : Hid (n = ls.length) := Lib.hid hr.1.symm
  have hnm := hr.2.1
  clear hr hd
  go_enter Try.func50, Try.ntmps50
  go_wp2_with fail
  go_loopw [14, 0, 1] (fun i d c wr => ∃ (k : Nat) (x : Int × Int), k ≤ n ∧ i = .int .i64 k ∧ d = .int .i64 x.1 ∧ c = .int .i64 x.2 ∧ Hid (trL (ls.take k) (d0, c0) = some x ∧ Two x) ∧ Hid (Only (fun _ => False) w wr)) (fun i _ _ _ => n - (intOf i).toNat)
  case atStart => exact ⟨0, (d0, c0), by omega, rfl, rfl, rfl, Lib.hid ⟨rfl, HD.out⟩, Lib.hid (Only.refl _ _)⟩
  case round =>
    obtain ⟨k, ⟨x, y⟩, hk, rfl, rfl, rfl, HT, HW⟩ := hrel
    rename World => wr
    by_cases h8 : k < n
    · obtain ⟨b, off, rfl, hc⟩ := (HR.out.only HW.out (fun _ _ f => f)).2.2.2.resolve_left (by omega)
      obtain ⟨c0', c1', c2', c3'⟩ := hc k h8
      have hin := HR.out.2.2.1 _ (getL_mem ls k (by rw [← HLN.out]; exact h8))
      have HTK := Lib.hid (trL_take (ls := ls) (k := k) (x := (d0, c0)) (by rw [← HLN.out]; exact h8) HT.out.1)
      have HTW := Lib.hid HT.out.2
      obtain ⟨⟨xk, xn, xg, xa⟩, hle⟩ : ∃ x, ls.getD k default = x := ⟨_, rfl⟩
      rw [hle] at c0' c1' c2' c3' hin HTK
      dsimp only at c0' c1' c2' c3'
      have HXA : Hid (InI xa) := Lib.hid hin.2.2.2
      have hk0 : (0 : Int) ≤ (k : Int) := by omega
      have hkm : (k : Int) < (n : Int) := by omega
      clear hc hle hin
      have HAL : Hid (∀ o, Only (fun _ => False) w (wr.alloc o)) := Lib.hid (fun o => HW.out.alloc o)
      by_cases hp : 0 < xa
      · have HAD := Lib.hid (fun w' => aadd_any x xa ((isInt_iff _).1 HTW.out.1) HXA.out w')
        by_cases hi : isInt (x + xa) = true
        · have HNX : Hid (trL (ls.take (k + 1)) (d0, c0) = some (x + xa, y)) := Lib.hid (by rw [HTK.out]; unfold trS; rw [if_pos hp, if_pos hi])
          have HE : Hid (intOr (x + xa) = x + xa) := Lib.hid (by unfold intOr; rw [hi]; rfl)
          go_wp2_with fail
          refine (HAD.out _).mono ?_
          rintro _ w5 ⟨rfl, rfl⟩
          rw [HE.out, hi]
          clear hi
          go_wp2_with fail
          go_roundw
          case rel => exact ⟨k + 1, (x + xa, y), by omega, by go_num, rfl, rfl, Lib.hid ⟨HNX.out, trL_two _ HD.out HNX.out⟩, Lib.hid (HAL.out _)⟩
          case measure => (simp [intOf]; omega)
        · have HNX : Hid (trL ls (d0, c0) = none) := Lib.hid (trL_none (k := k + 1) (by rw [HTK.out]; unfold trS; rw [if_pos hp, if_neg hi]))
          have hi : isInt (x + xa) = false := by cases h : isInt (x + xa) <;> simp_all
          go_wp2_with fail
          refine (HAD.out _).mono ?_
          rintro _ w5 ⟨rfl, rfl⟩
          rw [hi]
          clear hi
          go_wp2_with fail
          go_ret3
          exact ⟨⟨0, 0, false, rfl, .inr ⟨rfl, HNX.out⟩⟩, HAL.out _⟩
      · have HAD := Lib.hid (fun w' => asub_any y xa ((isInt_iff _).1 HTW.out.2) HXA.out w')
        by_cases hi : isInt (y - xa) = true
        · have HNX : Hid (trL (ls.take (k + 1)) (d0, c0) = some (x, y - xa)) := Lib.hid (by rw [HTK.out]; unfold trS; rw [if_neg hp, if_pos hi])
          have HE : Hid (intOr (y - xa) = y - xa) := Lib.hid (by unfold intOr; rw [hi]; rfl)
          go_wp2_with fail
          refine (HAD.out _).mono ?_
          rintro _ w5 ⟨rfl, rfl⟩
          rw [HE.out, hi]
          clear hi
          go_wp2_with fail
          go_roundw
          case rel => exact ⟨k + 1, (x, y - xa), by omega, by go_num, rfl, rfl, Lib.hid ⟨HNX.out, trL_two _ HD.out HNX.out⟩, Lib.hid (HAL.out _)⟩
          case measure => (simp [intOf]; omega)
        · have HNX : Hid (trL ls (d0, c0) = none) := Lib.hid (trL_none (k := k + 1) (by rw [HTK.out]; unfold trS; rw [if_neg hp, if_neg hi]))
          have hi : isInt (y - xa) = false := by cases h : isInt (y - xa) <;> simp_all
          go_wp2_with fail
          refine (HAD.out _).mono ?_
          rintro _ w5 ⟨rfl, rfl⟩
          rw [hi]
          clear hi
          go_wp2_with fail
          go_ret3
          exact ⟨⟨0, 0, false, rfl, .inr ⟨rfl, HNX.out⟩⟩, HAL.out _⟩
    · have hge : ¬ (k : Int) < (n : Int) := by omega
      obtain rfl : n = k := by omega
      have HNX : Hid (trL ls (d0, c0) = some (x, y)) := Lib.hid (by have h := HT.out.1; rwa [List.take_of_length_le (by rw [← HLN.out]; omega)] at h)
      go_wp2_with fail
      go_ret3
      exact ⟨⟨x, y, true, rfl, .inl ⟨rfl, HNX.out⟩⟩, HW.out⟩

def triE (op : Nat) (L : List Ps) (per : Int) : Int := if per < -1 ∨ (op : Int) < per then 7 else if (trP per L (0, 0)).isSome = true then 0 else 6
def triO (op : Nat) (L : List Ps) (per : Int) : Int × Int := if per < -1 ∨ (op : Int) < per then (0, 0) else (trP per L (0, 0)).getD (0, 0)
set_option maxRecDepth 100000 in
set_option maxHeartbeats 2000000 in
theorem trial_any {S : Nat → Prop} (p op : Nat) (v : Value) (m : Option Nat) (nn : Nat) (C : Ac → Option (List Int)) (L : List Ps) (per : Int) (w : World) (h : JnAt S w p v op m nn C L) :
    Calls Try.prog 22 #[.pointer (some ⟨p, 0, none⟩), .int .i64 per] w fun e w' => e = .returned (.tuple #[.int .i64 (triO op L per).1, .int .i64 (triO op L per).2, .int .i64 (triE op L per)]) ∧ Only (fun _ => False) w w' := by
  obtain ⟨a0, c0, rfl, hlc, hcm, hrd, -⟩ := h.own.reads
  have e0 := h.jc.c0
  have e1 := h.jc.c1
  have HAT := Lib.hid h
  have HRD := Lib.hid hrd
  have hlm := h.len
  unfold maxLen at hcm
  clear h hrd
  by_cases hlo : per < -1
  · have h1 : triE op L per = 7 := by unfold triE; rw [if_pos (.inl hlo)]
    have h2 : triO op L per = (0, 0) := by unfold triO; rw [if_pos (.inl hlo)]
    rw [h1, h2]
    clear h1 h2
    go_enter Try.func22, Try.ntmps22
    go_wp2_with fail
    go_ret3
    exact ⟨rfl, Only.refl _ _⟩
  · by_cases hhi : (op : Int) < per
    · have h1 : triE op L per = 7 := by unfold triE; rw [if_pos (.inr hhi)]
      have h2 : triO op L per = (0, 0) := by unfold triO; rw [if_pos (.inr hhi)]
      rw [h1, h2]
      clear h1 h2
      go_enter Try.func22, Try.ntmps22
      go_wp2_with fail
      go_ret3
      exact ⟨rfl, Only.refl _ _⟩
    · have h1 : triE op L per = if (trP per L (0, 0)).isSome = true then 0 else 6 := by unfold triE; rw [if_neg (by omega)]
      have h2 : triO op L per = (trP per L (0, 0)).getD (0, 0) := by unfold triO; rw [if_neg (by omega)]
      rw [h1, h2]
      clear h1 h2
      have HZ : Hid (Two (0, 0)) := Lib.hid ⟨by decide, by decide⟩
      obtain ⟨ER, her⟩ : ∃ E : Ending → World → Prop, E = fun e w' => e = .returned (.tuple #[.int .i64 ((trP per L (0, 0)).getD (0, 0)).1, .int .i64 ((trP per L (0, 0)).getD (0, 0)).2, .int .i64 (if (trP per L (0, 0)).isSome = true then 0 else 6)]) ∧ Only (fun _ => False) w w' := ⟨_, rfl⟩
      have HER := Lib.hid her
      have HEN : Hid (∀ w', Only (fun _ => False) w w' → trP per L (0, 0) = none → ER (.returned (.tuple #[.int .i64 0, .int .i64 0, .int .i64 6])) w') := Lib.hid (fun w' ho hn => by rw [her, hn]; exact ⟨rfl, ho⟩)
      have HES : Hid (∀ w' d c, Only (fun _ => False) w w' → trP per L (0, 0) = some (d, c) → ER (.returned (.tuple #[.int .i64 d, .int .i64 c, .int .i64 0])) w') := Lib.hid (fun w' d c ho hn => by rw [her, hn]; exact ⟨rfl, ho⟩)
      rw [← her]
      clear her HER
      go_enter Try.func22, Try.ntmps22
      go_wp2_with fail
      clear e0 e1
      go_loopw [29, 7, 8] (fun i d c wr => ∃ (k : Nat) (x : Int × Int), k ≤ L.length ∧ i = .int .i64 k ∧ d = .int .i64 x.1 ∧ c = .int .i64 x.2 ∧ Hid (trP per (L.take k) (0, 0) = some x ∧ Two x) ∧ Hid (Only (fun _ => False) w wr)) (fun i _ _ _ => L.length - (intOf i).toNat)
      case atStart => exact ⟨0, (0, 0), by omega, rfl, rfl, rfl, Lib.hid ⟨rfl, HZ.out⟩, Lib.hid (Only.refl _ _)⟩
      case round =>
        obtain ⟨k, ⟨x, y⟩, hk, rfl, rfl, rfl, HT, HW⟩ := hrel
        rename World => wr
        by_cases h8 : k < L.length
        · obtain ⟨g, rfl, hc⟩ := (HRD.out.only HW.out (fun _ _ f => f)).2.resolve_left (by omega)
          obtain ⟨c0', c1', c2'⟩ := hc k h8
          have hmem : L.getD k default ∈ L := by rw [List.getD_eq_getElem?_getD, List.getElem?_eq_getElem h8]; exact List.getElem_mem h8
          have HTK := Lib.hid (trP_take (per := per) (L := L) (k := k) (x := (0, 0)) h8 HT.out.1)
          have HTW := Lib.hid HT.out.2
          have HPS := Lib.hid (HAT.out.quiet HW.out |>.pl _ hmem)
          obtain ⟨⟨xk, xg, xl, xc, xp, xs⟩, hle⟩ : ∃ x, L.getD k default = x := ⟨_, rfl⟩
          rw [hle] at c0' c1' c2' HTK HPS
          dsimp only at c0' c1' c2'
          have hk0 : (0 : Int) ≤ (k : Int) := by omega
          have hkm : (k : Int) < (L.length : Int) := by omega
          clear hc hle hmem
          have HAL : Hid (∀ o, Only (fun _ => False) wr (wr.alloc o)) := Lib.hid (fun o => (Only.refl _ _).alloc o)
          by_cases hsk : per ≠ -1 ∧ (xp : Int) ≠ per
          · have HNX : Hid (trP per (L.take (k + 1)) (0, 0) = some (x, y)) := Lib.hid (by rw [HTK.out, if_pos hsk])
            obtain ⟨hs1, hs2⟩ := hsk
            have hb1 : (per != -1) = true := by simpa using hs1
            have hb2 : ((xp : Int) != per) = true := by simpa using hs2
            go_wp2_with fail
            go_roundw
            case rel => exact ⟨k + 1, (x, y), by omega, by go_num, rfl, rfl, Lib.hid ⟨HNX.out, HTW.out⟩, Lib.hid (HW.out.trans (HAL.out _))⟩
            case measure => (simp [intOf]; omega)
          · have HTL := Lib.hid (show trP per (L.take (k + 1)) (0, 0) = trL xs (x, y) by rw [HTK.out, if_neg hsk])
            have HCT : Hid (∀ o, Calls Try.prog 50 #[.int .i64 x, .int .i64 y, .slice (some ⟨xg, 0, none⟩) xl xc] (wr.alloc o) (TrAt (trL xs (x, y)) (wr.alloc o))) := Lib.hid (fun o => trl_any x y _ xl xc xs _ (HPS.out.1.only (HAL.out o) (fun _ _ f => f)) HTW.out)
            have hsk' : per = -1 ∨ (xp : Int) = per := by omega
            clear hsk HTK
            rcases hsk' with hq | hq
            · have hb1 : (per != -1) = false := by simpa using hq
              subst hq
              go_wp2_with fail
              refine (HCT.out _).mono ?_
              rintro _ w5 ⟨⟨d5, c5, ok, rfl, hok⟩, ho⟩
              have HO5 := Lib.hid (HW.out.trans ((HAL.out _).trans ho))
              clear ho
              rcases hok with ⟨rfl, hok⟩ | ⟨rfl, hok⟩
              · have HNX := Lib.hid (HTL.out.trans hok)
                clear hok
                go_wp2_with fail
                go_roundw
                case rel => exact ⟨k + 1, (d5, c5), by omega, by go_num, rfl, rfl, Lib.hid ⟨HNX.out, trP_two _ _ HZ.out HNX.out⟩, HO5⟩
                case measure => (simp [intOf]; omega)
              · have HNX := Lib.hid (trP_none (HTL.out.trans hok))
                clear hok
                go_wp2_with fail
                go_ret3
                exact HEN.out _ HO5.out HNX.out
            · subst hq
              have hb2 : ((xp : Int) != (xp : Int)) = false := by simp
              have hb1 : ((xp : Int) != -1) = true := by simp
              go_wp2_with fail
              refine (HCT.out _).mono ?_
              rintro _ w5 ⟨⟨d5, c5, ok, rfl, hok⟩, ho⟩
              have HO5 := Lib.hid (HW.out.trans ((HAL.out _).trans ho))
              clear ho
              rcases hok with ⟨rfl, hok⟩ | ⟨rfl, hok⟩
              · have HNX := Lib.hid (HTL.out.trans hok)
                clear hok
                go_wp2_with fail
                go_roundw
                case rel => exact ⟨k + 1, (d5, c5), by omega, by go_num, rfl, rfl, Lib.hid ⟨HNX.out, trP_two _ _ HZ.out HNX.out⟩, HO5⟩
                case measure => (simp [intOf]; omega)
              · have HNX := Lib.hid (trP_none (HTL.out.trans hok))
                clear hok
                go_wp2_with fail
                go_ret3
                exact HEN.out _ HO5.out HNX.out
        · have hge : ¬ (k : Int) < (L.length : Int) := by omega
          have hkl : k = L.length := by omega
          have HNX : Hid (trP per L (0, 0) = some (x, y)) := Lib.hid (by have h := HT.out.1; rwa [List.take_of_length_le (by omega)] at h)
          clear hkl
          go_wp2_with fail
          go_ret3
          exact HES.out _ _ _ HW.out HNX.out
end Go.Proofs.Ytkbaafgaaiekpaa.jnw

