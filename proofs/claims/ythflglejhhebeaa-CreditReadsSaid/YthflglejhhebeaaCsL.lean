/- Sessions with grants: the document's Same, of the same session. -/
import Derived.Test.YthflglejhhebeaaCsK
namespace Go.Proofs.Ythflglejhhebeaa.cs
open Go.RowKit mem rwg
set_option linter.unusedVariables false

def In6 (n : Int) : Prop := -9223372036854775808 ≤ n ∧ n ≤ 9223372036854775807
set_option maxRecDepth 100000 in
theorem key_gr (x : Gr) (h0 : In6 x.g) (h1 : In6 x.u) (h2 : In6 x.a) : Try.prog.keyLits 2 92 [.int .i64 x.g, .int .i64 x.u, .int .i64 x.a, .bool x.f] = some [.int .i64 x.g, .int .i64 x.u, .int .i64 x.a, .bool x.f] := by
  have c3 : Try.prog.cellsOf 3 = 1 := by kernel_rfl
  have c4 : Try.prog.cellsOf 4 = 1 := by kernel_rfl
  have hw : ∀ {n : Int}, In6 n → (Lit.int .i64 n).wf = true := by
    intro n h
    unfold In6 at h
    simp [Lit.wf, IntKind.min, IntKind.max, IntKind.signed, IntKind.bits]; omega
  simp [Program.keyLits, Try.underlying92, Try.underlying3, Try.underlying4, c3, c4, hw h0, hw h1, hw h2]
  try rfl
set_option maxRecDepth 100000 in
theorem gr_cmp (N : Nat) (x : Gr) (h0 : In6 x.g) (h1 : In6 x.u) (h2 : In6 x.a) (w : World) : (Op.equalIn (N + 10) 92 (.agg #[.int .i64 x.g, .int .i64 x.u, .int .i64 x.a, .bool x.f]) (.agg #[.int .i64 x.g, .int .i64 x.u, .int .i64 x.a, .bool x.f])).run Try.prog w = .ok true w := by
  obtain ⟨r, hr, hiff⟩ := run_equalIn_deep (P := Try.prog) N 10 92 (by kernel_rfl) w 2 2 (.agg #[.int .i64 x.g, .int .i64 x.u, .int .i64 x.a, .bool x.f]) (.agg #[.int .i64 x.g, .int .i64 x.u, .int .i64 x.a, .bool x.f]) _ _ (by kernel_rfl) (by kernel_rfl) (key_gr x h0 h1 h2) (key_gr x h0 h1 h2)
  rw [hr, hiff.2 rfl]
set_option maxRecDepth 100000 in
set_option maxHeartbeats 8000000 in
theorem same_any (i nd num dl : Int) (a a2 : Option Addr) (n c c2 : Nat) (gs : List Gr) (w : World) (h : ReadsG w a n gs) (hc : Cp a n c) (h2 : ReadsG w a2 n gs) (hc2 : Cp a2 n c2) (hin : ∀ x ∈ gs, In6 x.g ∧ In6 x.u ∧ In6 x.a) : Calls Try.prog 38 #[.agg #[.int .i64 i, .int .i64 nd, .int .i64 num, .int .i64 dl, .slice a n c], .agg #[.int .i64 i, .int .i64 nd, .int .i64 num, .int .i64 dl, .slice a2 n c2]] w fun e w' => e = .returned (.bool true) ∧ Only (fun _ => False) w w' := by
  obtain ⟨w1, hw1⟩ : ∃ x, x = w.alloc (.cells #[.int .i64 i, .int .i64 nd, .int .i64 num, .int .i64 dl, .slice a n c] 50) := ⟨_, rfl⟩
  obtain ⟨w2, hw2⟩ : ∃ x, x = w1.alloc (.cells #[.int .i64 i, .int .i64 nd, .int .i64 num, .int .i64 dl, .slice a2 n c2] 50) := ⟨_, rfl⟩
  obtain ⟨g, hg⟩ : ∃ x, x = w.heap.size := ⟨_, rfl⟩
  have hg2 : g + 1 = w1.heap.size := by rw [hw1, hg]; simp
  obtain ⟨a0, a1, ax, a3, a4, oa⟩ := sbox hw1 hg
  obtain ⟨z0, z1, z2, z3, z4, oz⟩ := sbox hw2 hg2
  replace a0 := oz.cell' a0 (fun f => f)
  replace a1 := oz.cell' a1 (fun f => f)
  replace ax := oz.cell' ax (fun f => f)
  replace a3 := oz.cell' a3 (fun f => f)
  replace a4 := oz.cell' a4 (fun f => f)
  have HO2 := Lib.hid (oa.trans oz)
  have HA := Lib.hid (h.quiet HO2.out)
  have HB := Lib.hid (h2.quiet HO2.out)
  have HC4 : Hid (∀ w', Only (fun _ => False) w2 w' → w'.cell? ⟨g, 4, none⟩ = some (.slice a n c) ∧ w'.cell? ⟨g + 1, 4, none⟩ = some (.slice a2 n c2)) := Lib.hid (fun w' ho => ⟨ho.cell' a4 (fun f => f), ho.cell' z4 (fun f => f)⟩)
  have HL : Hid (gs.length = n) := Lib.hid h.1
  have HIN := Lib.hid hin
  have hnc := hc.1
  have hcm := hc.2.1
  unfold maxLen at hcm
  have e1 : (i != i) = false := by simp
  have e2 : (nd != nd) = false := by simp
  have e3 : (num != num) = false := by simp
  have e4 : (dl != dl) = false := by simp
  have e5 : ((n : Int) != (n : Int)) = false := by simp
  clear h hc h2 hc2 hin oa oz hg2
  go_enter Try.func38, Try.ntmps38
  go_upto_region 1 with fail
  simp only [← hw1, ← hg, ← hw2]
  clear hw1 hg hw2
  go_wp2_with fail
  clear a0 a1 ax a3 a4 z0 z1 z2 z3 z4 e1 e2 e3 e4 e5
  go_loopw [5] (fun iv wr => ∃ k : Nat, k ≤ n ∧ iv = .int .i64 (k : Int) ∧ Hid (Only (fun _ => False) w2 wr)) (fun iv _ => n - (intOf iv).toNat)
  case atStart => exact ⟨0, by omega, rfl, Lib.hid (Only.refl _ _)⟩
  case round =>
    obtain ⟨k, hk, rfl, HO⟩ := hrel
    rename World => wr
    have b4 := (HC4.out wr HO.out).1
    by_cases h8 : k < n
    · have hkn : (k : Int) < (n : Int) := by omega
      have hk0 : (0 : Int) ≤ (k : Int) := by omega
      have hwk : wrap64 ((k : Int) + 1) = (k : Int) + 1 := by unfold wrap64; omega
      obtain ⟨b, off, rfl, hcell⟩ := HA.out.cells (by omega)
      obtain ⟨b2, off2, rfl, hcell2⟩ := HB.out.cells (by omega)
      have hxx := HIN.out (gs.getD k default) (by
        have : gs.getD k default = gs[k]'(by rw [HL.out]; exact h8) := by simp [List.getD, HL.out, h8]
        rw [this]; exact List.getElem_mem _)
      have HS6 : Hid (∀ w', Only (fun _ => False) wr w' → w'.cell? ⟨g, 4, none⟩ = some (.slice (some ⟨b, off, none⟩) n c) ∧ w'.cell? ⟨g + 1, 4, none⟩ = some (.slice (some ⟨b2, off2, none⟩) n c2) ∧ w'.cell? ⟨b, off + k * 4, none⟩ = some (.int .i64 (gs.getD k default).g) ∧ w'.cell? ⟨b, off + k * 4 + 1, none⟩ = some (.int .i64 (gs.getD k default).u) ∧ w'.cell? ⟨b, off + k * 4 + 2, none⟩ = some (.int .i64 (gs.getD k default).a) ∧ w'.cell? ⟨b, off + k * 4 + 3, none⟩ = some (.bool (gs.getD k default).f) ∧ w'.cell? ⟨b2, off2 + k * 4, none⟩ = some (.int .i64 (gs.getD k default).g) ∧ w'.cell? ⟨b2, off2 + k * 4 + 1, none⟩ = some (.int .i64 (gs.getD k default).u) ∧ w'.cell? ⟨b2, off2 + k * 4 + 2, none⟩ = some (.int .i64 (gs.getD k default).a) ∧ w'.cell? ⟨b2, off2 + k * 4 + 3, none⟩ = some (.bool (gs.getD k default).f)) := Lib.hid (fun w' ho => by
        obtain ⟨d0, d1, d2, d3⟩ := hcell k h8
        obtain ⟨f0, f1, f2, f3⟩ := hcell2 k h8
        have hh := HO.out.trans ho
        exact ⟨(HC4.out w' hh).1, (HC4.out w' hh).2, hh.cell' d0 (fun f => f), hh.cell' d1 (fun f => f), hh.cell' d2 (fun f => f), hh.cell' d3 (fun f => f), hh.cell' f0 (fun f => f), hh.cell' f1 (fun f => f), hh.cell' f2 (fun f => f), hh.cell' f3 (fun f => f)⟩)
      have HC1 : Hid (∀ N w, _) := Lib.hid (fun N w => gr_cmp N (gs.getD k default) hxx.1 hxx.2.1 hxx.2.2 w)
      generalize gs.getD k default = x at *
      obtain ⟨xg, xu, xa, xf⟩ := x
      dsimp only at HS6 HC1
      have hl1 := HC1.out 9990
      have hl2 := HC1.out 9989
      clear hcell hcell2 hxx
      go_upto_region 6 with fail
      clear b4
      refine wp_region_noPanic ?_
      refine wp_region_held_drew (S := (fun w' => w'.cell? ⟨g, 4, none⟩ = some (.slice (some ⟨b, off, none⟩) n c) ∧ w'.cell? ⟨g + 1, 4, none⟩ = some (.slice (some ⟨b2, off2, none⟩) n c2) ∧ w'.cell? ⟨b, off + k * 4, none⟩ = some (.int .i64 xg) ∧ w'.cell? ⟨b, off + k * 4 + 1, none⟩ = some (.int .i64 xu) ∧ w'.cell? ⟨b, off + k * 4 + 2, none⟩ = some (.int .i64 xa) ∧ w'.cell? ⟨b, off + k * 4 + 3, none⟩ = some (.bool xf) ∧ w'.cell? ⟨b2, off2 + k * 4, none⟩ = some (.int .i64 xg) ∧ w'.cell? ⟨b2, off2 + k * 4 + 1, none⟩ = some (.int .i64 xu) ∧ w'.cell? ⟨b2, off2 + k * 4 + 2, none⟩ = some (.int .i64 xa) ∧ w'.cell? ⟨b2, off2 + k * 4 + 3, none⟩ = some (.bool xf))) (by kernel_rfl) (HS6.out _ (Only.refl _ _).drew) (fun hHeld => ?_)
      obtain ⟨wy, hwy⟩ : ∃ x, x = wr.drew := ⟨_, rfl⟩
      rw [← hwy] at hHeld ⊢
      have h23 : Only (fun _ => False) wr wy := by rw [hwy]; exact (Only.refl _ _).drew
      clear hwy
      refine wpAnyH_take (i := 0) (v := ?_) rfl (by kernel_rfl) (by kernel_rfl) (by kernel_rfl) (fun _ _ _ h => h) (Or.inl ⟨by rfl, ?_⟩) (by assumption) ?_
      rotate_left 1
      · intro w' hSw
        try dsimp only at hSw
        go_simp
        try with_reducible rfl
      try simp only [List.getElem_toArray, List.getElem_cons_zero, Act.put, List.setIfInBounds_toArray, List.set_cons_zero, List.set_cons_succ]
      refine wpAnyH_take (i := 1) (v := ?_) rfl (by kernel_rfl) (by kernel_rfl) (by kernel_rfl) (fun _ _ _ h => h) (Or.inl ⟨by rfl, ?_⟩) (by assumption) ?_
      rotate_left 1
      · intro w' hSw
        try dsimp only at hSw
        go_simp
        try with_reducible rfl
      try simp only [List.getElem_toArray, List.getElem_cons_zero, List.getElem_cons_succ, Act.put, List.setIfInBounds_toArray, List.set_cons_zero, List.set_cons_succ]
      refine wpAnyH_take (i := 2) (v := ?_) rfl (by kernel_rfl) (by kernel_rfl) (by kernel_rfl) (fun _ _ _ h => h) (Or.inl ⟨by rfl, ?_⟩) (by assumption) ?_
      rotate_left 1
      · intro w' hSw
        try dsimp only at hSw
        go_simp
        try with_reducible rfl
      try simp only [List.getElem_toArray, List.getElem_cons_zero, List.getElem_cons_succ, Act.put, List.setIfInBounds_toArray, List.set_cons_zero, List.set_cons_succ]
      refine wpAnyH_take (i := 3) (v := ?_) rfl (by kernel_rfl) (by kernel_rfl) (by kernel_rfl) (fun _ _ _ h => h) (Or.inl ⟨by rfl, ?_⟩) (by assumption) ?_
      rotate_left 1
      · intro w' hSw
        try dsimp only at hSw
        go_simp
        try with_reducible rfl
      try simp only [List.getElem_toArray, List.getElem_cons_zero, List.getElem_cons_succ, Act.put, List.setIfInBounds_toArray, List.set_cons_zero, List.set_cons_succ]
      refine wpAnyH_take (i := 4) (v := ?_) rfl (by kernel_rfl) (by kernel_rfl) (by kernel_rfl) (fun _ _ _ h => h) (Or.inl ⟨by rfl, ?_⟩) (by assumption) ?_
      rotate_left 1
      · intro w' hSw
        try dsimp only at hSw
        go_simp
        try with_reducible rfl
      try simp only [List.getElem_toArray, List.getElem_cons_zero, List.getElem_cons_succ, Act.put, List.setIfInBounds_toArray, List.set_cons_zero, List.set_cons_succ]
      refine wpAnyH_take (i := 5) (v := ?_) rfl (by kernel_rfl) (by kernel_rfl) (by kernel_rfl) (fun _ _ _ h => h) (Or.inl ⟨by rfl, ?_⟩) (by assumption) ?_
      rotate_left 1
      · intro w' hSw
        try dsimp only at hSw
        go_simp
        try with_reducible rfl
      try simp only [List.getElem_toArray, List.getElem_cons_zero, List.getElem_cons_succ, Act.put, List.setIfInBounds_toArray, List.set_cons_zero, List.set_cons_succ]
      refine wpAnyH_take (i := 6) (v := ?_) rfl (by kernel_rfl) (by kernel_rfl) (by kernel_rfl) (fun _ _ _ h => h) (Or.inl ⟨by rfl, ?_⟩) (by assumption) ?_
      rotate_left 1
      · intro w' hSw
        try dsimp only at hSw
        go_simp
        try with_reducible rfl
      try simp only [List.getElem_toArray, List.getElem_cons_zero, List.getElem_cons_succ, Act.put, List.setIfInBounds_toArray, List.set_cons_zero, List.set_cons_succ]
      refine wpAnyH_take (i := 7) (v := ?_) rfl (by kernel_rfl) (by kernel_rfl) (by kernel_rfl) (fun _ _ _ h => h) (Or.inl ⟨by rfl, ?_⟩) (by assumption) ?_
      rotate_left 1
      · intro w' hSw
        try dsimp only at hSw
        go_simp
        try with_reducible rfl
      try simp only [List.getElem_toArray, List.getElem_cons_zero, List.getElem_cons_succ, Act.put, List.setIfInBounds_toArray, List.set_cons_zero, List.set_cons_succ]
      refine wpAnyH_take (i := 8) (v := ?_) rfl (by kernel_rfl) (by kernel_rfl) (by kernel_rfl) (fun _ _ _ h => h) (Or.inl ⟨by rfl, ?_⟩) (by assumption) ?_
      rotate_left 1
      · intro w' hSw
        try dsimp only at hSw
        go_simp
        try with_reducible rfl
      try simp only [List.getElem_toArray, List.getElem_cons_zero, List.getElem_cons_succ, Act.put, List.setIfInBounds_toArray, List.set_cons_zero, List.set_cons_succ]
      refine wpAnyH_take (i := 9) (v := ?_) rfl (by kernel_rfl) (by kernel_rfl) (by kernel_rfl) (fun _ _ _ h => h) (Or.inl ⟨by rfl, ?_⟩) (by assumption) ?_
      rotate_left 1
      · intro w' hSw
        try dsimp only at hSw
        go_simp
        try with_reducible rfl
      try simp only [List.getElem_toArray, List.getElem_cons_zero, List.getElem_cons_succ, Act.put, List.setIfInBounds_toArray, List.set_cons_zero, List.set_cons_succ]
      refine wpAnyH_take (i := 10) (v := ?_) rfl (by kernel_rfl) (by kernel_rfl) (by kernel_rfl) (fun _ _ _ h => h) (Or.inl ⟨by rfl, ?_⟩) (by assumption) ?_
      rotate_left 1
      · intro w' hSw
        try dsimp only at hSw
        go_simp
        try with_reducible rfl
      try simp only [List.getElem_toArray, List.getElem_cons_zero, List.getElem_cons_succ, Act.put, List.setIfInBounds_toArray, List.set_cons_zero, List.set_cons_succ]
      refine wpAnyH_done (by kernel_rfl) ?_ _
      refine NoPanic.normal ?_
      have HOE := Lib.hid (HO.out.trans h23)
      clear hHeld h23
      go_wp2_with fail
      go_roundw
      case rel => exact ⟨k + 1, by omega, by go_num, HOE⟩
      case measure => (simp [intOf]; omega)
    · obtain rfl : k = n := by omega
      have hkn : ¬ (k : Int) < (k : Int) := by omega
      have HE := Lib.hid (HO2.out.trans HO.out)
      go_wp2_with fail
      go_ret
      exact ⟨rfl, HE.out⟩
end Go.Proofs.Ythflglejhhebeaa.cs
