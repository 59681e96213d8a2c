/- The program's Gens. -/
import Derived.Test.YtcbpgplmphgcgaaSnI
namespace Go.Proofs.Ytcbpgplmphgcgaa.snw
open Go.RowKit mem snm crcm dskw
set_option linter.unusedVariables false

set_option maxRecDepth 100000 in
set_option maxHeartbeats 4000000 in
theorem gens_yes (p bl bm n : Nat) (L : Nat → List Nat) (C : Nat → Option (List Nat)) (cut : Int) (first size : Nat) (w : World) (h : DskAt w p bl bm n L C cut false) (hin : first + 2 * size ≤ n) (hs : 1 ≤ size) :
    Calls Try.prog 38 #[.pointer (some ⟨p, 0, none⟩), .int .i64 (first : Int), .int .i64 (size : Int)] w fun e w' => e = .returned (.tuple #[.agg #[.int .i64 ((slotL L C first size 0).1 : Int), .int .i64 ((slotL L C first size 1).1 : Int)], .agg #[.bool (decide (0 < (slotL L C first size 0).1)), .bool (decide (0 < (slotL L C first size 1).1))], .int .i64 0]) ∧ Only (fun _ => False) w w' := by
  obtain ⟨wa, hwa⟩ : ∃ x, x = w.alloc (.cells #[.int .i64 0, .int .i64 0] 70) := ⟨_, rfl⟩
  obtain ⟨g6, hg6⟩ : ∃ x, x = w.heap.size := ⟨_, rfl⟩
  obtain ⟨wb, hwb⟩ : ∃ x, x = wa.alloc (.cells #[.bool false, .bool false] 71) := ⟨_, rfl⟩
  have hg7s : wa.heap.size = g6 + 1 := by rw [hwa, hg6, size_alloc]
  obtain ⟨g7, hg7⟩ : ∃ x, x = wa.heap.size := ⟨_, rfl⟩
  have hg76 : g7 = g6 + 1 := by omega
  obtain ⟨a0, a1, af, hala⟩ := slbox hwa hg6
  obtain ⟨b0, b1, bf, halb⟩ := slbox hwb hg7
  have HA6 : Hid (wb.cell? ⟨g6, 0, none⟩ = some (.int .i64 0) ∧ wb.cell? ⟨g6, 1, none⟩ = some (.int .i64 0) ∧ ∀ j, wb.frozen? ⟨g6, j, none⟩ = false) := Lib.hid ⟨halb.cell' a0 (fun f => f), halb.cell' a1 (fun f => f), fun j => (halb.frozen (p := ⟨g6, j, none⟩) (World.block_lt_of_cell? wa ⟨g6, 0, none⟩ a0) (fun f => f)).trans (af j)⟩
  have HA7 : Hid (wb.cell? ⟨g7, 0, none⟩ = some (.bool false) ∧ wb.cell? ⟨g7, 1, none⟩ = some (.bool false) ∧ ∀ j, wb.frozen? ⟨g7, j, none⟩ = false) := Lib.hid ⟨b0, b1, bf⟩
  have HOB := Lib.hid (hala.trans halb)
  have HGG : Hid (g6 = w.heap.size ∧ g7 = g6 + 1 ∧ g6 < wb.heap.size ∧ g7 < wb.heap.size) := Lib.hid ⟨hg6, hg76, World.block_lt_of_cell? wb ⟨g6, 0, none⟩ HA6.out.1, World.block_lt_of_cell? wb ⟨g7, 0, none⟩ b0⟩
  have HNE : Hid (¬ g6 = g7) := Lib.hid (by omega)
  have HDB := Lib.hid (h.only HOB.out (fun f => f) (fun f => f) (fun f => f))
  have HRD := Lib.hid (sread_yes p bl bm n L C cut first size wb HDB.out hin hs)
  generalize slotL L C first size 0 = P at *
  generalize slotL L C first size 1 = Q at *
  obtain ⟨pg, pim⟩ := P
  obtain ⟨qg, qim⟩ := Q
  clear h a0 a1 af b0 b1 bf hala halb hg7s HDB
  have hwb2 : wb = (w.alloc (.cells #[.int .i64 0, .int .i64 0] 70)).alloc (.cells #[.bool false, .bool false] 71) := by rw [hwb, hwa]
  clear hwb hwa hg7
  subst hg76
  dsimp only
  go_enter Try.func38, Try.ntmps38
  go_upto_region 1 with fail
  simp only [← hwb2, ← hg6]
  clear hwb2 hg6
  go_wp2_with fail
  refine HRD.out.mono ?_
  rintro _ w1 ⟨va, vc, vb, vd, rfl, ho1, ho2, hy1, hy2, ho⟩
  dsimp only
  generalize pim.length = pl at *
  generalize qim.length = ql at *
  have HO1 := Lib.hid ho
  clear ho1 ho2 hy1 hy2 ho HRD
  obtain ⟨w2, hw2⟩ : ∃ x, x = w1.alloc (.cells #[.int .i64 (pg : Int), .slice va pl vc, .int .i64 (qg : Int), .slice vb ql vd] 120) := ⟨_, rfl⟩
  obtain ⟨g2, hg2⟩ : ∃ x, x = w1.heap.size := ⟨_, rfl⟩
  obtain ⟨⟨c0, c1, c2, c3, -⟩, hal2⟩ := bx4_new hw2 hg2
  go_upto_region 2 with fail
  simp only [← hw2, ← hg2]
  clear hw2 hg2
  obtain ⟨w5, hw5⟩ : ∃ x, x = w2.alloc (.cells #[.int .i64 (pg : Int), .int .i64 (qg : Int)] 70) := ⟨_, rfl⟩
  obtain ⟨g11, hg11⟩ : ∃ x, x = w2.heap.size := ⟨_, rfl⟩
  obtain ⟨d0, d1, df, hal5⟩ := slbox hw5 hg11
  have HG12 : Hid (¬ g11 = g6 + 1) := Lib.hid (by have := HGG.out; have := HO1.out.size; have := hal2.size; omega)
  have HG11 : Hid (¬ g11 = g6) := Lib.hid (by have := HGG.out; have := HO1.out.size; have := hal2.size; omega)
  go_upto_region 5 with fail
  simp only [← hw5, ← hg11]
  clear hw5 hg11
  have HO5 : Hid (Only (fun _ => False) wb w5) := Lib.hid ((HO1.out.trans hal2).trans hal5)
  have HOW := Lib.hid (HOB.out.trans HO5.out)
  have HB6 : Hid (∀ w', Only (fun _ => False) w5 w' → w'.cell? ⟨g6, 0, none⟩ = some (.int .i64 0) ∧ w'.cell? ⟨g6, 1, none⟩ = some (.int .i64 0) ∧ ∀ j, w'.frozen? ⟨g6, j, none⟩ = false) := Lib.hid (fun w' ho => ⟨(HO5.out.trans ho).cell' HA6.out.1 (fun f => f), (HO5.out.trans ho).cell' HA6.out.2.1 (fun f => f), fun j => ((HO5.out.trans ho).frozen (p := ⟨g6, j, none⟩) HGG.out.2.2.1 (fun f => f)).trans (HA6.out.2.2 j)⟩)
  have HB7 : Hid (∀ w', Only (fun q => q = g6) w5 w' → w'.cell? ⟨g6 + 1, 0, none⟩ = some (.bool false) ∧ w'.cell? ⟨g6 + 1, 1, none⟩ = some (.bool false) ∧ ∀ j, w'.frozen? ⟨g6 + 1, j, none⟩ = false) := Lib.hid (fun w' ho => ⟨ho.cell' (HO5.out.cell' HA7.out.1 (fun f => f)) (fun e => HNE.out e.symm), ho.cell' (HO5.out.cell' HA7.out.2.1 (fun f => f)) (fun e => HNE.out e.symm), fun j => (ho.frozen (p := ⟨g6 + 1, j, none⟩) (by have := HO5.out.size; have := HGG.out.2.2.2; show g6 + 1 < _; omega) (fun e => HNE.out e.symm)).trans ((HO5.out.frozen (p := ⟨g6 + 1, j, none⟩) HGG.out.2.2.2 (fun f => f)).trans (HA7.out.2.2 j))⟩)
  have HSL : Hid (∀ w', Only (fun q => q = g6) w5 w' → w'.cell? ⟨g11, 0, none⟩ = some (.int .i64 (pg : Int)) ∧ w'.cell? ⟨g11, 1, none⟩ = some (.int .i64 (qg : Int))) := Lib.hid (fun w' ho => ⟨ho.cell' d0 (fun e => HG11.out e), ho.cell' d1 (fun e => HG11.out e)⟩)
  have HSL0 : Hid (∀ w', Only (fun _ => False) w5 w' → w'.cell? ⟨g11, 0, none⟩ = some (.int .i64 (pg : Int)) ∧ w'.cell? ⟨g11, 1, none⟩ = some (.int .i64 (qg : Int))) := Lib.hid (fun w' ho => ⟨ho.cell' d0 (fun f => f), ho.cell' d1 (fun f => f)⟩)
  clear c0 c1 c2 c3 d0 d1 df hal2 hal5
  refine wp_region_noPanic ?_
  refine late.region (fun w' => w'.cell? ⟨g11, 0, none⟩ = some (.int .i64 (pg : Int)) ∧ w'.cell? ⟨g11, 1, none⟩ = some (.int .i64 (qg : Int))) (fun j => [].contains j) (by kernel_rfl) (HSL0.out _ (Only.refl _ _).drew) (fun hHeld => ?_)
  obtain ⟨z0, hz0⟩ : ∃ x, x = w5.drew := ⟨_, rfl⟩
  rw [← hz0] at hHeld ⊢
  have hot : Hid (Only (fun _ => False) w5 z0) := Lib.hid (by rw [hz0]; exact (Only.refl _ _).drew)
  clear hz0
  refine late.take (i := 0) [8, 9, 10] (v := ?_) rfl (by kernel_rfl) (by kernel_rfl) (by kernel_rfl) (by kernel_rfl) (fun _ _ _ h => h) (Or.inl ⟨by rfl, ?_⟩) (by assumption) ?_
  rotate_left 1
  · intro w' hSw
    try dsimp only at hSw
    go_simp
    try with_reducible rfl
  try simp only [List.getElem_toArray, List.getElem_cons_zero, Act.put, List.setIfInBounds_toArray, List.set_cons_zero, List.set_cons_succ]
  refine late.take (i := 1) [2, 3, 7, 9, 10] (v := ?_) rfl (by kernel_rfl) (by kernel_rfl) (by kernel_rfl) (by kernel_rfl) (fun _ _ _ h => h) (Or.inl ⟨by rfl, ?_⟩) (by assumption) ?_
  rotate_left 1
  · intro w' hSw
    try dsimp only at hSw
    go_simp
    try with_reducible rfl
  try simp only [List.getElem_toArray, List.getElem_cons_zero, List.getElem_cons_succ, Act.put, List.setIfInBounds_toArray, List.set_cons_zero, List.set_cons_succ]
  refine late.take (i := 2) [3, 7, 9, 10] (v := ?_) rfl (by kernel_rfl) (by kernel_rfl) (by kernel_rfl) (by kernel_rfl) (fun _ _ _ h => h) (Or.inl ⟨by rfl, ?_⟩) (by assumption) ?_
  rotate_left 1
  · intro w' hSw
    try dsimp only at hSw
    go_simp
    try with_reducible rfl
  try simp only [List.getElem_toArray, List.getElem_cons_zero, List.getElem_cons_succ, Act.put, List.setIfInBounds_toArray, List.set_cons_zero, List.set_cons_succ]
  refine late.take (i := 3) [7, 9, 10] (v := ?_) rfl (by kernel_rfl) (by kernel_rfl) (by kernel_rfl) (by kernel_rfl) (fun _ _ _ h => h) (Or.inl ⟨by rfl, ?_⟩) (by assumption) ?_
  rotate_left 1
  · intro w' hSw
    try dsimp only at hSw
    go_simp
    try with_reducible rfl
  try simp only [List.getElem_toArray, List.getElem_cons_zero, List.getElem_cons_succ, Act.put, List.setIfInBounds_toArray, List.set_cons_zero, List.set_cons_succ]
  refine late.take (i := 4) [5, 6, 7, 9, 10] (v := ?_) rfl (by kernel_rfl) (by kernel_rfl) (by kernel_rfl) (by kernel_rfl) (fun _ _ _ h => h) (Or.inl ⟨by rfl, ?_⟩) (by assumption) ?_
  rotate_left 1
  · intro w' hSw
    try dsimp only at hSw
    go_simp
    try with_reducible rfl
  try simp only [List.getElem_toArray, List.getElem_cons_zero, List.getElem_cons_succ, Act.put, List.setIfInBounds_toArray, List.set_cons_zero, List.set_cons_succ]
  refine late.take (i := 5) [6, 7, 9, 10] (v := ?_) rfl (by kernel_rfl) (by kernel_rfl) (by kernel_rfl) (by kernel_rfl) (fun _ _ _ h => h) (Or.inl ⟨by rfl, ?_⟩) (by assumption) ?_
  rotate_left 1
  · intro w' hSw
    try dsimp only at hSw
    go_simp
    try with_reducible rfl
  try simp only [List.getElem_toArray, List.getElem_cons_zero, List.getElem_cons_succ, Act.put, List.setIfInBounds_toArray, List.set_cons_zero, List.set_cons_succ]
  refine late.take (i := 6) [7, 9, 10] (v := ?_) rfl (by kernel_rfl) (by kernel_rfl) (by kernel_rfl) (by kernel_rfl) (fun _ _ _ h => h) (Or.inl ⟨by rfl, ?_⟩) (by assumption) ?_
  rotate_left 1
  · intro w' hSw
    try dsimp only at hSw
    go_simp
    try with_reducible rfl
  try simp only [List.getElem_toArray, List.getElem_cons_zero, List.getElem_cons_succ, Act.put, List.setIfInBounds_toArray, List.set_cons_zero, List.set_cons_succ]
  refine late.take (i := 7) [9, 10] (v := ?_) rfl (by kernel_rfl) (by kernel_rfl) (by kernel_rfl) (by kernel_rfl) (fun _ _ _ h => h) (Or.inl ⟨by rfl, ?_⟩) (by assumption) ?_
  rotate_left 1
  · intro w' hSw
    try dsimp only at hSw
    go_simp
    try with_reducible rfl
  try simp only [List.getElem_toArray, List.getElem_cons_zero, List.getElem_cons_succ, Act.put, List.setIfInBounds_toArray, List.set_cons_zero, List.set_cons_succ]
  refine late.ready (rs := [8]) (by kernel_rfl) (by simp) ?_
  refine late.Each.cons rfl (fun K hK => ?_) late.Each.nil
  have hq6 := HB6.out _ hot.out
  have e60 := hq6.1
  have e61 := hq6.2.1
  have e6f := hq6.2.2
  try simp only [List.getElem_toArray, List.getElem_cons_zero, List.getElem_cons_succ]
  go_simp
  obtain ⟨y0, y1, hoA⟩ := put2_facts (x0 := .int .i64 (pg : Int)) (x1 := .int .i64 (qg : Int)) e60 e61
  obtain ⟨wA, hwA⟩ : ∃ x, x = put2 z0 g6 (.int .i64 (pg : Int)) (.int .i64 (qg : Int)) := ⟨_, rfl⟩
  rw [← hwA] at y0 y1 hoA
  unfold put2 at hwA
  rw [← hwA]
  have HWA : Hid (Only (fun q => q = g6) w5 wA) := Lib.hid ((hot.out.mono (fun _ _ f => f.elim)).trans hoA)
  have HY6 : Hid (wA.cell? ⟨g6, 0, none⟩ = some (.int .i64 (pg : Int)) ∧ wA.cell? ⟨g6, 1, none⟩ = some (.int .i64 (qg : Int))) := Lib.hid ⟨y0, y1⟩
  clear hwA hoA y0 y1 e60 e61 e6f hq6
  refine hK.out _ _ (fun _ => HSL.out _ HWA.out) (fun hHeld1 => ?_)
  replace hHeld1 := hHeld1 rfl
  clear hK K
  try simp only [List.getElem_toArray, List.getElem_cons_zero, List.getElem_cons_succ, Act.put, List.setIfInBounds_toArray, List.set_cons_zero, List.set_cons_succ]
  refine late.ready (rs := [9]) (by kernel_rfl) (by simp) ?_
  refine late.Each.cons rfl (fun K hK => ?_) late.Each.nil
  have hq7 := HB7.out _ HWA.out
  have e70 := hq7.1
  have e71 := hq7.2.1
  have e7f := hq7.2.2
  try simp only [List.getElem_toArray, List.getElem_cons_zero, List.getElem_cons_succ]
  go_simp
  obtain ⟨y0, y1, hoB⟩ := put2_facts (x0 := .bool (decide (0 < pg))) (x1 := .bool (decide (0 < qg))) e70 e71
  unfold put2 at y0 y1 hoB
  have hs := HSL.out _ HWA.out
  have HSB := Lib.hid (And.intro (hoB.cell' hs.1 (fun e => HG12.out e)) (hoB.cell' hs.2 (fun e => HG12.out e)))
  clear hs
  refine hK.out _ _ (fun _ => HSB.out) (fun hHeld2 => ?_)
  replace hHeld2 := hHeld2 rfl
  clear hK K
  try simp only [List.getElem_toArray, List.getElem_cons_zero, List.getElem_cons_succ, Act.put, List.setIfInBounds_toArray, List.set_cons_zero, List.set_cons_succ]
  refine late.take (i := 10) [] (v := ?_) rfl (by kernel_rfl) (by kernel_rfl) (by kernel_rfl) (by kernel_rfl) (fun _ _ _ h => h) (Or.inl ⟨by rfl, ?_⟩) (by assumption) ?_
  rotate_left 1
  · intro w' hSw
    try dsimp only at hSw
    go_simp
    try with_reducible rfl
  try simp only [List.getElem_toArray, List.getElem_cons_zero, List.getElem_cons_succ, Act.put, List.setIfInBounds_toArray, List.set_cons_zero, List.set_cons_succ]
  refine late.done (by kernel_rfl) ?_ _
  refine NoPanic.normal ?_
  have u0 := hoB.cell' HY6.out.1 (fun e => HNE.out e)
  have u1 := hoB.cell' HY6.out.2 (fun e => HNE.out e)
  go_wp2_with fail
  refine bodyPost_ret (v := .tuple #[.agg #[.int .i64 (pg : Int), .int .i64 (qg : Int)], .agg #[.bool (decide (0 < pg)), .bool (decide (0 < qg))], .int .i64 0]) (by simp [results, Try.results38, go_sem, y0, y1, u0, u1]) rfl ?_
  exact ⟨rfl, (HOW.out.then HWA.out (fun q hq e => by have := HGG.out; have e : q = g6 := e; omega)).then hoB (fun q hq e => by have := HGG.out; have e : q = g6 + 1 := e; omega)⟩
end Go.Proofs.Ytcbpgplmphgcgaa.snw
