/- Timers: slices.Insert where the row grows; slices.Insert. -/
import Derived.Test.YtiohdfplgpmcdaaTmE
namespace Go.Proofs.Ytiohdfplgpmcdaa.tmw
open Go.RowKit mem rowz
set_option linter.unusedVariables false

theorem grow_one {P X Z : List Value} {k G : Nat} (hP : P.length = k * 2) (hX : X.length = 2) (hZ : (P ++ Z).length = G * 2) (hk : k + 1 ≤ G) : ((P ++ Z).take (k * 2) ++ X ++ (P ++ Z).drop (k * 2 + X.length)).length = G * 2 ∧ ((P ++ Z).take (k * 2) ++ X ++ (P ++ Z).drop (k * 2 + X.length)).take ((k + 1) * 2) = P ++ X := by
  rw [take_front hP]
  refine ⟨?_, ?_⟩
  · simp only [List.length_append, List.length_drop] at hZ ⊢; omega
  · exact take_front (by rw [List.length_append]; omega)
theorem grow_fin {l : List Tm} {k n G : Nat} {xa xi : Int} {cur1 : Array Value} (hn : l.length = n) (hk : k < n) (h1 : cur1.size = G * 2) (h2 : cur1.toList.take ((k + 1) * 2) = mv (l.take k) ++ encM ⟨xa, xi⟩) (hG : n + 1 ≤ G) :
    (cur1.toList.take ((k + 1) * 2) ++ mv (l.drop k) ++ cur1.toList.drop ((k + 1) * 2 + (mv (l.drop k)).length)).toArray.size = G * 2 ∧ (cur1.toList.take ((k + 1) * 2) ++ mv (l.drop k) ++ cur1.toList.drop ((k + 1) * 2 + (mv (l.drop k)).length)).toArray.toList.take ((n + 1) * 2) = mv (l.take k ++ ⟨xa, xi⟩ :: l.drop k) := by
  have hd : (mv (l.drop k)).length = (n - k) * 2 := by rw [mv_length, List.length_drop, hn]
  have h3 : (mv (l.take k)).length = k * 2 := by rw [mv_length, List.length_take, Nat.min_eq_left (by omega)]
  have hX : (encM ⟨xa, xi⟩).length = 2 := rfl
  have hl : cur1.toList.length = G * 2 := by rw [Array.length_toList, h1]
  rw [h2]
  refine ⟨?_, ?_⟩
  · simp only [List.size_toArray, List.length_append, List.length_drop, hd, h3, hX, hl]; omega
  · show (mv (l.take k) ++ encM ⟨xa, xi⟩ ++ mv (l.drop k) ++ _).take ((n + 1) * 2) = _
    rw [take_front (by simp only [List.length_append, hd, h3, hX]; omega), mv_append, mv_cons, List.append_assoc]
set_option maxRecDepth 100000 in
set_option maxHeartbeats 2000000 in
theorem tins_grow (g cap : Nat) (l : List Tm) (k : Nat) (xa xi : Int) (vb : Nat) (w : World) (h : OwnM w (.slice (some ⟨g, 0, none⟩) l.length cap) l) (hx : w.heap[vb]? = some (.cells #[.int .i64 xa, .int .i64 xi] 80 (0, 0))) (hl : l.length ≤ 2000) (hk : k < l.length) (hroom : cap < l.length + 1) :
    Calls Try.prog 42 #[.slice (some ⟨g, 0, none⟩) l.length cap, .int .i64 k, .slice (some ⟨vb, 0, none⟩) 1 1] w (InsAt (.slice (some ⟨g, 0, none⟩) l.length cap) l k xa xi w) := by
  obtain ⟨i0, hi, hz0, hz1, hz2⟩ := info_parts info_tm
  obtain ⟨cur, hg, hnc, hcm, hsz, htk⟩ := own_arr h
  have hgw : g < w.heap.size := heap_lt hg
  have hvw : vb < w.heap.size := heap_lt hx
  have HH := Lib.hid (And.intro hg (And.intro hsz (And.intro htk (And.intro hcm hx))))
  have HLK : Hid ((mv (l.drop k)).length = Nat.min (l.length - k) (l.length - k) * 2 ∧ (k + 1) * 2 + (mv (l.drop k)).length ≤ grownCap w (l.length + 1) cap 80 * 2) := Lib.hid (by
    have h1 : (mv (l.drop k)).length = (l.length - k) * 2 := by rw [mv_length, List.length_drop]
    have h2 := grownCap_ge w (l.length + 1) cap 80
    refine ⟨?_, by omega⟩
    rw [h1]; congr 1; exact (Nat.min_self _).symm)
  have hold : (Builtin.firstCells i0.size k (.slice (some ⟨g, 0, none⟩) k cap)).run Try.prog w.drew = .ok (mv (l.take k)).toArray w.drew := by
    rw [hz1]
    refine run_firstCells_some (P := Try.prog) w.drew 2 k ⟨g, 0, none⟩ k cap (mv (l.take k)) (by rw [mv_length, List.length_take, Nat.min_eq_left (by omega)]) (fun j u hj => ?_)
    have hc := cells_row hg htk 0 j u
    rw [List.drop_zero] at hc
    refine hc ?_
    rw [← mv_take, List.getElem?_take] at hj
    split at hj
    · exact hj
    · cases hj
  generalize hn : l.length = n at *
  have hrz : ∀ ty, (Builtin.append_ #[81, 3] ty #[.slice (some ⟨g, 0, none⟩) k cap, .int .i64 ((n : Int) + 1 - (k : Int))]).run Try.prog w =
      .ok (.slice (some ⟨w.heap.size, 0, none⟩) (n + 1) (grownCap w (n + 1) cap 80)) (w.drew.alloc (.cells ((mv (l.take k)).toArray ++ Builtin.zeroCells ((Value.agg #[.int .i64 0, .int .i64 0])).cells (n + 1 - k) ++ Builtin.zeroCells ((Value.agg #[.int .i64 0, .int .i64 0])).cells (grownCap w (n + 1) cap 80 - (n + 1))) 80)) := fun ty => by
    have hik : k + (n + 1 - k) = n + 1 := by omega
    have h := Lib.run_append_grow_zeros w 81 3 ty 80 i0 _ .i64 .i64 Try.underlying81 Try.underlying3 hi hz0 (some ⟨g, 0, none⟩) k cap (mv (l.take k)) hold (n + 1 - k) (by omega) (by rw [hz1]; omega) (by omega) (by omega) (by rw [hz2]; omega) (by rw [hz2, hik]; exact growslice_fits hroom (by omega))
    rw [hik] at h
    have e : ((n : Int) + 1 - (k : Int)) = ((n + 1 - k : Nat) : Int) := by omega
    rw [e]
    exact h
  obtain ⟨G, hG⟩ : ∃ G, G = grownCap w (n + 1) cap 80 := ⟨_, rfl⟩
  have HGG : Hid (n + 1 ≤ G ∧ G ≤ maxLen) := Lib.hid (by rw [hG]; exact ⟨grownCap_ge w _ _ _, grownCap_le_maxLen w _ _ _ (by unfold maxLen; omega)⟩)
  rw [← hG] at hrz HLK
  obtain ⟨Z, hZ⟩ : ∃ Z : List Value, Z = (Builtin.zeroCells ((Value.agg #[.int .i64 0, .int .i64 0])).cells (n + 1 - k)).toList ++ (Builtin.zeroCells ((Value.agg #[.int .i64 0, .int .i64 0])).cells (G - (n + 1))).toList := ⟨_, rfl⟩
  have hrow : (mv (l.take k)).toArray ++ Builtin.zeroCells ((Value.agg #[.int .i64 0, .int .i64 0])).cells (n + 1 - k) ++ Builtin.zeroCells ((Value.agg #[.int .i64 0, .int .i64 0])).cells (G - (n + 1)) = (mv (l.take k) ++ Z).toArray := by
    rw [hZ]; apply Array.ext'; simp
  have hZl : (mv (l.take k) ++ Z).length = G * 2 := by
    have h1 := HGG.out.1
    have h3 : (mv (l.take k)).length = k * 2 := by rw [mv_length, List.length_take, hn, Nat.min_eq_left (by omega)]
    rw [hZ]
    simp only [List.length_append, h3, Array.length_toList, size_zeroCells]
    have h4 : ((Value.agg #[.int .i64 0, .int .i64 0])).cells.size = 2 := rfl
    rw [h4]; omega
  rw [hrow] at hrz
  have HZl : Hid ((mv (l.take k) ++ Z).length = G * 2 ∧ (mv (l.take k)).length = k * 2) := Lib.hid ⟨hZl, by rw [mv_length, List.length_take, hn, Nat.min_eq_left (by omega)]⟩
  obtain ⟨ROW, hROW⟩ : ∃ R : Array Value, R = (mv (l.take k) ++ Z).toArray := ⟨_, rfl⟩
  rw [← hROW] at hrz
  obtain ⟨N, hN⟩ : ∃ N, N = w.heap.size := ⟨_, rfl⟩
  rw [← hN] at hrz
  obtain ⟨W1, hW1⟩ : ∃ W1, W1 = w.drew.alloc (.cells ROW 80) := ⟨_, rfl⟩
  rw [← hW1] at hrz
  have HR1 : Hid (W1.heap[N]? = some (.cells ROW 80 (0, 0)) ∧ W1.heap[g]? = some (.cells cur 80 (0, 0)) ∧ W1.heap[vb]? = some (.cells #[.int .i64 xa, .int .i64 xi] 80 (0, 0))) := Lib.hid (by
    rw [hW1, hN]
    exact ⟨heap_alloc_new w.drew _, (heap_alloc_old w.drew _ hgw).trans hg, (heap_alloc_old w.drew _ hvw).trans hx⟩)
  have HO1 : Hid (Only (fun _ => False) w W1) := Lib.hid (by rw [hW1]; exact (Only.refl _ _).drew.alloc _)
  have HNW : Hid (w.heap.size ≤ N) := Lib.hid (by omega)
  have hgN : g ≠ N := by omega
  obtain ⟨cur1, hc1⟩ : ∃ c, c = (ROW.toList.take (k * 2) ++ encM ⟨xa, xi⟩ ++ ROW.toList.drop (k * 2 + (encM ⟨xa, xi⟩).length)).toArray := ⟨_, rfl⟩
  have HL1 : Hid (cur1.size = G * 2 ∧ cur1.toList.take ((k + 1) * 2) = mv (l.take k) ++ encM ⟨xa, xi⟩) := Lib.hid (by
    rw [hc1, hROW]
    exact grow_one HZl.out.2 rfl HZl.out.1 (by have := HGG.out.1; omega))
  have hr2 := run_copy_rowz (P := Try.prog) W1 81 81 3 80 i0 2 N (k * 2) (n + 1 - k) (G - k) ⟨vb, 0, none⟩ 1 1 ROW 80 (encM ⟨xa, xi⟩) Try.underlying81 hi hz1 HR1.out.1 (by rw [show Nat.min 1 (n + 1 - k) = 1 from Nat.min_eq_left (by omega)]; rfl) (news_x HR1.out.2.2) (by rw [hROW, List.size_toArray, hZl]; have := HGG.out.1; show k * 2 + 2 ≤ _; omega) (mv_one [⟨xa, xi⟩])
  rw [← hc1] at hr2
  obtain ⟨W2, hW2⟩ : ∃ W2, W2 = W1.setRow N cur1 := ⟨_, rfl⟩
  rw [← hW2] at hr2
  have HR2 : Hid (W2.heap[N]? = some (.cells cur1 80 (0, 0)) ∧ W2.heap[g]? = some (.cells cur 80 (0, 0))) := Lib.hid (by
    rw [hW2]
    exact ⟨setRow_heap W1 N ROW cur1 80 (0, 0) HR1.out.1, (setRow_other W1 N g cur1 hgN).trans HR1.out.2.1⟩)
  have HO2 : Hid (Only (fun _ => False) w W2) := Lib.hid (by rw [hW2]; exact HO1.out.then (only_row W1 N cur1) (fun q hq e => by have e' : q = N := e; have := HNW.out; omega))
  have HN := Lib.hid hn
  have hG63 : (G : Int) ≤ 9223372036854775807 := by have h := HGG.out.2; unfold maxLen at h; omega
  have hGn := HGG.out.1
  have e1 : (k : Int) ≤ n := by omega
  have e2 : ¬ ((n : Int) = k) := by omega
  have e3 : (cap : Int) < (n : Int) + 1 := by omega
  have e4 : (0 : Int) ≤ k := by omega
  have e5 : ((k : Int) == (n : Int)) = false := by rw [beq_eq_false_iff_ne]; omega
  have e6 : ¬ (cap = k) := by omega
  have e7 : ¬ (G = k) := by omega
  have e7' : ¬ (G = k + 1) := by omega
  have e8 : IntKind.i64.wrap ((k : Int) + 1) = (k : Int) + 1 := by rw [IntKind.wrap_i64]; omega
  have e9 : (0 : Int) ≤ (k : Int) + 1 := by omega
  have e10 : (k : Int) + 1 ≤ (n : Int) + 1 := by omega
  have e11 : ((k : Int) + 1).toNat = k + 1 := by omega
  have e12 : (k : Int) ≤ (n : Int) + 1 := by omega
  have e13 : (n : Int) + 1 ≤ G := by omega
  have e14 : (k : Int) ≤ cap := by omega
  clear hg hsz htk hcm hx h hold hG hZ hrow hZl hROW hN hW1 hc1 hW2 hgw hvw
  go_enter Try.func42, Try.ntmps42
  go_wp2_with (first
    | (at_builtin; refine Lib.wpList_append_run _ rfl _ _ _ _ rfl _ _ rfl rfl _ _ (hrz _) ?_)
    | (at_builtin; refine wpList_copy_run _ rfl _ _ 81 81 rfl _ _ rfl rfl hr2 ?_))
  refine wp_region_noPanic ?_
  refine wp_region_held_drew (S := (fun w' => Only (fun q => q = N) W2 w')) (by kernel_rfl) ((Only.refl _ _).drew) (fun hHeld => ?_)
  obtain ⟨wd, hwd⟩ : ∃ x, x = W2.drew := ⟨_, rfl⟩
  rw [← hwd]
  have hHeld0 : Only (fun q => q = N) W2 wd := by rw [hwd]; exact (Only.refl _ _).drew
  have hnd : wd.heap[N]? = some (.cells cur1 80 (0, 0)) := by rw [hwd]; exact HR2.out.1
  have hgd : wd.heap[g]? = some (.cells cur 80 (0, 0)) := by rw [hwd]; exact HR2.out.2
  clear hHeld hwd
  refine wpAnyH_take (i := 0) (v := ?_) rfl (by kernel_rfl) (by kernel_rfl) (by kernel_rfl) (fun _ _ _ h => h) (Or.inl ⟨by rfl, ?_⟩) (by assumption) ?_
  rotate_left 1
  · intro w' hSw
    try dsimp only at hSw
    go_simp
    try with_reducible rfl
  try simp only [List.getElem_toArray, List.getElem_cons_zero, Act.put, List.setIfInBounds_toArray, List.set_cons_zero, List.set_cons_succ]
  refine wpAnyH_take (i := 1) (v := ?_) rfl (by kernel_rfl) (by kernel_rfl) (by kernel_rfl) (fun _ _ _ h => h) (Or.inl ⟨by rfl, ?_⟩) (by assumption) ?_
  rotate_left 1
  · intro w' hSw
    try dsimp only at hSw
    go_simp
    try with_reducible rfl
  try simp only [List.getElem_toArray, List.getElem_cons_zero, List.getElem_cons_succ, Act.put, List.setIfInBounds_toArray, List.set_cons_zero, List.set_cons_succ]
  refine wpAnyH_take (i := 2) (v := ?_) rfl (by kernel_rfl) (by kernel_rfl) (by kernel_rfl) (fun _ _ _ h => h) (Or.inl ⟨by rfl, ?_⟩) (by assumption) ?_
  rotate_left 1
  · intro w' hSw
    try dsimp only at hSw
    go_simp
    try with_reducible rfl
  try simp only [List.getElem_toArray, List.getElem_cons_zero, List.getElem_cons_succ, Act.put, List.setIfInBounds_toArray, List.set_cons_zero, List.set_cons_succ]
  refine wpAnyH_take (i := 3) (v := ?_) rfl (by kernel_rfl) (by kernel_rfl) (by kernel_rfl) (fun _ _ _ h => h) (Or.inl ⟨by rfl, ?_⟩) (by assumption) ?_
  rotate_left 1
  · intro w' hSw
    try dsimp only at hSw
    go_simp
    try with_reducible rfl
  try simp only [List.getElem_toArray, List.getElem_cons_zero, List.getElem_cons_succ, Act.put, List.setIfInBounds_toArray, List.set_cons_zero, List.set_cons_succ]
  refine wpAnyH_take (i := 4) (v := ?_) rfl (by kernel_rfl) (by kernel_rfl) (by kernel_rfl) (fun _ _ _ h => h) (Or.inl ⟨by rfl, ?_⟩) (by assumption) ?_
  rotate_left 1
  · intro w' hSw
    try dsimp only at hSw
    go_simp
    try with_reducible rfl
  try simp only [List.getElem_toArray, List.getElem_cons_zero, List.getElem_cons_succ, Act.put, List.setIfInBounds_toArray, List.set_cons_zero, List.set_cons_succ]
  refine wpAnyH_take (i := 5) (v := ?_) rfl (by kernel_rfl) (by kernel_rfl) (by kernel_rfl) (fun _ _ _ h => h) (Or.inl ⟨by rfl, ?_⟩) (by assumption) ?_
  rotate_left 1
  · intro w' hSw
    try dsimp only at hSw
    go_simp
    try with_reducible rfl
  try simp only [List.getElem_toArray, List.getElem_cons_zero, List.getElem_cons_succ, Act.put, List.setIfInBounds_toArray, List.set_cons_zero, List.set_cons_succ]
  refine wpAnyH_take (i := 6) (v := ?_) rfl (by kernel_rfl) (by kernel_rfl) (by kernel_rfl) (fun _ _ _ h => h) (Or.inl ⟨by rfl, ?_⟩) (by assumption) ?_
  rotate_left 1
  · intro w' hSw
    try dsimp only at hSw
    go_simp
    try with_reducible rfl
  try simp only [List.getElem_toArray, List.getElem_cons_zero, List.getElem_cons_succ, Act.put, List.setIfInBounds_toArray, List.set_cons_zero, List.set_cons_succ]
  refine wpAnyH_take (i := 7) (v := ?_) rfl (by kernel_rfl) (by kernel_rfl) (by kernel_rfl) (fun _ _ _ h => h) (Or.inl ⟨by rfl, ?_⟩) (by assumption) ?_
  rotate_left 1
  · intro w' hSw
    try dsimp only at hSw
    go_simp
    try with_reducible rfl
  try simp only [List.getElem_toArray, List.getElem_cons_zero, List.getElem_cons_succ, Act.put, List.setIfInBounds_toArray, List.set_cons_zero, List.set_cons_succ]
  refine wpAnyH_ready (rs := [8]) (by kernel_rfl) (by simp) ?_
  refine AllReadyH.cons rfl (fun K hK => ?_) AllReadyH.nil
  try simp only [List.getElem_toArray, List.getElem_cons_zero, List.getElem_cons_succ]
  go_simp
  have hr := run_copy_rowz (P := Try.prog) wd 81 81 3 80 i0 2 N ((k + 1) * 2) (n - k) (G - (k + 1)) ⟨g, k * 2, none⟩ (n - k) (cap - k) cur1 80 (mv (l.drop k)) Try.underlying81 hi hz1 hnd HLK.out.1 (by rw [← mv_drop]; exact cells_row hgd HH.out.2.2.1 (k * 2)) (by rw [HL1.out.1]; exact HLK.out.2) (mv_one _)
  rw [hr]
  clear hr
  obtain ⟨cur2, hc2⟩ : ∃ c, c = (cur1.toList.take ((k + 1) * 2) ++ mv (l.drop k) ++ cur1.toList.drop ((k + 1) * 2 + (mv (l.drop k)).length)).toArray := ⟨_, rfl⟩
  rw [← hc2]
  obtain ⟨W9, hW9⟩ : ∃ x, x = wd.setRow N cur2 := ⟨_, rfl⟩
  rw [← hW9]
  have HG9 : Hid (W9.heap[N]? = some (.cells cur2 80 (0, 0))) := Lib.hid (by rw [hW9]; exact setRow_heap wd N cur1 cur2 80 (0, 0) hnd)
  have HA9 : Hid (Only (fun q => q = N) W2 W9) := Lib.hid (by rw [hW9]; exact hHeld0.trans (only_row wd N cur2))
  have HF2 : Hid (cur2.size = G * 2 ∧ cur2.toList.take ((n + 1) * 2) = mv (l.take k ++ ⟨xa, xi⟩ :: l.drop k)) := Lib.hid (by
    rw [hc2]
    exact grow_fin HN.out hk HL1.out.1 HL1.out.2 HGG.out.1)
  clear hc2 hW9 hgd hnd
  go_simp
  refine hK.out _ _ (HA9.out) (fun hHeld1 => ?_)
  clear hK K
  try simp only [List.getElem_toArray, List.getElem_cons_zero, List.getElem_cons_succ, Act.put, List.setIfInBounds_toArray, List.set_cons_zero, List.set_cons_succ]
  refine wpAnyH_done (by kernel_rfl) ?_ _
  refine NoPanic.normal ?_
  have HQ : Hid (InsAt (.slice (some ⟨g, 0, none⟩) n cap) l k xa xi w (.returned (.slice (some ⟨N, 0, none⟩) (n + 1) G)) W9) := Lib.hid ⟨_, rfl, by
    have h := arr_own HG9.out HGG.out.1 HGG.out.2 HF2.out.1 HF2.out.2
    have hlen : (l.take k ++ ⟨xa, xi⟩ :: l.drop k).length = n + 1 := by rw [List.length_append, List.length_cons, List.length_take, List.length_drop, HN.out]; omega
    unfold OwnM
    rw [hlen]
    exact h, fun q hq => .inr (by have e : N = q := by simpa [Value.ownBlock] using hq
                                  rw [← e]; exact HNW.out), (HO2.out.then HA9.out (fun q hq e => by have e' : q = N := e; have := HNW.out; omega)).mono (fun _ _ f => f.elim)⟩
  generalize InsAt (.slice (some ⟨g, 0, none⟩) n cap) l k xa xi w = Q at *
  go_wp2_with fail
  exact HQ.out
end Go.Proofs.Ytiohdfplgpmcdaa.tmw
