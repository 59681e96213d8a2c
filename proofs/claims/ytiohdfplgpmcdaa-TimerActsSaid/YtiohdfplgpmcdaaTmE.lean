/- Timers: slices.Insert. -/
import Derived.Test.YtiohdfplgpmcdaaTmD
import Derived.Lib.Overlaps
namespace Go.Proofs.Ytiohdfplgpmcdaa.tmw
open Go.RowKit mem rowz
set_option linter.unusedVariables false

def InsAt (v : Value) (l : List Tm) (k : Nat) (xa xi : Int) (w : World) (e : Ending) (w' : World) : Prop := ∃ v', e = .returned v' ∧ OwnM w' v' (l.take k ++ ⟨xa, xi⟩ :: l.drop k) ∧ (∀ q, v'.ownBlock = some q → v.ownBlock = some q ∨ w.heap.size ≤ q) ∧ Only (fun q => v.ownBlock = some q) w w'
theorem news_x {w : World} {vb : Nat} {xa xi : Int} {e : TypeId} (h : w.heap[vb]? = some (.cells #[.int .i64 xa, .int .i64 xi] e (0, 0))) : ∀ j u, (encM ⟨xa, xi⟩)[j]? = some u → w.cell? ((⟨vb, 0, none⟩ : Addr).add j) = some u := by
  intro j u hu
  rw [add_none, cell_row h, Nat.zero_add, ← Array.getElem?_toList]
  exact hu
theorem ins_lens (l : List Tm) (k : Nat) (xa xi : Int) (cur : Array Value) (cap : Nat) (hsz : cur.size = cap * 2) (hk : k < l.length) (hroom : l.length + 1 ≤ cap) : (mv (l.drop k)).length = Nat.min (l.length + 1 - k) (l.length - k) * 2 ∧ (k + 1) * 2 + (mv (l.drop k)).length ≤ cur.size ∧ (encM ⟨xa, xi⟩).length = Nat.min 1 (l.length + 1 - k) * 2 ∧ k * 2 + (encM ⟨xa, xi⟩).length ≤ ((cur.toList.take ((k + 1) * 2) ++ mv (l.drop k) ++ cur.toList.drop ((k + 1) * 2 + (mv (l.drop k)).length)).toArray).size := by
  have h1 : (mv (l.drop k)).length = (l.length - k) * 2 := by rw [mv_length, List.length_drop]
  have h2 : (encM ⟨xa, xi⟩).length = 2 := rfl
  refine ⟨?_, by omega, ?_, ?_⟩
  · rw [h1]; congr 1; exact (Nat.min_eq_right (by omega)).symm
  · rw [h2, show Nat.min 1 (l.length + 1 - k) = 1 from Nat.min_eq_left (by omega)]
  · simp only [List.size_toArray, List.length_append, List.length_take, List.length_drop, Array.length_toList, h1, h2]; omega
theorem ins_fin {l : List Tm} {k n cap : Nat} {xa xi : Int} {A D R : List Value} (hn : l.length = n) (hk : k < n) (hA : A.length = (k + 1) * 2) (hT : A.take (k * 2) = mv (l.take k)) (hD : D = mv (l.drop k)) (hR : (A ++ D ++ R).length = cap * 2) :
    ((A ++ D ++ R).take (k * 2) ++ encM ⟨xa, xi⟩ ++ (A ++ D ++ R).drop (k * 2 + (encM ⟨xa, xi⟩).length)).length = cap * 2 ∧ ((A ++ D ++ R).take (k * 2) ++ encM ⟨xa, xi⟩ ++ (A ++ D ++ R).drop (k * 2 + (encM ⟨xa, xi⟩).length)).take ((n + 1) * 2) = mv (l.take k ++ ⟨xa, xi⟩ :: l.drop k) := by
  have h2 : (encM ⟨xa, xi⟩).length = 2 := rfl
  have h1 : D.length = (n - k) * 2 := by rw [hD, mv_length, List.length_drop, hn]
  have e1 : (A ++ D ++ R).take (k * 2) = mv (l.take k) := by
    rw [List.append_assoc, List.take_append_of_le_length (by omega), hT]
  have e2 : (A ++ D ++ R).drop (k * 2 + (encM ⟨xa, xi⟩).length) = D ++ R := by
    rw [List.append_assoc, h2, show k * 2 + 2 = A.length by omega, List.drop_left']
    rfl
  have h3 : (mv (l.take k)).length = k * 2 := by rw [mv_length, List.length_take, Nat.min_eq_left (by omega)]
  rw [e1, e2]
  refine ⟨?_, ?_⟩
  · simp only [List.length_append] at hR ⊢
    omega
  · rw [← List.append_assoc, mv_append, mv_cons, ← hD, take_front (by simp only [List.length_append]; omega), List.append_assoc]
theorem ins_list {l : List Tm} {k n cap : Nat} {xa xi : Int} {cur : Array Value} (hn : l.length = n) (hsz : cur.size = cap * 2) (htk : cur.toList.take (n * 2) = mv l) (hk : k < n) (hroom : n + 1 ≤ cap) :
    (((cur.toList.take ((k + 1) * 2) ++ mv (l.drop k) ++ cur.toList.drop ((k + 1) * 2 + (mv (l.drop k)).length)).take (k * 2) ++ encM ⟨xa, xi⟩ ++ (cur.toList.take ((k + 1) * 2) ++ mv (l.drop k) ++ cur.toList.drop ((k + 1) * 2 + (mv (l.drop k)).length)).drop (k * 2 + (encM ⟨xa, xi⟩).length))).length = cap * 2 ∧ (((cur.toList.take ((k + 1) * 2) ++ mv (l.drop k) ++ cur.toList.drop ((k + 1) * 2 + (mv (l.drop k)).length)).take (k * 2) ++ encM ⟨xa, xi⟩ ++ (cur.toList.take ((k + 1) * 2) ++ mv (l.drop k) ++ cur.toList.drop ((k + 1) * 2 + (mv (l.drop k)).length)).drop (k * 2 + (encM ⟨xa, xi⟩).length))).take ((n + 1) * 2) = mv (l.take k ++ ⟨xa, xi⟩ :: l.drop k) := by
  have hl : cur.toList.length = cap * 2 := by rw [Array.length_toList, hsz]
  have hd : (mv (l.drop k)).length = (n - k) * 2 := by rw [mv_length, List.length_drop, hn]
  refine ins_fin hn hk (by rw [List.length_take]; omega) ?_ rfl ?_
  · rw [List.take_take, Nat.min_eq_left (by omega), ← mv_take, ← htk, List.take_take, Nat.min_eq_left (by omega)]
  · simp only [List.length_append, List.length_take, List.length_drop, hd, hl]; omega
set_option maxRecDepth 100000 in
set_option maxHeartbeats 2000000 in
theorem tins_end (v : Value) (l : List Tm) (xa xi : Int) (vb : Nat) (w : World) (h : OwnM w v l) (hx : w.heap[vb]? = some (.cells #[.int .i64 xa, .int .i64 xi] 80 (0, 0))) (hl : l.length ≤ 2000) :
    Calls Try.prog 42 #[v, .int .i64 l.length, .slice (some ⟨vb, 0, none⟩) 1 1] w (InsAt v l l.length xa xi w) := by
  obtain ⟨i0, hi, hz0, hz1, hz2⟩ := info_parts info_tm
  have HOW := Lib.hid h
  obtain ⟨a, cap, rfl, hc, _⟩ := h.reads
  have HX := Lib.hid hx
  have HF : Hid (∀ v' w', w'.ownsRow 0 80 2 v' (l.length + 1) (mv l ++ encM ⟨xa, xi⟩) → w.grownBy w' (Value.slice a l.length cap).ownBlock → (∀ k, v'.ownBlock = some k → (Value.slice a l.length cap).ownBlock = some k ∨ w.heap.size ≤ k) → InsAt (.slice a l.length cap) l l.length xa xi w (.returned v') w') := Lib.hid (fun v' w' h1 h2 h3 => ⟨v', rfl, by
    rw [List.take_length, List.drop_length]
    unfold OwnM
    rw [List.length_append, mv_append]
    exact h1, h3, Only.of_grown h2⟩)
  generalize InsAt (.slice a l.length cap) l l.length xa xi w = Q at *
  clear h hx
  have hn0 : (0 : Int) ≤ l.length := by omega
  have hnc : (l.length : Int) ≤ cap := by omega
  by_cases hcl : cap = l.length
  · subst hcl
    go_enter Try.func42, Try.ntmps42
    go_wp2_with (at_builtin; refine append_mine rfl _ _ 81 rfl 80 i0 _ 2 16 Try.underlying81 hi hz0 hz1 hz2 rfl (by decide) _ l.length _ rfl HOW.out ⟨vb, 0, none⟩ 1 1 (encM ⟨xa, xi⟩) rfl ?c1 ?c2 ?c3 ?c4 ?c5 ?_)
    case c1 => rfl
    case c2 => exact news_x HX.out
    case c3 => exact mv_one [⟨xa, xi⟩]
    case c4 => unfold maxLen; omega
    case c5 => omega
    intro v' w' h1 h2 h3
    have HE := Lib.hid (HF.out v' w' h1 h2 h3)
    clear h1 h2 h3
    go_wp2_with fail
    exact HE.out
  · have hcl2 : ¬ ((cap : Int) = l.length) := by omega
    go_enter Try.func42, Try.ntmps42
    go_wp2_with (at_builtin; refine append_mine rfl _ _ 81 rfl 80 i0 _ 2 16 Try.underlying81 hi hz0 hz1 hz2 rfl (by decide) _ l.length _ rfl HOW.out ⟨vb, 0, none⟩ 1 1 (encM ⟨xa, xi⟩) rfl ?c1 ?c2 ?c3 ?c4 ?c5 ?_)
    case c1 => rfl
    case c2 => exact news_x HX.out
    case c3 => exact mv_one [⟨xa, xi⟩]
    case c4 => unfold maxLen; omega
    case c5 => omega
    intro v' w' h1 h2 h3
    have HE := Lib.hid (HF.out v' w' h1 h2 h3)
    clear h1 h2 h3
    go_wp2_with fail
    exact HE.out
set_option maxRecDepth 100000 in
set_option maxHeartbeats 2000000 in
theorem tins_shift (g cap : Nat) (l : List Tm) (k : Nat) (xa xi : Int) (vb : Nat) (w : World) (h : OwnM w (.slice (some ⟨g, 0, none⟩) l.length cap) l) (hx : w.heap[vb]? = some (.cells #[.int .i64 xa, .int .i64 xi] 80 (0, 0))) (hl : l.length ≤ 2000) (hk : k < l.length) (hroom : l.length + 1 ≤ cap) (hvg : vb ≠ g) :
    Calls Try.prog 42 #[.slice (some ⟨g, 0, none⟩) l.length cap, .int .i64 k, .slice (some ⟨vb, 0, none⟩) 1 1] w (InsAt (.slice (some ⟨g, 0, none⟩) l.length cap) l k xa xi w) := by
  obtain ⟨i0, hi, hz0, hz1, hz2⟩ := info_parts info_tm
  obtain ⟨cur, hg, hnc, hcm, hsz, htk⟩ := own_arr h
  have hcap : (cap : Int) ≤ 9223372036854775807 := by unfold maxLen at hcm; omega
  have hov : ∀ lb cb, (callFunc 65 #[.slice (some ⟨vb, 0, none⟩) 1 1, .slice (some ⟨g, (k + 1) * 2, none⟩) lb cb]).run Try.prog w = .ok (.value (.bool false)) w := fun lb cb => by
    rw [run_callFunc_extern Try.func65 (by kernel_rfl) (by kernel_rfl) (by kernel_rfl) (e := Extern.SlicesOverlaps.overlaps #[81, 81] #[4]) (by kernel_rfl)]
    rw [Lib.run_overlaps_apart w 81 4 80 Try.underlying81 2 (fun w => by simp [sizeOf, typeInfo, hi, hz1]) ⟨vb, 0, none⟩ ⟨g, (k + 1) * 2, none⟩ 1 1 lb cb hvg 80 80 2 (cap * 2) (by simp [World.shape?, hx]) (by simp [World.shape?, hg, hsz]) (by omega) (by simp [World.frozen?, hx]) (by simp [World.frozen?, hx])]
    rfl
  have HH := Lib.hid (And.intro hg (And.intro hsz (And.intro htk (And.intro hcm hx))))
  have HLK := Lib.hid (ins_lens l k xa xi cur cap hsz hk hroom)
  generalize hn : l.length = n at *
  have HN := Lib.hid hn
  have e1 : (k : Int) ≤ n := by omega
  have e2 : ¬ ((n : Int) = k) := by omega
  have e3 : (n : Int) + 1 ≤ cap := by omega
  have e4 : (0 : Int) ≤ k := by omega
  have e5 : ((k : Int) == (n : Int)) = false := by rw [beq_eq_false_iff_ne]; omega
  have e6 : ¬ (cap = k) := by omega
  have e7 : ¬ (cap = k + 1) := by omega
  have e8 : IntKind.i64.wrap ((k : Int) + 1) = (k : Int) + 1 := by rw [IntKind.wrap_i64]; omega
  have e9 : (0 : Int) ≤ (k : Int) + 1 := by omega
  have e10 : (k : Int) + 1 ≤ (n : Int) + 1 := by omega
  have e11 : ((k : Int) + 1).toNat = k + 1 := by omega
  have e12 : (k : Int) ≤ (n : Int) + 1 := by omega
  clear hg hsz htk hcm hx h
  go_enter Try.func42, Try.ntmps42
  go_upto_region 15 with fail
  refine wp_region_noPanic ?_
  refine wp_region_held_drew (S := (fun w' => Only (fun q => q = g) w w')) (by kernel_rfl) ((Only.refl _ _).drew) (fun hHeld => ?_)
  obtain ⟨wd, hwd⟩ : ∃ x, x = w.drew := ⟨_, rfl⟩
  rw [← hwd]
  have hHeld0 : Only (fun q => q = g) w wd := by rw [hwd]; exact (Only.refl _ _).drew
  have hgd : wd.heap[g]? = some (.cells cur 80 (0, 0)) := by rw [hwd]; exact HH.out.1
  have hxd : wd.heap[vb]? = some (.cells #[.int .i64 xa, .int .i64 xi] 80 (0, 0)) := by rw [hwd]; exact HH.out.2.2.2.2
  clear hHeld hwd
  refine wpAnyH_take (i := 0) (v := ?_) rfl (by kernel_rfl) (by kernel_rfl) (by kernel_rfl) (fun _ _ _ h => h) (Or.inl ⟨by rfl, ?_⟩) (by assumption) ?_
  rotate_left 1
  · intro w' hSw
    try dsimp only at hSw
    go_simp
    try with_reducible rfl
  try simp only [List.getElem_toArray, List.getElem_cons_zero, Act.put, List.setIfInBounds_toArray, List.set_cons_zero, List.set_cons_succ]
  refine wpAnyH_take (i := 1) (v := ?_) rfl (by kernel_rfl) (by kernel_rfl) (by kernel_rfl) (fun _ _ _ h => h) (Or.inl ⟨by rfl, ?_⟩) (by assumption) ?_
  rotate_left 1
  · intro w' hSw
    try dsimp only at hSw
    go_simp
    try with_reducible rfl
  try simp only [List.getElem_toArray, List.getElem_cons_zero, List.getElem_cons_succ, Act.put, List.setIfInBounds_toArray, List.set_cons_zero, List.set_cons_succ]
  refine wpAnyH_take (i := 2) (v := ?_) rfl (by kernel_rfl) (by kernel_rfl) (by kernel_rfl) (fun _ _ _ h => h) (Or.inl ⟨by rfl, ?_⟩) (by assumption) ?_
  rotate_left 1
  · intro w' hSw
    try dsimp only at hSw
    go_simp
    try with_reducible rfl
  try simp only [List.getElem_toArray, List.getElem_cons_zero, List.getElem_cons_succ, Act.put, List.setIfInBounds_toArray, List.set_cons_zero, List.set_cons_succ]
  refine wpAnyH_take (i := 3) (v := ?_) rfl (by kernel_rfl) (by kernel_rfl) (by kernel_rfl) (fun _ _ _ h => h) (Or.inl ⟨by rfl, ?_⟩) (by assumption) ?_
  rotate_left 1
  · intro w' hSw
    try dsimp only at hSw
    go_simp
    try with_reducible rfl
  try simp only [List.getElem_toArray, List.getElem_cons_zero, List.getElem_cons_succ, Act.put, List.setIfInBounds_toArray, List.set_cons_zero, List.set_cons_succ]
  refine wpAnyH_take (i := 4) (v := ?_) rfl (by kernel_rfl) (by kernel_rfl) (by kernel_rfl) (fun _ _ _ h => h) (Or.inl ⟨by rfl, ?_⟩) (by assumption) ?_
  rotate_left 1
  · intro w' hSw
    try dsimp only at hSw
    go_simp
    try with_reducible rfl
  try simp only [List.getElem_toArray, List.getElem_cons_zero, List.getElem_cons_succ, Act.put, List.setIfInBounds_toArray, List.set_cons_zero, List.set_cons_succ]
  refine wpAnyH_take (i := 5) (v := ?_) rfl (by kernel_rfl) (by kernel_rfl) (by kernel_rfl) (fun _ _ _ h => h) (Or.inl ⟨by rfl, ?_⟩) (by assumption) ?_
  rotate_left 1
  · intro w' hSw
    try dsimp only at hSw
    go_simp
    try with_reducible rfl
  try simp only [List.getElem_toArray, List.getElem_cons_zero, List.getElem_cons_succ, Act.put, List.setIfInBounds_toArray, List.set_cons_zero, List.set_cons_succ]
  refine wpAnyH_take (i := 6) (v := ?_) rfl (by kernel_rfl) (by kernel_rfl) (by kernel_rfl) (fun _ _ _ h => h) (Or.inl ⟨by rfl, ?_⟩) (by assumption) ?_
  rotate_left 1
  · intro w' hSw
    try dsimp only at hSw
    go_simp
    try with_reducible rfl
  try simp only [List.getElem_toArray, List.getElem_cons_zero, List.getElem_cons_succ, Act.put, List.setIfInBounds_toArray, List.set_cons_zero, List.set_cons_succ]
  refine wpAnyH_take (i := 7) (v := ?_) rfl (by kernel_rfl) (by kernel_rfl) (by kernel_rfl) (fun _ _ _ h => h) (Or.inl ⟨by rfl, ?_⟩) (by assumption) ?_
  rotate_left 1
  · intro w' hSw
    try dsimp only at hSw
    go_simp
    try with_reducible rfl
  try simp only [List.getElem_toArray, List.getElem_cons_zero, List.getElem_cons_succ, Act.put, List.setIfInBounds_toArray, List.set_cons_zero, List.set_cons_succ]
  refine wpAnyH_ready (rs := [8]) (by kernel_rfl) (by simp) ?_
  refine AllReadyH.cons rfl (fun K hK => ?_) AllReadyH.nil
  try simp only [List.getElem_toArray, List.getElem_cons_zero, List.getElem_cons_succ]
  go_simp
  have hr := run_copy_rowz (P := Try.prog) wd 81 81 3 80 i0 2 g ((k + 1) * 2) (n - k) (cap - (k + 1)) ⟨g, k * 2, none⟩ (n + 1 - k) (cap - k) cur 80 (mv (l.drop k)) Try.underlying81 hi hz1 hgd HLK.out.1 (by rw [← mv_drop]; exact cells_row hgd HH.out.2.2.1 (k * 2)) HLK.out.2.1 (mv_one _)
  rw [hr]
  clear hr
  obtain ⟨cur1, hc1⟩ : ∃ c, c = (cur.toList.take ((k + 1) * 2) ++ mv (l.drop k) ++ cur.toList.drop ((k + 1) * 2 + (mv (l.drop k)).length)).toArray := ⟨_, rfl⟩
  rw [← hc1]
  obtain ⟨W9, hW9⟩ : ∃ x, x = wd.setRow g cur1 := ⟨_, rfl⟩
  rw [← hW9]
  have HG9 : Hid (W9.heap[g]? = some (.cells cur1 80 (0, 0))) := Lib.hid (by rw [hW9]; exact setRow_heap wd g cur cur1 80 (0, 0) hgd)
  have HX9 : Hid (W9.heap[vb]? = some (.cells #[.int .i64 xa, .int .i64 xi] 80 (0, 0))) := Lib.hid (by rw [hW9]; exact (setRow_other wd g vb cur1 hvg).trans hxd)
  have HA9 : Hid (Only (fun q => q = g) w W9) := Lib.hid (by rw [hW9]; exact hHeld0.trans (only_row wd g cur1))
  have HC1 := Lib.hid hc1
  clear hc1 hW9 hgd hxd
  go_simp
  refine hK.out _ _ (HA9.out) (fun hHeld1 => ?_)
  clear hK K
  try simp only [List.getElem_toArray, List.getElem_cons_zero, List.getElem_cons_succ, Act.put, List.setIfInBounds_toArray, List.set_cons_zero, List.set_cons_succ]
  refine wpAnyH_done (by kernel_rfl) ?_ _
  refine NoPanic.normal ?_
  have hr := run_copy_rowz (P := Try.prog) W9 81 81 3 80 i0 2 g (k * 2) (n + 1 - k) (cap - k) ⟨vb, 0, none⟩ 1 1 cur1 80 (encM ⟨xa, xi⟩) Try.underlying81 hi hz1 HG9.out HLK.out.2.2.1 (news_x HX9.out) (by rw [HC1.out]; exact HLK.out.2.2.2) (mv_one [⟨xa, xi⟩])
  obtain ⟨cur2, hc2⟩ : ∃ c, c = (cur1.toList.take (k * 2) ++ encM ⟨xa, xi⟩ ++ cur1.toList.drop (k * 2 + (encM ⟨xa, xi⟩).length)).toArray := ⟨_, rfl⟩
  rw [← hc2] at hr
  have HG10 : Hid ((W9.setRow g cur2).heap[g]? = some (.cells cur2 80 (0, 0))) := Lib.hid (setRow_heap W9 g cur1 cur2 80 (0, 0) HG9.out)
  have HF2 : Hid (cur2.size = cap * 2 ∧ cur2.toList.take ((n + 1) * 2) = mv (l.take k ++ ⟨xa, xi⟩ :: l.drop k)) := Lib.hid (by
    rw [hc2, HC1.out]
    exact ins_list HN.out HH.out.2.1 HH.out.2.2.1 hk hroom)
  clear hc2
  go_wp2_with (first | (at_builtin; refine wpList_copy_run _ rfl _ _ 81 81 rfl _ _ rfl rfl hr ?_))
  clear hr
  have HQ : Hid (InsAt (.slice (some ⟨g, 0, none⟩) n cap) l k xa xi w (.returned (.slice (some ⟨g, 0, none⟩) (n + 1) cap)) (W9.setRow g cur2)) := Lib.hid ⟨_, rfl, by
    have h := arr_own HG10.out hroom HH.out.2.2.2.1 HF2.out.1 HF2.out.2
    have hlen : (l.take k ++ ⟨xa, xi⟩ :: l.drop k).length = n + 1 := by rw [List.length_append, List.length_cons, List.length_take, List.length_drop, HN.out]; omega
    unfold OwnM
    rw [hlen]
    exact h, fun q hq => .inl hq, (HA9.out.trans (only_row W9 g cur2)).mono (fun q _ e => by have e' : q = g := e; rw [e']; rfl)⟩
  generalize InsAt (.slice (some ⟨g, 0, none⟩) n cap) l k xa xi w = Q at *
  go_wp2_with fail
  exact HQ.out
end Go.Proofs.Ytiohdfplgpmcdaa.tmw
