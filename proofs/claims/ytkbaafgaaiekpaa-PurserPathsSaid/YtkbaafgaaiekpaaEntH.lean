/- Entries: Opposite. -/
import Derived.Test.YtkbaafgaaiekpaaEntG
import Derived.Shelf.SlicesE.Clone
import Derived.StillTailTactics
namespace Go.Proofs.Ytkbaafgaaiekpaa.entw
open Go.RowKit mem entm
set_option linter.unusedVariables false

/-- the first k turned -/
def oppK (ls : List Lg) (k : Nat) : List Lg := opp (ls.take k) ++ ls.drop k
theorem oppK_zero (ls : List Lg) : oppK ls 0 = ls := by simp [oppK, opp]
theorem oppK_len (ls : List Lg) (k : Nat) : (oppK ls k).length = ls.length := by
  unfold oppK
  rw [List.length_append, opp_len, List.length_take, List.length_drop]
  omega
theorem oppK_all (ls : List Lg) (k : Nat) (h : ls.length ≤ k) : oppK ls k = opp ls := by
  unfold oppK
  rw [List.take_of_length_le h, List.drop_eq_nil_of_le h, List.append_nil]
theorem oppK_split (ls : List Lg) (k : Nat) (h : k < ls.length) : oppK ls k = opp (ls.take k) ++ ls.getD k default :: ls.drop (k + 1) := by
  unfold oppK
  rw [drop_getL ls k h]
theorem oppK_succ (ls : List Lg) (k : Nat) (h : k < ls.length) : oppK ls (k + 1) = opp (ls.take k) ++ { ls.getD k default with a := negI (ls.getD k default).a } :: ls.drop (k + 1) := by
  unfold oppK
  have e : ls.getD k default = ls[k] := by simp [List.getD, h]
  rw [List.take_succ_eq_append_getElem h, e]
  unfold opp
  rw [List.map_append]
  simp only [List.map_cons, List.map_nil, List.append_assoc, List.singleton_append]
theorem oppK_set (ls : List Lg) (k : Nat) (h : k < ls.length) : lv (oppK ls (k + 1)) = (lv (oppK ls k)).set (k * 4 + 3) (.int .i64 (negI (ls.getD k default).a)) := by
  have hl : (lv (opp (ls.take k))).length = k * 4 := by rw [lv_length, opp_len, List.length_take]; congr 1; omega
  rw [oppK_split ls k h, oppK_succ ls k h, lv_append, lv_append, lv_cons, lv_cons, List.set_append_right _ _ (by rw [hl]; omega), hl, show k * 4 + 3 - k * 4 = 3 by omega]
  rfl
theorem oppK_get (ls : List Lg) (k : Nat) (h : k < ls.length) : (lv (oppK ls k))[k * 4 + 3]? = some (.int .i64 (ls.getD k default).a) := by
  have hl : (lv (opp (ls.take k))).length = k * 4 := by rw [lv_length, opp_len, List.length_take]; congr 1; omega
  rw [oppK_split ls k h, lv_append, lv_cons, List.getElem?_append_right (by rw [hl]; omega), hl, show k * 4 + 3 - k * 4 = 3 by omega]
  rfl

theorem neg_wrap (a : Int) (h : InI a) : wrap64 (-a) = negI a := by
  unfold InI at h
  unfold wrap64 negI
  split <;> omega

theorem news_legs {w : World} {b off n : Nat} {ls : List Lg} (h : ReadsL w (some ⟨b, off, none⟩) n ls) : ∀ j u, (lv ls)[j]? = some u → w.cell? ⟨b, off + j, none⟩ = some u := by
  intro j u hu
  have hj : j < ls.length * 4 := by
    rcases Nat.lt_or_ge j (ls.length * 4) with h' | h'
    · exact h'
    · rw [List.getElem?_eq_none (by rw [lv_length]; exact h')] at hu; cases hu
  have hi : j / 4 < ls.length := by omega
  have e := lv_get ls (j / 4) (j % 4) hi (by omega)
  rw [show j / 4 * 4 + j % 4 = j by omega, hu] at e
  rcases h.2.2.2 with h0 | ⟨b', off', ha, hc⟩
  · have := h.1; omega
  · obtain ⟨rfl, rfl⟩ : b = b' ∧ off = off' := by injection ha with ha; injection ha with h1 h2; exact ⟨h1, h2⟩
    obtain ⟨c0, c1, c2, c3⟩ := hc (j / 4) (by rw [← h.1]; exact hi)
    have hm : j % 4 = 0 ∨ j % 4 = 1 ∨ j % 4 = 2 ∨ j % 4 = 3 := by omega
    have hsp : off + j = off + j / 4 * 4 + j % 4 := by omega
    rw [hsp, e]
    rcases hm with h4 | h4 | h4 | h4 <;> rw [h4]
    · exact c0
    · exact c1
    · exact c2
    · exact c3

theorem clone_legs (b off n cap : Nat) (ls : List Lg) (w : World) (h : ReadsL w (some ⟨b, off, none⟩) n ls) (hm : n ≤ 1000) (h1 : 1 ≤ n) :
    Calls Try.prog 81 #[.slice (some ⟨b, off, none⟩) n cap] w fun e w' => ∃ g cp, e = .returned (.slice (some ⟨g, 0, none⟩) n cp) ∧ OwnL w' (.slice (some ⟨g, 0, none⟩) n cp) ls ∧ w.heap.size ≤ g ∧ Only (fun _ => False) w w' := by
  obtain ⟨i0, hi, hz0, hz1, hz2⟩ := info_parts info_leg
  refine (AnyE.slices_Clone Try.cloneLegs i0 _ 4 32 hi hz0 hz1 hz2 rfl (by decide) Try.sizeOf106 b off n cap (lv ls) w (by rw [lv_length, h.1]) (by unfold maxLen; omega) (by omega) (news_legs h) (lv_one ls)).mono ?_
  rintro e w' ⟨v, rfl, hown, hne, hb⟩
  obtain ⟨g, cp, rfl, hg, _⟩ := owns_form hown (by omega)
  refine ⟨g, cp, rfl, ?_, hg, Only.of_below hb⟩
  unfold OwnL
  rw [h.1]
  exact owns_le hown (Nat.zero_le _)

/-- Opposite on the way: k are turned -/
structure OpW (kind : Int) (ls : List Lg) (b3 g n cp k : Nat) (w wf : World) : Prop where
  c0 : wf.cell? ⟨b3, 0, none⟩ = some (.int .i64 kind)
  c1 : wf.cell? ⟨b3, 1, none⟩ = some (.slice (some ⟨g, 0, none⟩) n cp)
  own : OwnL wf (.slice (some ⟨g, 0, none⟩) n cp) (oppK ls k)
  r0 : ∃ u, wf.cell? ⟨w.heap.size + 1, 0, none⟩ = some u
  r1 : ∃ u, wf.cell? ⟨w.heap.size + 1, 1, none⟩ = some u
  f0 : wf.frozen? ⟨w.heap.size + 1, 0, none⟩ = false
  f1 : wf.frozen? ⟨w.heap.size + 1, 1, none⟩ = false
  only : Only (fun _ => False) w wf
  gw : w.heap.size + 2 ≤ g
  gb : g ≠ b3
theorem OpW.step {kind : Int} {ls : List Lg} {b3 g n cp k : Nat} {w wf : World} (h : OpW kind ls b3 g n cp k w wf) (hn : n = ls.length) (hk : k < n) (d : Nat) :
    OpW kind ls b3 g n cp (k + 1) w ((wf.drewN d).setCell ⟨g, k * 4 + 3, none⟩ (.int .i64 (negI (ls.getD k default).a))) := by
  have hgw := h.gw
  have ho : Only (fun q => q = g) wf ((wf.drewN d).setCell ⟨g, k * 4 + 3, none⟩ (.int .i64 (negI (ls.getD k default).a))) := (only_drewN (Only.refl (fun q => q = g) wf) d).setCell (p := ⟨g, k * 4 + 3, none⟩) (.inl rfl) _
  obtain ⟨u0, hu0⟩ := h.r0
  obtain ⟨u1, hu1⟩ := h.r1
  have hb := World.block_lt_of_cell? wf _ hu0
  refine ⟨ho.cell' h.c0 (fun e => h.gb e.symm), ho.cell' h.c1 (fun e => h.gb e.symm), ?_, ⟨u0, ho.cell' hu0 (show ¬ w.heap.size + 1 = g by omega)⟩, ⟨u1, ho.cell' hu1 (show ¬ w.heap.size + 1 = g by omega)⟩,
    (ho.frozen (p := ⟨w.heap.size + 1, 0, none⟩) hb (show ¬ w.heap.size + 1 = g by omega)).trans h.f0, (ho.frozen (p := ⟨w.heap.size + 1, 1, none⟩) hb (show ¬ w.heap.size + 1 = g by omega)).trans h.f1, h.only.then ho (fun q hq e => by omega), h.gw, h.gb⟩
  have h1 : OwnL (wf.drewN d) (.slice (some ⟨g, 0, none⟩) n cp) (oppK ls k) := h.own.only (only_drewN (Only.refl (fun _ => False) wf) d) (fun _ _ f => f)
  unfold OwnL at h1 ⊢
  rw [oppK_len, ← hn] at h1 ⊢
  rw [oppK_set ls k (by omega)]
  exact (h1.stored (k * 4 + 3) _).1

/-- behind Opposite -/
def OppAt (kind : Int) (ls : List Lg) (w : World) (e : Ending) (w' : World) : Prop :=
  ∃ g cap, e = .returned (.agg #[.int .i64 kind, .slice (some ⟨g, 0, none⟩) ls.length cap]) ∧ OwnL w' (.slice (some ⟨g, 0, none⟩) ls.length cap) (opp ls) ∧ w.heap.size ≤ g ∧ Only (fun _ => False) w w'

end Go.Proofs.Ytkbaafgaaiekpaa.entw
