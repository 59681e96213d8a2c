/- Entries: Opposite. -/
import Derived.Test.YtdjiljkdnpmilaaEntG
import Derived.Shelf.SlicesE.Clone
import Derived.StillTailTactics
namespace Go.Proofs.Ytdjiljkdnpmilaa.entw
open Go.RowKit mem entm
set_option linter.unusedVariables false

/-- the first k turned -/
def oppK (ls : List Lg) (k : Nat) : List Lg := opp (ls.take k) ++ ls.drop k
theorem oppK_zero (ls : List Lg) : oppK ls 0 = ls := by simp [oppK, opp]
theorem oppK_len (ls : List Lg) (k : Nat) : (oppK ls k).length = ls.length := by
  unfold oppK
  rw [List.length_append, opp_len, List.length_take, List.length_drop]
  omega
theorem oppK_all (ls : List Lg) (k : Nat) (h : ls.length ≤ k) : oppK ls k = opp ls := by
  unfold oppK
  rw [List.take_of_length_le h, List.drop_eq_nil_of_le h, List.append_nil]
theorem oppK_split (ls : List Lg) (k : Nat) (h : k < ls.length) : oppK ls k = opp (ls.take k) ++ ls.getD k default :: ls.drop (k + 1) := by
  unfold oppK
  rw [drop_getL ls k h]
theorem oppK_succ (ls : List Lg) (k : Nat) (h : k < ls.length) : oppK ls (k + 1) = opp (ls.take k) ++ { ls.getD k default with a := negI (ls.getD k default).a } :: ls.drop (k + 1) := by
  unfold oppK
  have e : ls.getD k default = ls[k] := by simp [List.getD, h]
  rw [List.take_succ_eq_append_getElem h, e]
  unfold opp
  rw [List.map_append]
  simp only [List.map_cons, List.map_nil, List.append_assoc, List.singleton_append]
theorem oppK_set (ls : List Lg) (k : Nat) (h : k < ls.length) : lv (oppK ls (k + 1)) = (lv (oppK ls k)).set (k * 4 + 3) (.int .i64 (negI (ls.getD k default).a)) := by
  have hl : (lv (opp (ls.take k))).length = k * 4 := by rw [lv_length, opp_len, List.length_take]; congr 1; omega
  rw [oppK_split ls k h, oppK_succ ls k h, lv_append, lv_append, lv_cons, lv_cons, List.set_append_right _ _ (by rw [hl]; omega), hl, show k * 4 + 3 - k * 4 = 3 by omega]
  rfl
theorem oppK_get (ls : List Lg) (k : Nat) (h : k < ls.length) : (lv (oppK ls k))[k * 4 + 3]? = some (.int .i64 (ls.getD k default).a) := by
  have hl : (lv (opp (ls.take k))).length = k * 4 := by rw [lv_length, opp_len, List.length_take]; congr 1; omega
  rw [oppK_split ls k h, lv_append, lv_cons, List.getElem?_append_right (by rw [hl]; omega), hl, show k * 4 + 3 - k * 4 = 3 by omega]
  rfl

theorem neg_wrap (a : Int) (h : InI a) : wrap64 (-a) = negI a := by
  unfold InI at h
  unfold wrap64 negI
  split <;> omega

theorem news_legs {w : World} {b off n : Nat} {ls : List Lg} (h : ReadsL w (some ⟨b, off, none⟩) n ls) : ∀ j u, (lv ls)[j]? = some u → w.cell? ⟨b, off + j, none⟩ = some u := by
  intro j u hu
  have hj : j < ls.length * 4 := by
    rcases Nat.lt_or_ge j (ls.length * 4) with h' | h'
    · exact h'
    · rw [List.getElem?_eq_none (by rw [lv_length]; exact h')] at hu; cases hu
  have hi : j / 4 < ls.length := by omega
  have e := lv_get ls (j / 4) (j % 4) hi (by omega)
  rw [show j / 4 * 4 + j % 4 = j by omega, hu] at e
  rcases h.2.2.2 with h0 | ⟨b', off', ha, hc⟩
  · have := h.1; omega
  · obtain ⟨rfl, rfl⟩ : b = b' ∧ off = off' := by injection ha with ha; injection ha with h1 h2; exact ⟨h1, h2⟩
    obtain ⟨c0, c1, c2, c3⟩ := hc (j / 4) (by rw [← h.1]; exact hi)
    have hm : j % 4 = 0 ∨ j % 4 = 1 ∨ j % 4 = 2 ∨ j % 4 = 3 := by omega
    have hsp : off + j = off + j / 4 * 4 + j % 4 := by omega
    rw [hsp, e]
    rcases hm with h4 | h4 | h4 | h4 <;> rw [h4]
    · exact c0
    · exact c1
    · exact c2
    · exact c3

theorem clone_legs (b off n cap : Nat) (ls : List Lg) (w : World) (h : ReadsL w (some ⟨b, off, none⟩) n ls) (hm : n ≤ 1000) (h1 : 1 ≤ n) :
    Calls Try.prog 33 #[.slice (some ⟨b, off, none⟩) n cap] w fun e w' => ∃ g cp, e = .returned (.slice (some ⟨g, 0, none⟩) n cp) ∧ OwnL w' (.slice (some ⟨g, 0, none⟩) n cp) ls ∧ w.heap.size ≤ g ∧ Only (fun _ => False) w w' := by
  obtain ⟨i0, hi, hz0, hz1, hz2⟩ := info_parts info_leg
  refine (AnyE.slices_Clone Try.cloneLegs i0 _ 4 32 hi hz0 hz1 hz2 rfl (by decide) Try.sizeOf40 b off n cap (lv ls) w (by rw [lv_length, h.1]) (by unfold maxLen; omega) (by omega) (news_legs h) (lv_one ls)).mono ?_
  rintro e w' ⟨v, rfl, hown, hne, hb⟩
  obtain ⟨g, cp, rfl, hg, _⟩ := owns_form hown (by omega)
  refine ⟨g, cp, rfl, ?_, hg, Only.of_below hb⟩
  unfold OwnL
  rw [h.1]
  exact owns_le hown (Nat.zero_le _)

/-- Opposite on the way: k are turned -/
structure OpW (kind : Int) (ls : List Lg) (b3 g n cp k : Nat) (w wf : World) : Prop where
  c0 : wf.cell? ⟨b3, 0, none⟩ = some (.int .i64 kind)
  c1 : wf.cell? ⟨b3, 1, none⟩ = some (.slice (some ⟨g, 0, none⟩) n cp)
  own : OwnL wf (.slice (some ⟨g, 0, none⟩) n cp) (oppK ls k)
  r0 : ∃ u, wf.cell? ⟨w.heap.size + 1, 0, none⟩ = some u
  r1 : ∃ u, wf.cell? ⟨w.heap.size + 1, 1, none⟩ = some u
  f0 : wf.frozen? ⟨w.heap.size + 1, 0, none⟩ = false
  f1 : wf.frozen? ⟨w.heap.size + 1, 1, none⟩ = false
  only : Only (fun _ => False) w wf
  gw : w.heap.size + 2 ≤ g
  gb : g ≠ b3
theorem OpW.step {kind : Int} {ls : List Lg} {b3 g n cp k : Nat} {w wf : World} (h : OpW kind ls b3 g n cp k w wf) (hn : n = ls.length) (hk : k < n) (d : Nat) :
    OpW kind ls b3 g n cp (k + 1) w ((wf.drewN d).setCell ⟨g, k * 4 + 3, none⟩ (.int .i64 (negI (ls.getD k default).a))) := by
  have hgw := h.gw
  have ho : Only (fun q => q = g) wf ((wf.drewN d).setCell ⟨g, k * 4 + 3, none⟩ (.int .i64 (negI (ls.getD k default).a))) := (only_drewN (Only.refl (fun q => q = g) wf) d).setCell (p := ⟨g, k * 4 + 3, none⟩) (.inl rfl) _
  obtain ⟨u0, hu0⟩ := h.r0
  obtain ⟨u1, hu1⟩ := h.r1
  have hb := World.block_lt_of_cell? wf _ hu0
  refine ⟨ho.cell' h.c0 (fun e => h.gb e.symm), ho.cell' h.c1 (fun e => h.gb e.symm), ?_, ⟨u0, ho.cell' hu0 (show ¬ w.heap.size + 1 = g by omega)⟩, ⟨u1, ho.cell' hu1 (show ¬ w.heap.size + 1 = g by omega)⟩,
    (ho.frozen (p := ⟨w.heap.size + 1, 0, none⟩) hb (show ¬ w.heap.size + 1 = g by omega)).trans h.f0, (ho.frozen (p := ⟨w.heap.size + 1, 1, none⟩) hb (show ¬ w.heap.size + 1 = g by omega)).trans h.f1, h.only.then ho (fun q hq e => by omega), h.gw, h.gb⟩
  have h1 : OwnL (wf.drewN d) (.slice (some ⟨g, 0, none⟩) n cp) (oppK ls k) := h.own.only (only_drewN (Only.refl (fun _ => False) wf) d) (fun _ _ f => f)
  unfold OwnL at h1 ⊢
  rw [oppK_len, ← hn] at h1 ⊢
  rw [oppK_set ls k (by omega)]
  exact (h1.stored (k * 4 + 3) _).1

/-- behind Opposite -/
def OppAt (kind : Int) (ls : List Lg) (w : World) (e : Ending) (w' : World) : Prop :=
  ∃ g cap, e = .returned (.agg #[.int .i64 kind, .slice (some ⟨g, 0, none⟩) ls.length cap]) ∧ OwnL w' (.slice (some ⟨g, 0, none⟩) ls.length cap) (opp ls) ∧ w.heap.size ≤ g ∧ Only (fun _ => False) w w'

set_option maxRecDepth 100000 in
set_option maxHeartbeats 2000000 in
attribute [local go_sem ↓] Go.wp_at_zero Go.wp_at_succ in
theorem opp_some (kind : Int) (b off n cap : Nat) (ls : List Lg) (w : World) (h : ReadsL w (some ⟨b, off, none⟩) n ls) (hm : n ≤ 1000) (h1 : 1 ≤ n) :
    Calls Try.prog 11 #[.agg #[.int .i64 kind, .slice (some ⟨b, off, none⟩) n cap]] w (OppAt kind ls w) := by
  have HCL := Lib.hid (fun w' (ho : Only (fun _ => False) w w') => clone_legs b off n cap ls w' (h.only ho (fun _ _ f => f)) hm h1)
  have HO : Hid (∀ o p, Only (fun _ => False) w ((w.alloc o).alloc p)) := Lib.hid (fun o p => ((Only.refl _ w).alloc o).alloc p)
  have H := Lib.hid h
  have HL := Lib.hid h.1
  clear h
  go_enter Try.func11, Try.ntmps11
  go_wp2_with fail
  have hq0 : ((w.alloc (Obj.cells #[Value.int IntKind.i64 kind, Value.slice (some { block := b, off := off, spot := none }) n cap] 25)).alloc (Obj.cells #[Value.int IntKind.i64 0, Value.slice none 0 0] 25)).cell? ⟨w.heap.size, 0, none⟩ = some (.int .i64 kind) := ((Only.refl (fun _ => False) _).alloc _).cell' (alloc_new _ _ _ _ _ _ rfl rfl) (fun f => f)
  have hq1 : ((w.alloc (Obj.cells #[Value.int IntKind.i64 kind, Value.slice (some { block := b, off := off, spot := none }) n cap] 25)).alloc (Obj.cells #[Value.int IntKind.i64 0, Value.slice none 0 0] 25)).cell? ⟨w.heap.size, 1, none⟩ = some (.slice (some ⟨b, off, none⟩) n cap) := ((Only.refl (fun _ => False) _).alloc _).cell' (alloc_new _ _ _ _ _ _ rfl rfl) (fun f => f)
  have hq2 : ((w.alloc (Obj.cells #[Value.int IntKind.i64 kind, Value.slice (some { block := b, off := off, spot := none }) n cap] 25)).alloc (Obj.cells #[Value.int IntKind.i64 0, Value.slice none 0 0] 25)).cell? ⟨w.heap.size + 1, 0, none⟩ = some (.int .i64 0) := alloc_new _ _ _ _ _ _ (by simp) rfl
  have hq3 : ((w.alloc (Obj.cells #[Value.int IntKind.i64 kind, Value.slice (some { block := b, off := off, spot := none }) n cap] 25)).alloc (Obj.cells #[Value.int IntKind.i64 0, Value.slice none 0 0] 25)).cell? ⟨w.heap.size + 1, 1, none⟩ = some (.slice none 0 0) := alloc_new _ _ _ _ _ _ (by simp) rfl
  generalize hw0 : (w.alloc (Obj.cells #[Value.int IntKind.i64 kind, Value.slice (some { block := b, off := off, spot := none }) n cap] 25)).alloc (Obj.cells #[Value.int IntKind.i64 0, Value.slice none 0 0] 25) = w0 at *
  have HO0 : Hid (Only (fun _ => False) w w0 ∧ w0.frozen? ⟨w.heap.size + 1, 0, none⟩ = false ∧ w0.frozen? ⟨w.heap.size + 1, 1, none⟩ = false ∧ w0.heap.size = w.heap.size + 2) := Lib.hid (by rw [← hw0]; exact ⟨HO.out _ _, by simp, by simp, by simp⟩)
  clear hw0
  have HKP : Hid (∀ w', Only (fun k => k = w0.heap.size) w0 w' → w'.cell? ⟨w.heap.size, 0, none⟩ = some (.int .i64 kind) ∧ w'.cell? ⟨w.heap.size, 1, none⟩ = some (.slice (some ⟨b, off, none⟩) n cap)) := Lib.hid (fun w' ho => by
    have := HO0.out.2.2.2
    exact ⟨ho.cell' hq0 (show ¬ w.heap.size = _ by omega), ho.cell' hq1 (show ¬ w.heap.size = _ by omega)⟩)
  have hnn0 : w0.heap.size ≠ w.heap.size := World.new_ne w0 _ hq0
  have hnn1 : w.heap.size ≠ w0.heap.size := fun e => hnn0 e.symm
  go_region_held3 (fun w' => w'.cell? ⟨w.heap.size, 0, none⟩ = some (.int .i64 kind) ∧ w'.cell? ⟨w.heap.size, 1, none⟩ = some (.slice (some ⟨b, off, none⟩) n cap))
    ((refine HKP.out _ ?_; repeat (first | exact Only.refl _ _ | refine Only.drew ?_ | refine Only.alloc ?_ _ | refine Only.then ?_ hon (fun _ _ f => f.elim) | refine Only.setCell ?_ (by left; rfl) _)))
    ((go_at_call 33; refine (HCL.out _ (by first | exact HO0.out.1 | exact HO0.out.1.drew | exact (HO0.out.1.alloc _).drew | exact HO0.out.1.alloc _)).mono ?_; rintro _ w1 ⟨g, cp, rfl, hown, hgw, hon⟩;
      try (have hz0 := hon.cell' (drew_new w0 #[.int .i64 0, .slice none 0 0] 25 w0.heap.size 0 _ rfl rfl) (fun f => f); have hz1 := hon.cell' (drew_new w0 #[.int .i64 0, .slice none 0 0] 25 w0.heap.size 1 _ rfl rfl) (fun f => f)
           have hzs : w0.heap.size < ((w0.alloc (.cells #[.int .i64 0, .slice none 0 0] 25)).drew).heap.size := by simp
           have hz2 := (hon.frozen (p := ⟨w0.heap.size, 0, none⟩) hzs (fun f => f)).trans (by simp : _ = false); have hz3 := (hon.frozen (p := ⟨w0.heap.size, 1, none⟩) hzs (fun f => f)).trans (by simp : _ = false))))
  · have hop : OpW kind ls w1.heap.size g n cp 0 w (w1.alloc (.cells #[.int .i64 kind, .slice (some ⟨g, 0, none⟩) n cp] 25)) := by
      have hsz := HO0.out.2.2.2
      have ho : Only (fun _ => False) w0 (w1.alloc (.cells #[.int .i64 kind, .slice (some ⟨g, 0, none⟩) n cp] 25)) := (Only.then (Only.refl _ w0).drew hon (fun _ _ f => f)).alloc _
      have hgl := own_lt hown g rfl
      have hw0 : w0.heap.size ≤ g := hgw
      refine ⟨alloc_new _ _ _ _ _ _ rfl rfl, alloc_new _ _ _ _ _ _ rfl rfl, ?_, ⟨_, ho.cell' hq2 (fun f => f)⟩, ⟨_, ho.cell' hq3 (fun f => f)⟩, (ho.frozen (p := ⟨w.heap.size + 1, 0, none⟩) (by show w.heap.size + 1 < _; omega) (fun f => f)).trans HO0.out.2.1, (ho.frozen (p := ⟨w.heap.size + 1, 1, none⟩) (by show w.heap.size + 1 < _; omega) (fun f => f)).trans HO0.out.2.2.1, HO0.out.1.trans ho, by omega, by omega⟩
      rw [oppK_zero]
      exact hown.only ((Only.refl (fun _ => False) w1).alloc _) (fun _ _ f => f)
    generalize w1.alloc (.cells #[.int .i64 kind, .slice (some ⟨g, 0, none⟩) n cp] 25) = wf at *
    generalize w1.heap.size = b3 at *
    have HOP := Lib.hid hop
    have c1 := hop.c1
    clear hop hq0 hq1 hq2 hq3 hnn0 hnn1 HKP HCL
    go_wp2_with fail
    clear c1
    go_loopw [14] (fun i wr => ∃ k : Nat, k ≤ n ∧ i = .int .i64 k ∧ Hid (OpW kind ls b3 g n cp k w wr)) (fun i _ => n - (intOf i).toNat)
    case atStart => exact ⟨0, by omega, rfl, HOP⟩
    case round =>
      clear HOP
      obtain ⟨k, hk, rfl, HW⟩ := hrel
      by_cases h8 : k < n
      · have c1 := HW.out.c1
        have e3 : wr.cell? ⟨g, k * 4 + 3, none⟩ = some (.int .i64 (ls.getD k default).a) := by
          have := HW.out.own
          unfold OwnL at this
          rw [oppK_len, HL.out] at this
          rw [this.cellAt (k * 4 + 3) (by omega), oppK_get ls k (by rw [HL.out]; exact h8)]
        have f3 : wr.frozen? ⟨g, k * 4 + 3, none⟩ = false := by
          have := HW.out.own
          unfold OwnL at this
          rw [oppK_len, HL.out] at this
          exact this.frozenAt _
        have HS := Lib.hid (fun d => HW.out.step HL.out.symm h8 d)
        have hwn := neg_wrap _ (H.out.2.2.1 _ (getL_mem ls k (by rw [HL.out]; exact h8))).2.2.2
        have hk0 : (0 : Int) ≤ (k : Int) := by omega
        have hkn : (k : Int) < (n : Int) := by omega
        generalize (ls.getD k default).a = x at *
        generalize negI x = y at *
        go_wp2_with fail
        refine wp_region_still_tail 12 (by kernel_rfl) (by kernel_rfl) ?_
        generalize hws : World.mk _ _ _ _ _ = ws
        have HWS : Hid (ws = wr.drewN 1) := Lib.hid (by rw [← hws]; rfl)
        clear hws
        have c1' : ws.cell? ⟨b3, 1, none⟩ = some (.slice (some ⟨g, 0, none⟩) n cp) := by rw [HWS.out]; exact c1
        have e3' : ws.cell? ⟨g, k * 4 + 3, none⟩ = some (.int .i64 x) := by rw [HWS.out]; exact e3
        have f3' : ws.frozen? ⟨g, k * 4 + 3, none⟩ = false := by rw [HWS.out]; exact f3
        clear c1 e3 f3
        simp only [List.take_succ_cons, List.take_zero, List.drop_succ_cons, List.drop_zero]
        repeat still_step
        refine wpStill_nil ?_
        go_wp2_with fail
        exact ⟨⟨k + 1, by omega, by go_num, by rw [HWS.out]; exact Lib.hid (HS.out 1)⟩, by simp [intOf]; omega⟩
      · obtain rfl : k = n := by omega
        have c0 := HW.out.c0
        have c1 := HW.out.c1
        obtain ⟨u0, r0⟩ := HW.out.r0
        obtain ⟨u1, r1⟩ := HW.out.r1
        have f0 := HW.out.f0
        have f1 := HW.out.f1
        have HFO : Hid (∀ x y, Only (fun q => q = w.heap.size + 1) wr ((wr.setCell ⟨w.heap.size + 1, 0, none⟩ x).setCell ⟨w.heap.size + 1, 1, none⟩ y)) := Lib.hid (fun x y => ((Only.refl (fun q => q = w.heap.size + 1) wr).setCell (p := ⟨w.heap.size + 1, 0, none⟩) (.inl rfl) x).setCell (p := ⟨w.heap.size + 1, 1, none⟩) (.inl rfl) y)
        have hgw2 := HW.out.gw
        go_wp2_with fail
        refine bodyPost_ret (v := .agg #[.int .i64 kind, .slice (some ⟨g, 0, none⟩) k cp]) (by simp [results, Try.results11, go_sem, (set_two (x := .int .i64 kind) (y := .slice (some ⟨g, 0, none⟩) k cp) r0 r1).1, (set_two (x := .int .i64 kind) (y := .slice (some ⟨g, 0, none⟩) k cp) r0 r1).2]) rfl ⟨g, cp, by rw [HL.out], ?_, by omega, HW.out.only.then (HFO.out _ _) (fun q hq e => by omega)⟩
        have := HW.out.own
        rw [oppK_all ls k (by rw [HL.out]; omega)] at this
        rw [HL.out]
        exact this.only (HFO.out _ _) (fun q hq e => by injection hq with hq; have : g = w.heap.size + 1 := hq.trans e; omega)
  · have hop : OpW kind ls w0.heap.size g n cp 0 w ((w1.setCell ⟨w0.heap.size, 0, none⟩ (.int .i64 kind)).setCell ⟨w0.heap.size, 1, none⟩ (.slice (some ⟨g, 0, none⟩) n cp)) := by
      have hsz := HO0.out.2.2.2
      have hgw' : w0.heap.size + 1 ≤ g := by simpa using hgw
      have ho2 : Only (fun q => q = w0.heap.size) w1 ((w1.setCell ⟨w0.heap.size, 0, none⟩ (.int .i64 kind)).setCell ⟨w0.heap.size, 1, none⟩ (.slice (some ⟨g, 0, none⟩) n cp)) := ((Only.refl (fun q => q = w0.heap.size) w1).setCell (p := ⟨w0.heap.size, 0, none⟩) (.inl rfl) _).setCell (p := ⟨w0.heap.size, 1, none⟩) (.inl rfl) _
      have ho1 : Only (fun _ => False) w0 w1 := ((Only.refl _ w0).alloc _).drew.then hon (fun _ _ f => f)
      have ho : Only (fun _ => False) w0 ((w1.setCell ⟨w0.heap.size, 0, none⟩ (.int .i64 kind)).setCell ⟨w0.heap.size, 1, none⟩ (.slice (some ⟨g, 0, none⟩) n cp)) := ho1.then ho2 (fun q hq e => by omega)
      refine ⟨?_, (set_two hz0 hz1).2, ?_, ⟨_, ho.cell' hq2 (fun f => f)⟩, ⟨_, ho.cell' hq3 (fun f => f)⟩, (ho.frozen (p := ⟨w.heap.size + 1, 0, none⟩) (by show w.heap.size + 1 < _; omega) (fun f => f)).trans HO0.out.2.1, (ho.frozen (p := ⟨w.heap.size + 1, 1, none⟩) (by show w.heap.size + 1 < _; omega) (fun f => f)).trans HO0.out.2.2.1, HO0.out.1.trans ho, by omega, by omega⟩
      · rw [cell_other (off_ne (by omega))]; exact (set_two (y := .slice none 0 0) hz0 hz1).1
      · rw [oppK_zero]
        exact hown.only ho2 (fun q hq e => by injection hq with hq; have : g = w0.heap.size := hq.trans e; omega)
    generalize (w1.setCell ⟨w0.heap.size, 0, none⟩ (.int .i64 kind)).setCell ⟨w0.heap.size, 1, none⟩ (.slice (some ⟨g, 0, none⟩) n cp) = wf at *
    clear hz0 hz1 hz2 hz3
    generalize w0.heap.size = b3 at *
    have HOP := Lib.hid hop
    have c1 := hop.c1
    clear hop hq0 hq1 hq2 hq3 hnn0 hnn1 HKP HCL
    go_wp2_with fail
    clear c1
    go_loopw [14] (fun i wr => ∃ k : Nat, k ≤ n ∧ i = .int .i64 k ∧ Hid (OpW kind ls b3 g n cp k w wr)) (fun i _ => n - (intOf i).toNat)
    case atStart => exact ⟨0, by omega, rfl, HOP⟩
    case round =>
      clear HOP
      obtain ⟨k, hk, rfl, HW⟩ := hrel
      by_cases h8 : k < n
      · have c1 := HW.out.c1
        have e3 : wr.cell? ⟨g, k * 4 + 3, none⟩ = some (.int .i64 (ls.getD k default).a) := by
          have := HW.out.own
          unfold OwnL at this
          rw [oppK_len, HL.out] at this
          rw [this.cellAt (k * 4 + 3) (by omega), oppK_get ls k (by rw [HL.out]; exact h8)]
        have f3 : wr.frozen? ⟨g, k * 4 + 3, none⟩ = false := by
          have := HW.out.own
          unfold OwnL at this
          rw [oppK_len, HL.out] at this
          exact this.frozenAt _
        have HS := Lib.hid (fun d => HW.out.step HL.out.symm h8 d)
        have hwn := neg_wrap _ (H.out.2.2.1 _ (getL_mem ls k (by rw [HL.out]; exact h8))).2.2.2
        have hk0 : (0 : Int) ≤ (k : Int) := by omega
        have hkn : (k : Int) < (n : Int) := by omega
        generalize (ls.getD k default).a = x at *
        generalize negI x = y at *
        go_wp2_with fail
        refine wp_region_still_tail 12 (by kernel_rfl) (by kernel_rfl) ?_
        generalize hws : World.mk _ _ _ _ _ = ws
        have HWS : Hid (ws = wr.drewN 1) := Lib.hid (by rw [← hws]; rfl)
        clear hws
        have c1' : ws.cell? ⟨b3, 1, none⟩ = some (.slice (some ⟨g, 0, none⟩) n cp) := by rw [HWS.out]; exact c1
        have e3' : ws.cell? ⟨g, k * 4 + 3, none⟩ = some (.int .i64 x) := by rw [HWS.out]; exact e3
        have f3' : ws.frozen? ⟨g, k * 4 + 3, none⟩ = false := by rw [HWS.out]; exact f3
        clear c1 e3 f3
        simp only [List.take_succ_cons, List.take_zero, List.drop_succ_cons, List.drop_zero]
        repeat still_step
        refine wpStill_nil ?_
        go_wp2_with fail
        exact ⟨⟨k + 1, by omega, by go_num, by rw [HWS.out]; exact Lib.hid (HS.out 1)⟩, by simp [intOf]; omega⟩
      · obtain rfl : k = n := by omega
        have c0 := HW.out.c0
        have c1 := HW.out.c1
        obtain ⟨u0, r0⟩ := HW.out.r0
        obtain ⟨u1, r1⟩ := HW.out.r1
        have f0 := HW.out.f0
        have f1 := HW.out.f1
        have HFO : Hid (∀ x y, Only (fun q => q = w.heap.size + 1) wr ((wr.setCell ⟨w.heap.size + 1, 0, none⟩ x).setCell ⟨w.heap.size + 1, 1, none⟩ y)) := Lib.hid (fun x y => ((Only.refl (fun q => q = w.heap.size + 1) wr).setCell (p := ⟨w.heap.size + 1, 0, none⟩) (.inl rfl) x).setCell (p := ⟨w.heap.size + 1, 1, none⟩) (.inl rfl) y)
        have hgw2 := HW.out.gw
        go_wp2_with fail
        refine bodyPost_ret (v := .agg #[.int .i64 kind, .slice (some ⟨g, 0, none⟩) k cp]) (by simp [results, Try.results11, go_sem, (set_two (x := .int .i64 kind) (y := .slice (some ⟨g, 0, none⟩) k cp) r0 r1).1, (set_two (x := .int .i64 kind) (y := .slice (some ⟨g, 0, none⟩) k cp) r0 r1).2]) rfl ⟨g, cp, by rw [HL.out], ?_, by omega, HW.out.only.then (HFO.out _ _) (fun q hq e => by omega)⟩
        have := HW.out.own
        rw [oppK_all ls k (by rw [HL.out]; omega)] at this
        rw [HL.out]
        exact this.only (HFO.out _ _) (fun q hq e => by injection hq with hq; have : g = w.heap.size + 1 := hq.trans e; omega)
end Go.Proofs.Ytdjiljkdnpmilaa.entw
