/- The disk: Sync. -/
import Derived.Test.YtcbpgplmphgcgaaDsk3
import Derived.Deep.LoopGhost
namespace Go.Proofs.Ytcbpgplmphgcgaa.dskw
open Go.RowKit mem
set_option linter.unusedVariables false

set_option maxRecDepth 100000 in
set_option maxHeartbeats 1000000 in
theorem sync_off (p bl bm n : Nat) (L : Nat → List Nat) (C : Nat → Option (List Nat)) (cut : Int) (w : World) (h : DskAt w p bl bm n L C cut true) :
    Calls Try.prog 81 #[.pointer (some ⟨p, 0, none⟩)] w fun e w' => e = .returned (.int .i64 12) ∧ w = w' := by
  have c3 := h.c3
  clear h
  go_enter Try.func81, Try.ntmps81
  go_wp2_with fail
  go_ret
  exact ⟨rfl, rfl⟩
theorem sync_nil (w : World) : Calls Try.prog 81 #[.pointer none] w fun e w' => e = .returned (.int .i64 1) ∧ w = w' := by
  go_enter Try.func81, Try.ntmps81
  go_wp2
  go_ret
  exact ⟨rfl, rfl⟩

theorem RangeC.only {S : Nat → Prop} {w w' : World} {b r n cnt : Nat} {C : Nat → Option (List Nat)} {left : Nat → Bool} (h : RangeC w b r n C left cnt) (ho : Only S w w') (hb : ¬ S b) (hr : ¬ S r) : RangeC w' b r n C left cnt := by
  obtain ⟨D, lf, h0, hL, hlf⟩ := h
  have h1 := h0.owns.lt
  have h2 := h0.lt
  obtain ⟨es, clock, since, seen, c0, hbk, F, hs, hD, hrr, rest⟩ := h0
  exact ⟨D, lf, ⟨es, clock, since, seen, c0, (ho.block b h1 hb).trans hbk, F, hs, hD, (ho.block r h2 hr).trans hrr, rest⟩, hL, hlf⟩
theorem RangeC.ne {w : World} {b r n cnt : Nat} {C : Nat → Option (List Nat)} {left : Nat → Bool} (h : RangeC w b r n C left cnt) : r ≠ b := by
  obtain ⟨D, lf, h0, hL, hlf⟩ := h
  exact h0.ne

theorem only_cells {S : Nat → Prop} {b : Nat} (hb : S b) : ∀ (vs : List Value) (o : Nat) (w0 w : World), Only S w0 w → Only S w0 (w.setCells b o vs) := by
  intro vs
  induction vs with
  | nil => intro o w0 w h; exact h
  | cons v r ih =>
    intro o w0 w h
    rw [World.setCells]
    exact ih (o + 1) w0 _ (h.setCell (p := ⟨b, o, none⟩) (.inl hb) v)

/-- the rows with one sector anew -/
def updL (L : Nat → List Nat) (i : Nat) (l : List Nat) : Nat → List Nat := fun j => if j = i then l else L j

theorem DskAt.setRow {w : World} {p bl bm n : Nat} {L : Nat → List Nat} {C : Nat → Option (List Nat)} {cut : Int} {off : Bool} (h : DskAt w p bl bm n L C cut off) {i : Nat} {l : List Nat} (hi : i < n) (hl : Sec l) : DskAt (w.setCells bl (i * 64) (bv l)) p bl bm n (updL L i l) C cut off := by
  have ho : Only (fun k => k = bl) w (w.setCells bl (i * 64) (bv l)) := only_cells (S := fun k => k = bl) (b := bl) rfl _ _ _ _ (Only.refl _ w)
  have h1 : ¬ p = bl := fun e => h.ne1 e.symm
  have hp := h.lt.1
  have hth : w.there bl (i * 64) (bv l).length := by rw [bv_length, hl.1]; exact (h.row i hi).2.2
  refine ⟨ho.cell' h.c0 h1, ho.cell' h.c1 h1, ho.cell' h.c2 h1, ho.cell' h.c3 h1, (ho.frozen (p := ⟨p, 2, none⟩) hp h1).trans h.f2, (ho.frozen (p := ⟨p, 3, none⟩) hp h1).trans h.f3, fun j hj => ?_, h.map.only ho (fun e => h.ne3 e.symm), h.ne1, h.ne2, h.ne3, h.n1, h.n2, h.cut1⟩
  refine ⟨?_, ?_, World.there_setCells (h.row j hj).2.2 bl (i * 64) (bv l)⟩
  · unfold updL
    by_cases e : j = i
    · rw [if_pos e]; exact hl
    · rw [if_neg e]; exact (h.row j hj).1
  · unfold updL
    by_cases e : j = i
    · rw [if_pos e, e]; exact World.rangeAt_setCells_same w bl (i * 64) (bv l) hth
    · rw [if_neg e]
      refine World.rangeAt_setCells_apart (h.row j hj).2.1 bl (i * 64) (bv l) (.inr ?_)
      rw [bv_length, bv_length, hl.1, (h.row j hj).1.1]
      omega

/-- the rows on the way: what is left is as it was -/
def midL (L : Nat → List Nat) (C : Nat → Option (List Nat)) (left : Nat → Bool) : Nat → List Nat := fun i => if left i then L i else cur L C i
theorem midL_start (L : Nat → List Nat) (C : Nat → Option (List Nat)) : midL L C (fun i => (C i).isSome) = L := by
  funext i; unfold midL cur
  cases h : C i <;> simp [h]
theorem midL_end (L : Nat → List Nat) (C : Nat → Option (List Nat)) {left : Nat → Bool} (h : ∀ i, left i = false) : midL L C left = cur L C := by
  funext i; unfold midL; rw [h]; rfl
theorem midL_step (L : Nat → List Nat) (C : Nat → Option (List Nat)) (left : Nat → Bool) {i : Nat} {l : List Nat} (hc : C i = some l) : updL (midL L C left) i l = midL L C (fun j => left j && !decide (j = i)) := by
  funext j; unfold updL midL
  by_cases e : j = i
  · subst e; rw [if_pos rfl]; simp [cur, hc]
  · rw [if_neg e]; simp [e]

set_option maxRecDepth 100000 in
set_option maxHeartbeats 1000000 in
theorem sync_yes (p bl bm n : Nat) (L : Nat → List Nat) (C : Nat → Option (List Nat)) (cut : Int) (w : World) (h : DskAt w p bl bm n L C cut false) :
    Calls Try.prog 81 #[.pointer (some ⟨p, 0, none⟩)] w fun e w' => e = .returned (.int .i64 0) ∧ DAft p bl bm n w w' (cur L C) (fun _ => none) cut false := by
  have c1 := h.c1
  have c3 := h.c3
  have HD := Lib.hid h
  have hn2 := h.n2
  obtain ⟨w1, cnt, hrun, HR0, ho1, hs1⟩ := h.map.range
  have HR := Lib.hid HR0
  have HO1 := Lib.hid ho1
  clear h HR0 ho1 hs1
  go_enter Try.func81, Try.ntmps81
  go_wp2_with fail
  clear hrun c1 c3
  go_loopg [] cnt (fun k wr => ∃ left : Nat → Bool, Hid (RangeC wr bm w.heap.size n C left k) ∧ Hid (DskAt wr p bl bm n (midL L C left) C cut false) ∧ Hid (Only (Dbl p bl bm) w wr))
  case atStart => exact ⟨_, HR, Lib.hid (by rw [midL_start]; exact HD.out.only HO1.out (fun f => f) (fun f => f) (fun f => f)), Lib.hid (HO1.out.mono (fun _ _ f => f.elim))⟩
  case round =>
    obtain ⟨left, HRk, HDk, HOk⟩ := hrel
    have hrs : w.heap.size ≠ p ∧ w.heap.size ≠ bl ∧ w.heap.size ≠ bm := by have := HD.out.lt; omega
    rcases HRk.out.next 0 with ⟨hall, hnx⟩ | ⟨i, l, w2, cnt2, hCi, hSl, hin, hleft, hnx, hR2, hlt, ho2, hsz, hen⟩
    · have HD9 : Hid (DskAt wr p bl bm n (dskw.cur L C) C cut false) := Lib.hid (by rw [← midL_end L C hall]; exact HDk.out)
      have c1 := HD9.out.c1
      obtain ⟨w9, hcl, hm9, ho9⟩ := HD9.out.map.clear 0
      have HF := Lib.hid (HD9.out.setMap hm9 ho9)
      have HOF : Hid (Only (Dbl p bl bm) w w9) := Lib.hid (HOk.out.then ho9 (fun _ _ e => .inr (.inr e)))
      clear hm9 ho9
      go_wp2_with fail
      go_ret
      exact ⟨rfl, HF.out, HOF.out⟩
    · have HR2 := Lib.hid hR2
      have HO2 := Lib.hid ho2
      have HSL := Lib.hid hSl
      have hst := store_cells hSl w2
      rw [hsz] at hst
      have hlen : (bv l).length = 64 := by rw [bv_length]; exact hSl.1
      have HM := Lib.hid (midL_step L C left hCi)
      clear hR2 ho2 hSl hCi hleft
      unfold sec at hnx hen
      go_wp2_with fail
      refine wp_region_still_tail 7 (by kernel_rfl) (by kernel_rfl) ?_
      generalize hws3 : World.mk _ _ _ _ _ = w3
      have HW3 : Hid (w3.heap[wr.heap.size]? = some (.cells (bv l).toArray 109 (0, 0)) ∧ Only (fun _ => False) w2 w3) := Lib.hid (by
        subst hws3
        refine ⟨?_, ((Only.refl _ w2).alloc _).drew⟩
        show (w2.alloc _).heap[wr.heap.size]? = _
        rw [heap_alloc, if_pos hsz.symm])
      clear hws3 hst hnx hen
      have HO3 : Hid (Only (fun k => k = w.heap.size) wr w3) := Lib.hid (HO2.out.then HW3.out.2 (fun _ _ f => f.elim))
      have HD3 := Lib.hid (HDk.out.only HO3.out (fun e => hrs.1 e.symm) (fun e => hrs.2.1 e.symm) (fun e => hrs.2.2 e.symm))
      have HR3 := Lib.hid (HR2.out.only HW3.out.2 (fun f => f) (fun f => f))
      have HOw : Hid (Only (Dbl p bl bm) w w3) := Lib.hid (HOk.out.then (HO3.out) (fun k hk e => by have e : k = w.heap.size := e; omega))
      have c0 := HD3.out.c0
      have HROW := Lib.hid (row_of_block HW3.out.1)
      have hti : ((i : Int)).toNat = i := by omega
      simp only [List.take_succ_cons, List.take_zero, List.drop_succ_cons, List.drop_zero]
      still_step
      still_step
      still_step
      still_step
      still_step
      refine still_load_mid rfl 109 (.tmp 4) rfl wr.heap.size 0 rfl (bv l) _ HROW.out Try.underlying109 rfl (by rw [size_info, bv_length, HSL.out.1]) ?_
      still_step
      refine wpStill_nil ?_
      refine wpList_store_mid rfl 109 (.tmp 27) (.tmp 26) rfl bl (i * 64) (bv l).toArray rfl rfl ?t1 ?t2 ?t3 ?t4
      case t1 => rw [sec_size HSL.out]; exact (HD3.out.row i hin).2.2
      case t2 => rw [size_info, sec_size HSL.out]
      case t3 => exact sec_one
      have HD5 : Hid (DskAt (w3.setCells bl (i * 64) (bv l)) p bl bm n (midL L C (fun j => left j && !decide (j = i))) C cut false) := Lib.hid (by
        rw [← HM.out]; exact HD3.out.setRow hin HSL.out)
      have ho5 : Only (fun k => k = bl) w3 (w3.setCells bl (i * 64) (bv l)) := only_cells (S := fun k => k = bl) (b := bl) rfl _ _ _ _ (Only.refl _ w3)
      have HR5 := Lib.hid (HR3.out.only ho5 (fun e => HD.out.ne3 e.symm) (fun e => hrs.2.1 e))
      have HO5 : Hid (Only (Dbl p bl bm) w (w3.setCells bl (i * 64) (bv l))) := Lib.hid (HOw.out.then ho5 (fun _ _ e => .inr (.inl e)))
      have he : (bv l).toArray.toList = bv l := List.toList_toArray
      rw [he]
      clear ho5 c0 hlen
      generalize w3.setCells bl (i * 64) (bv l) = w5 at *
      go_wp2_with fail
      go_roundg cnt2
      case measure => exact hlt
      case rel => exact ⟨_, HR5, HD5, HO5⟩
end Go.Proofs.Ytcbpgplmphgcgaa.dskw
