/- A table of sessions without grants: End; the law's own example. -/
import Derived.Test.YtglcdpggngcdeaaCrC
namespace Go.Proofs.Ytglcdpggngcdeaa.crd
open Go.RowKit mem rowz owi
set_option linter.unusedVariables false

def Ended (S : Nat → Prop) (p : Nat) (places last : Int) (L' : List Se) (w : World) (e : Ending) (w' : World) : Prop := e = .returned (.int .i64 0) ∧ (∃ v', CtAt S w' p places last v' L') ∧ Only S w w'
set_option maxRecDepth 100000 in
set_option maxHeartbeats 4000000 in
theorem cend_any {S : Nat → Prop} (p : Nat) (places last : Int) (v : Value) (L : List Se) (g : Int) (k : Nat) (w : World) (h : CtAt S w p places last v L) (hk : k < L.length) (he : (L.getD k default).i = g) (hn : ∀ j, j < k → (L.getD j default).i ≠ g) : Calls Try.prog 18 #[.pointer (some ⟨p, 0, none⟩), .int .i64 g] w (Ended S p places last (L.take k ++ L.drop (k + 1)) w) := by
  have HF := Lib.hid (cfind_any p places last v L g w h)
  have e1 : sIdx g 0 L = (k : Int) := by have := sIdx_at g L 0 k hk he hn; rwa [Nat.zero_add] at this
  rw [e1] at HF
  have hk0 : ¬ ((k : Int) < 0) := by omega
  rw [if_neg hk0, if_neg hk0] at HF
  have HCT := Lib.hid h
  rcases h.own.form with ⟨_, e⟩ | ⟨q, cap, rfl, hq, hc, hm, _⟩
  · rw [e] at hk; simp at hk
  · have hpq : q ≠ p := fun e => h.np (by simp [Value.ownBlock, e])
    have hlen : (L.take k ++ L.drop (k + 1)).length = k + (L.length - (k + 1)) := by rw [List.length_append, List.length_take, List.length_drop]; omega
    have hlen1 : (L.take k ++ L.drop (k + 1)).length ≤ L.length := by omega
    have HDL : Hid (∀ w', Only (fun _ => False) w w' → Calls Try.prog 51 #[.slice (some ⟨q, 0, none⟩) L.length cap, .int .i64 k, .int .i64 ((k : Int) + 1)] w' fun e w'' => e = .returned (.slice (some ⟨q, 0, none⟩) (L.take k ++ L.drop (k + 1)).length cap) ∧ OwnS w'' (.slice (some ⟨q, 0, none⟩) (L.take k ++ L.drop (k + 1)).length cap) (L.take k ++ L.drop (k + 1)) ∧ Only (fun x => x = q) w' w'') := Lib.hid (fun w' ho => by
      have hd := cdel_any q L.length cap (sv L) k (k + 1) (by omega) (by omega) (sv_one L) w' (h.own.only ho (fun _ _ f => f))
      rw [sv_take, sv_drop, ← sv_append, ← hlen] at hd
      have e : ((k + 1 : Nat) : Int) = (k : Int) + 1 := by omega
      rw [e] at hd
      exact hd)
    have hkl : (k : Int) < 100 := by have := h.len; omega
    have c2 := h.c2
    generalize L.take k ++ L.drop (k + 1) = L' at *
    clear e1 hm hc h hlen
    go_enter Try.func18, Try.ntmps18
    go_wp2_with fail
    refine HF.out.mono ?_
    rintro _ w1 ⟨rfl, k1⟩
    have K1 := Lib.hid k1
    have d2 := k1.cell' c2 (fun f => f)
    clear k1 HF c2
    go_wp2_with fail
    refine (HDL.out _ K1.out).mono ?_
    rintro _ w2 ⟨rfl, hown, k2⟩
    have hnp : ¬ p = q := fun e => hpq e.symm
    have e2 := k2.cell' d2 hnp
    have e0 := k2.cell' (HCT.out.quiet K1.out).c0 hnp
    have e1 := k2.cell' (HCT.out.quiet K1.out).c1 hnp
    have hp1 : p < w1.heap.size := by have := K1.out.size; have := HCT.out.lt; omega
    have f2 : w2.frozen? ⟨p, 2, none⟩ = false := (k2.frozen (p := ⟨p, 2, none⟩) hp1 hnp).trans (HCT.out.quiet K1.out).f2
    have f1 : w2.frozen? ⟨p, 1, none⟩ = false := (k2.frozen (p := ⟨p, 1, none⟩) hp1 hnp).trans (HCT.out.quiet K1.out).f1
    obtain ⟨w3, hw3⟩ : ∃ x, x = w2.setCell ⟨p, 2, none⟩ (.slice (some ⟨q, 0, none⟩) L'.length cap) := ⟨_, rfl⟩
    have HEND : Hid (CtAt S w3 p places last (.slice (some ⟨q, 0, none⟩) L'.length cap) L') := Lib.hid ⟨(by rw [hw3, cell_other (fun e => by injection e with _ e _; omega)]; exact e0), (by rw [hw3, cell_other (fun e => by injection e with _ e _; omega)]; exact e1), (by rw [hw3]; exact cell_same e2), (by rw [hw3]; exact frozen_set.trans f1), (by rw [hw3]; exact frozen_set.trans f2), (by
      rw [hw3]
      exact hown.only (Only.set (fun x => x = p) w2 p 2 _ rfl) (fun x e e4 => by
        have e3 : q = x := by simpa [Value.ownBlock] using e
        have e5 : x = p := e4
        omega)), (fun e => hpq (by simpa [Value.ownBlock] using e)), (by have := HCT.out.len; omega), HCT.out.sp, fun x e => HCT.out.so x (by simpa [Value.ownBlock] using e)⟩
    have HOS : Hid (Only S w w3) := Lib.hid (((K1.out.mono (fun _ _ f => f.elim)).then k2 (fun i _ e => HCT.out.so i (by have e' : i = q := e; rw [e']; rfl))).trans (by rw [hw3]; exact Only.set _ _ p 2 _ HCT.out.sp))
    clear k2 hown d2 HDL e0 e1 f1
    go_wp2_with fail
    rw [← hw3]
    go_ret
    exact ⟨rfl, ⟨_, HEND.out⟩, HOS.out⟩
set_option maxRecDepth 100000 in
set_option maxHeartbeats 4000000 in
theorem credits_any (w : World) : Calls Try.prog 15 #[] w fun e w' => e = .returned (.bool true) ∧ Only (fun _ => False) w w' := by
  have HW : Hid (∀ w', Only (fun q => w.heap.size ≤ q) w w' → Only (fun _ => False) w w') := Lib.hid (fun w' ho => (Only.refl _ w).then ho (fun q hq e => by omega))
  go_enter Try.func15, Try.ntmps15
  go_wp2_with fail
  refine (cnew_any 2 w (by omega) (by omega)).mono ?_
  rintro _ w1 ⟨rfl, hc, ho⟩
  have HC1 := Lib.hid hc
  have hsz := ho.size
  obtain ⟨p, hp⟩ : ∃ x, x = w.heap.size := ⟨_, rfl⟩
  have HO1 : Hid (Only (fun q => p ≤ q) w w1) := Lib.hid (ho.mono (fun _ _ f => f.elim))
  rw [← hp] at HC1 HW hsz ⊢
  clear hc ho hp
  go_wp2_with fail
  refine (cadd_yes p 2 0 _ [] 5 1 _ HC1.out (by omega) (by omega) (by omega) (by omega) (by omega) (by simp) (by simp)).mono ?_
  rintro _ w2 ⟨rfl, ⟨v2, hc⟩, ho⟩
  have HC2 : Hid (CtAt (fun q => p ≤ q) w2 p 2 5 v2 [⟨5, 1⟩]) := Lib.hid (CtAt.mono hc (fun q _ s => s.elim (fun s => s) (fun s => Nat.le_trans hsz s)))
  have HO2 : Hid (Only (fun q => p ≤ q) w w2) := Lib.hid (HO1.out.trans ho)
  clear hc ho
  go_wp2_with fail
  refine (cend_any p 2 5 v2 [⟨5, 1⟩] 5 0 _ HC2.out (by simp) rfl (fun j hj => by omega)).mono ?_
  rintro _ w3 ⟨rfl, ⟨v3, hc⟩, ho⟩
  have HC3 := Lib.hid hc
  have HO3 : Hid (Only (fun q => p ≤ q) w w3) := Lib.hid (HO2.out.trans ho)
  clear hc ho
  go_wp2_with fail
  refine (cadd_stale p 2 5 v3 _ 5 1 _ HC3.out (by omega) (by omega) (by omega) (by omega) (by omega)).mono ?_
  rintro _ w4 ⟨rfl, ho⟩
  have HC4 := Lib.hid (HC3.out.quiet ho)
  have HO4 : Hid (Only (fun q => p ≤ q) w w4) := Lib.hid (HO3.out.trans (ho.mono (fun _ _ f => f.elim)))
  clear ho
  go_wp2_with fail
  refine (clast_any p 2 5 v3 _ _ HC4.out).mono ?_
  rintro _ w5 ⟨rfl, ho⟩
  have HO5 := Lib.hid (HW.out _ (HO4.out.trans (ho.mono (fun _ _ f => f.elim))))
  clear ho
  go_wp2_with fail
  go_ret
  exact ⟨rfl, HO5.out⟩
end Go.Proofs.Ytglcdpggngcdeaa.crd
