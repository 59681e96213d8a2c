/- What codec's Reader.Flag and Reader.Text answer, where the part is there. -/
import Derived.Test.YtpjbgcbjelcnbaaCodParts
namespace Go.Proofs.Ytpjbgcbjelcnbaa.codw
open Go.RowKit mem codm
set_option linter.unusedVariables false

theorem only_set {w w1 : World} (h : Only (fun _ => False) w w1) (p o : Nat) (v : Value) : Only (fun k => k = p) w (w1.setCell ⟨p, o, none⟩ v) :=
  Only.setCell (S := fun k => k = p) (h.mono (fun _ _ f => f.elim)) (p := ⟨p, o, none⟩) (.inl rfl) v

set_option maxRecDepth 100000 in
set_option maxHeartbeats 1000000 in
/-- a flag that is there -/
theorem flag_back (p : Nat) (a : Option Addr) (len cap : Nat) (c : Nat) (r : List Nat) (w : World) (h : RD w p a len cap (c :: r) 0) (hc1 : c ≤ 1) :
    Calls Try.prog 81 #[.pointer (some ⟨p, 0, none⟩)] w fun en w' => en = .returned (.bool ((c : Int) == 1)) ∧ After p a w w' r 0 := by
  have hlen := h.reads.1
  rw [List.length_cons] at hlen
  obtain ⟨b, off, rfl, hcell⟩ := h.reads.2.2.2.resolve_left (by omega)
  have hcl := hcell 0 (by omega)
  rw [Nat.add_zero] at hcl
  simp only [List.getD_cons_zero] at hcl
  have c0 := h.c0
  have f0 := h.f0
  have hlc := h.lc
  have hcm := h.cm
  unfold maxLen at hcm
  have HOFF := Lib.hid h.off
  have HH := Lib.hid h
  have h1 : 0 < len := by omega
  have HLEN := Lib.hid hlen
  clear h hcell hlen
  by_cases hcap : cap = 1
  · subst hcap
    obtain rfl : len = 1 := by omega
    go_enter Try.func81, Try.ntmps81
    go_wp2_with fail
    refine (stopped_any p _ _ _ _ _ _ HH.out).mono ?_
    rintro e1 w1 ⟨rfl, rfl⟩
    go_wp2_with fail
    go_ret
    refine ⟨rfl, some ⟨b, off, none⟩, 0, 0, ?_, Only.set _ _ p 0 _ rfl, Later.refl _⟩
    have hnil : r = [] := List.eq_nil_of_length_eq_zero (by have := HLEN.out; omega)
    rw [hnil]
    exact HH.out.left (Reads.none_left (some ⟨b, off, none⟩)) (Nat.le_refl 0) (by unfold maxLen; omega) HOFF.out
  · have hcl2 : 1 < cap := by omega
    have hcn : (1 : Nat) ≤ len := h1
    go_enter Try.func81, Try.ntmps81
    go_wp2_with fail
    refine (stopped_any p _ _ _ _ _ _ HH.out).mono ?_
    rintro e1 w1 ⟨rfl, rfl⟩
    go_wp2_with fail
    go_ret
    refine ⟨rfl, some ⟨b, off + 1, none⟩, len - 1, cap - 1, ?_, Only.set _ _ p 0 _ rfl, ?_⟩
    · exact HH.out.left (by have := Reads.drop HH.out.reads 1 hcn; simpa using this) (by omega) (by unfold maxLen; omega) (fun x hx => by have := HOFF.out _ rfl; simp at hx; subst hx; exact this)
    · intro x hx; simp at hx; subst hx; exact ⟨_, rfl, rfl⟩

set_option maxRecDepth 100000 in
set_option maxHeartbeats 2000000 in
/-- a text that is there -/
theorem text_back (p : Nat) (a : Option Addr) (len cap : Nat) (t r : List Nat) (w : World) (h : RD w p a len cap (enc t.length ++ t ++ r) 0) (ht : t.length ≤ 300) (hl : len ≤ 1000000) :
    Calls Try.prog 83 #[.pointer (some ⟨p, 0, none⟩), .int .i64 300] w fun en w' => ∃ v', en = .returned v' ∧ OwnB w' v' t ∧ (∀ k, v'.ownBlock = some k → w.heap.size ≤ k) ∧ After p a w w' r 0 := by
  have hlen := h.reads.1
  rw [List.append_assoc, List.length_append, List.length_append] at hlen
  have hel := enc_length t.length
  obtain ⟨b, off, rfl, hcell⟩ := h.reads.2.2.2.resolve_left (by omega)
  have hd : Hid (dcount (enc t.length ++ t ++ r) 300 = (t.length, (enc t.length).length, 0)) := Lib.hid (by
    unfold dcount
    rw [List.append_assoc, dec_enc9 _ (by omega)]
    simp only [if_true]
    rw [if_neg (by omega)])
  have HDR : Hid ((enc t.length ++ t ++ r).drop (enc t.length).length = t ++ r) := Lib.hid (by rw [List.append_assoc]; simp)
  have HDR2 : Hid ((enc t.length ++ t ++ r).drop ((enc t.length).length + t.length) = r) := Lib.hid (by simp)
  obtain ⟨s, hs⟩ : ∃ s, (enc t.length).length = s := ⟨_, rfl⟩
  obtain ⟨n, hn⟩ : ∃ n, t.length = n := ⟨_, rfl⟩
  rw [hs, hn] at hd
  rw [hs] at HDR HDR2
  rw [hn] at HDR HDR2 hlen ht h
  rw [hn] at hs hel
  rw [hs] at hlen hel
  have c0 := h.c0
  have f0 := h.f0
  have hlc := h.lc
  have hcm := h.cm
  unfold maxLen at hcm
  have HOFF := Lib.hid h.off
  have HH := Lib.hid h
  have hle : s + n ≤ len := by omega
  have HN := Lib.hid hn
  have HLEN := Lib.hid hlen
  clear h hcell hlen hs hn
  have hb2 : Bytes w (some ⟨b, off + s, none⟩) n (cap - s) t := by
    have h1 := (Reads.drop HH.out.reads s (by omega)).take n (by omega)
    rw [HDR.out, List.take_append_of_le_length (by rw [HN.out]; omega), List.take_of_length_le (by rw [HN.out]; omega)] at h1
    exact ⟨h1, by omega, by unfold maxLen; omega, fun f => by cases f⟩
  have HB2 := Lib.hid hb2
  clear hb2
  by_cases hcs : cap = s
  · have hn0 : n = 0 := by omega
    subst hn0
    subst hcs
    obtain rfl : len = cap := by omega
    have ht0 : t = [] := List.eq_nil_of_length_eq_zero HN.out
    subst ht0
    replace HB2 : Hid (Bytes w (some ⟨b, off, none⟩) 0 0 []) := Lib.hid ⟨Reads.none_left _, Nat.le_refl _, by unfold maxLen; omega, fun f => by cases f⟩
    clear ht
    go_enter Try.func83, Try.ntmps83
    go_wp2_with fail
    refine (stopped_any p _ _ _ _ _ _ HH.out).mono ?_
    rintro e1 w1 ⟨rfl, rfl⟩
    go_wp2_with fail
    refine (count_any _ _ _ _ _ _ HH.out.reads).mono ?_
    rintro e1 w1 ⟨rfl, rfl⟩
    rw [hd.out]
    go_wp2_with fail
    refine (clone_any _ _ _ _ _ HB2.out (by omega)).mono ?_
    rintro e1 w1 ⟨v1, rfl, hv1, hO1, hk1⟩
    have V1 := Lib.hid hv1
    have H1 := Lib.hid (HH.out.only hO1 (fun f => f) (fun _ _ f => f))
    have c01 := H1.out.c0
    have f01 := H1.out.f0
    have O1 := Lib.hid hO1
    have K1 := Lib.hid hk1
    clear hv1 hO1 hk1 c0 f0
    go_wp2_with fail
    go_ret
    refine ⟨v1, rfl, V1.out.only (Only.set (fun k => k = p) _ p 0 _ rfl) (fun k hk e => ?_), K1.out, ?_⟩
    · have h1 := K1.out k hk
      have h2 : p < w.heap.size := World.block_lt_of_cell? w _ HH.out.c0
      omega
    refine ⟨some ⟨b, off, none⟩, 0, 0, ?_, only_set O1.out p 0 _, Later.refl _⟩
    have hnil : r = [] := List.eq_nil_of_length_eq_zero (by have := HLEN.out; omega)
    rw [hnil]
    exact H1.out.left (Reads.none_left (some ⟨b, off, none⟩)) (Nat.le_refl 0) (by unfold maxLen; omega) HOFF.out
  · have hsc : s < cap := by omega
    by_cases hcn : cap = s + n
    · subst hcn
      obtain rfl : len = s + n := by omega
      rw [Nat.add_sub_cancel_left] at HB2
      go_enter Try.func83, Try.ntmps83
      go_wp2_with fail
      refine (stopped_any p _ _ _ _ _ _ HH.out).mono ?_
      rintro e1 w1 ⟨rfl, rfl⟩
      go_wp2_with fail
      refine (count_any _ _ _ _ _ _ HH.out.reads).mono ?_
      rintro e1 w1 ⟨rfl, rfl⟩
      rw [hd.out]
      go_wp2_with fail
      refine (clone_any _ _ _ _ _ HB2.out (by omega)).mono ?_
      rintro e1 w1 ⟨v1, rfl, hv1, hO1, hk1⟩
      have V1 := Lib.hid hv1
      have H1 := Lib.hid (HH.out.only hO1 (fun f => f) (fun _ _ f => f))
      have c01 := H1.out.c0
      have f01 := H1.out.f0
      have O1 := Lib.hid hO1
      have K1 := Lib.hid hk1
      clear hv1 hO1 hk1 c0 f0
      go_wp2_with fail
      go_ret
      refine ⟨v1, rfl, V1.out.only (Only.set (fun k => k = p) _ p 0 _ rfl) (fun k hk e => ?_), K1.out, ?_⟩
      · have h1 := K1.out k hk
        have h2 : p < w.heap.size := World.block_lt_of_cell? w _ HH.out.c0
        omega
      refine ⟨some ⟨b, off, none⟩, 0, 0, ?_, only_set O1.out p 0 _, Later.refl _⟩
      have hnil : r = [] := List.eq_nil_of_length_eq_zero (by have := HLEN.out; omega)
      rw [hnil]
      exact H1.out.left (Reads.none_left (some ⟨b, off, none⟩)) (Nat.le_refl 0) (by unfold maxLen; omega) HOFF.out
    · have hcn2 : s + n < cap := by omega
      go_enter Try.func83, Try.ntmps83
      go_wp2_with fail
      refine (stopped_any p _ _ _ _ _ _ HH.out).mono ?_
      rintro e1 w1 ⟨rfl, rfl⟩
      go_wp2_with fail
      refine (count_any _ _ _ _ _ _ HH.out.reads).mono ?_
      rintro e1 w1 ⟨rfl, rfl⟩
      rw [hd.out]
      go_wp2_with fail
      refine (clone_any _ _ _ _ _ HB2.out (by omega)).mono ?_
      rintro e1 w1 ⟨v1, rfl, hv1, hO1, hk1⟩
      have V1 := Lib.hid hv1
      have H1 := Lib.hid (HH.out.only hO1 (fun f => f) (fun _ _ f => f))
      have c01 := H1.out.c0
      have f01 := H1.out.f0
      have O1 := Lib.hid hO1
      have K1 := Lib.hid hk1
      clear hv1 hO1 hk1 c0 f0
      go_wp2_with fail
      go_ret
      refine ⟨v1, rfl, V1.out.only (Only.set (fun k => k = p) _ p 0 _ rfl) (fun k hk e => ?_), K1.out, ?_⟩
      · have h1 := K1.out k hk
        have h2 : p < w.heap.size := World.block_lt_of_cell? w _ HH.out.c0
        omega
      refine ⟨some ⟨b, off + (s + n), none⟩, len - (s + n), cap - (s + n), ?_, only_set O1.out p 0 _, ?_⟩
      · exact H1.out.left (by have := Reads.drop H1.out.reads (s + n) hle; rw [HDR2.out] at this; exact this) (by omega) (by unfold maxLen; omega) (fun x hx => by have := HOFF.out _ rfl; simp at hx; subst hx; exact this)
      · intro x hx; simp at hx; subst hx; exact ⟨_, rfl, rfl⟩
end Go.Proofs.Ytpjbgcbjelcnbaa.codw
