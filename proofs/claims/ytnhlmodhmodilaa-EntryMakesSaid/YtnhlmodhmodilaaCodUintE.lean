/- What codec's count, Reader.Uint, Reader.Flag, Left, End and Read answer. -/
import Derived.Test.YtnhlmodhmodilaaCodInt
namespace Go.Proofs.Ytnhlmodhmodilaa.codw
open Go.RowKit mem codm
set_option linter.unusedVariables false

/-- what count answers -/
def dcount (l : List Nat) (most : Int) : Nat × Nat × Nat :=
  if (dec 9 l 0 0).2.2 = 0 then (if most < ((dec 9 l 0 0).1 : Int) then (0, 0, 5) else dec 9 l 0 0) else (0, 0, (dec 9 l 0 0).2.2)

set_option maxRecDepth 100000 in
set_option maxHeartbeats 1000000 in
theorem count_any (a : Option Addr) (len cap : Nat) (l : List Nat) (most : Int) (w : World) (h : Reads w a len l) :
    Calls Try.prog 37 #[.slice a len cap, .int .i64 most] w fun e w' =>
      e = .returned (.tuple #[.int .i64 ((dcount l most).1 : Int), .int .i64 ((dcount l most).2.1 : Int), .int .i64 ((dcount l most).2.2 : Int)]) ∧ w = w' := by
  obtain ⟨n, s, er, hd⟩ : ∃ n s er, dec 9 l 0 0 = (n, s, er) := ⟨_, _, _, rfl⟩
  have HD := Lib.hid hd
  have HH := Lib.hid h
  by_cases her : er = 0
  · subst her
    obtain ⟨_, hsl, _, hn9, hs9⟩ := enc_dec (by omega : (9 : Nat) ≤ 10) h.2.2.1 hd
    have hn63 : n < 9223372036854775808 := by
      have h1 := hn9 (by omega)
      have h2 : 128 ^ s ≤ 128 ^ 9 := Nat.pow_le_pow_right (by omega) (by omega)
      omega
    have hlen := h.2.1
    have hll := h.1
    have hs : s ≤ 9 := by omega
    clear hn9 h hlen hsl hll
    by_cases hm : most < (n : Int)
    · have hR : Hid (dcount l most = (0, 0, 5)) := Lib.hid (by unfold dcount; rw [hd]; simp [hm])
      clear hd
      go_enter Try.func37, Try.ntmps37
      go_wp2_with fail
      refine (groups_9 _ _ _ _ _ HH.out).mono ?_
      rintro e1 w1 ⟨rfl, rfl⟩
      rw [HD.out]
      go_wp2_with fail
      go_ret3
      rw [hR.out]
      exact ⟨rfl, rfl⟩
    · have hR : Hid (dcount l most = (n, s, 0)) := Lib.hid (by unfold dcount; rw [hd]; simp [hm])
      clear hd
      go_enter Try.func37, Try.ntmps37
      go_wp2_with fail
      refine (groups_9 _ _ _ _ _ HH.out).mono ?_
      rintro e1 w1 ⟨rfl, rfl⟩
      rw [HD.out]
      go_wp2_with fail
      go_ret3
      rw [hR.out]
      exact ⟨rfl, rfl⟩
  · have hR : Hid (dcount l most = (0, 0, er)) := Lib.hid (by unfold dcount; rw [hd]; simp [her])
    have hne : ((er : Int) != 0) = true := by rw [bne_iff_ne]; omega
    clear h hd her
    go_enter Try.func37, Try.ntmps37
    go_wp2_with fail
    refine (groups_9 _ _ _ _ _ HH.out).mono ?_
    rintro e1 w1 ⟨rfl, rfl⟩
    rw [HD.out]
    go_wp2_with fail
    go_ret3
    rw [hR.out]
    exact ⟨rfl, rfl⟩

theorem dcount_ok {l : List Nat} {most : Int} {n s : Nat} (hl : ∀ c ∈ l, c < 256) (h : dcount l most = (n, s, 0)) : dec 9 l 0 0 = (n, s, 0) ∧ (n : Int) ≤ most ∧ 1 ≤ s ∧ s ≤ l.length ∧ n < 9223372036854775808 ∧ s ≤ 9 ∧ enc n = l.take s := by
  unfold dcount at h
  by_cases h0 : (dec 9 l 0 0).2.2 = 0
  · rw [if_pos h0] at h
    by_cases h1 : most < ((dec 9 l 0 0).1 : Int)
    · rw [if_pos h1] at h; simp at h
    · rw [if_neg h1] at h
      obtain ⟨henc, hsl, _, hn9, hs9⟩ := enc_dec (by omega : (9 : Nat) ≤ 10) hl h
      rw [h] at h1
      refine ⟨h, by simp at h1; omega, ?_, hsl, ?_, hs9, henc⟩
      · rcases Nat.lt_or_ge 0 s with h2 | h2
        · exact h2
        · obtain rfl : s = 0 := by omega
          have := (enc_length n).2
          rw [henc] at this; simp at this
      · have h1 := hn9 (by omega)
        have h2 : 128 ^ s ≤ 128 ^ 9 := Nat.pow_le_pow_right (by omega) (by omega)
        omega
  · rw [if_neg h0] at h; simp at h; exact absurd h.2.2 h0

theorem dcount_err {l : List Nat} {most : Int} (h : (dcount l most).2.2 ≠ 0) : (dcount l most).1 = 0 ∧ (dcount l most).2.1 = 0 := by
  unfold dcount at h ⊢
  by_cases h0 : (dec 9 l 0 0).2.2 = 0
  · rw [if_pos h0] at h ⊢
    by_cases h1 : most < ((dec 9 l 0 0).1 : Int)
    · rw [if_pos h1]; exact ⟨rfl, rfl⟩
    · rw [if_neg h1] at h; exact absurd h0 h
  · rw [if_neg h0]; exact ⟨rfl, rfl⟩

/-- what Uint answers, what is left, the error -/
def runt (l : List Nat) (most : Int) (e : Nat) : Nat × List Nat × Nat :=
  if e = 0 then (if (dcount l most).2.2 = 0 then ((dcount l most).1, l.drop (dcount l most).2.1, 0) else (0, l, (dcount l most).2.2)) else (0, l, e)

set_option maxRecDepth 100000 in
set_option maxHeartbeats 1000000 in
theorem uint_any (p : Nat) (a : Option Addr) (len cap : Nat) (l : List Nat) (e : Nat) (most : Int) (w : World) (h : RD w p a len cap l e) :
    Calls Try.prog 22 #[.pointer (some ⟨p, 0, none⟩), .int .i64 most] w fun en w' => en = .returned (.int .i64 ((runt l most e).1 : Int)) ∧ After p a w w' (runt l most e).2.1 (runt l most e).2.2 := by
  by_cases he : e = 0
  · subst he
    obtain ⟨n, s, er, hd⟩ : ∃ n s er, dcount l most = (n, s, er) := ⟨_, _, _, rfl⟩
    have HD := Lib.hid hd
    by_cases her : er = 0
    · subst her
      have hR : Hid (runt l most 0 = (n, l.drop s, 0)) := Lib.hid (by unfold runt; rw [if_pos rfl, hd, if_pos rfl])
      obtain ⟨_, _, hs1, hsl, hn63, _, _⟩ := dcount_ok h.reads.2.2.1 hd
      have hlen := h.reads.1
      obtain ⟨b, off, rfl, _⟩ := h.reads.2.2.2.resolve_left (by omega)
      have hsl2 : s ≤ len := by omega
      have hlc := h.lc
      have hcm := h.cm
      unfold maxLen at hcm
      have c0 := h.c0
      have f0 := h.f0
      have HH := Lib.hid h
      clear h hd hlen hsl
      have HOFF := Lib.hid HH.out.off
      by_cases hcap : cap = s
      · subst hcap
        obtain rfl : len = cap := by omega
        go_enter Try.func22, Try.ntmps22
        go_wp2_with fail
        refine (stopped_any p _ _ _ _ _ _ HH.out).mono ?_
        rintro e1 w1 ⟨rfl, rfl⟩
        go_wp2_with fail
        refine (count_any _ _ _ _ _ _ HH.out.reads).mono ?_
        rintro e1 w1 ⟨rfl, rfl⟩
        rw [HD.out]
        go_wp2_with fail
        go_ret
        rw [hR.out]
        refine ⟨rfl, some ⟨b, off, none⟩, 0, 0, ?_, Only.set _ _ p 0 _ rfl, Later.refl _⟩
        have hnil : l.drop len = [] := List.drop_eq_nil_of_le (by rw [HH.out.reads.1]; omega)
        have hleft := HH.out.left (Reads.none_left (some ⟨b, off, none⟩)) (Nat.le_refl 0) (by unfold maxLen; omega) HOFF.out
        rw [hnil]
        exact hleft
      · have hcl : s < cap := by omega
        go_enter Try.func22, Try.ntmps22
        go_wp2_with fail
        refine (stopped_any p _ _ _ _ _ _ HH.out).mono ?_
        rintro e1 w1 ⟨rfl, rfl⟩
        go_wp2_with fail
        refine (count_any _ _ _ _ _ _ HH.out.reads).mono ?_
        rintro e1 w1 ⟨rfl, rfl⟩
        rw [HD.out]
        go_wp2_with fail
        go_ret
        rw [hR.out]
        refine ⟨rfl, some ⟨b, off + s, none⟩, len - s, cap - s, ?_, Only.set _ _ p 0 _ rfl, ?_⟩
        · exact HH.out.left (Reads.drop HH.out.reads s hsl2) (by omega) (by unfold maxLen; omega) (fun x hx => by have := HOFF.out _ rfl; simp at hx; subst hx; exact this)
        · intro x hx; simp at hx; subst hx; exact ⟨_, rfl, rfl⟩
    · have hz0 : n = 0 ∧ s = 0 := by
        have := dcount_err (l := l) (most := most) (by rw [hd]; exact her)
        rw [hd] at this; exact this
      obtain ⟨rfl, rfl⟩ := hz0
      have hR : Hid (runt l most 0 = (0, l, er)) := Lib.hid (by unfold runt; rw [if_pos rfl, hd, if_neg her])
      have hne : ((er : Int) != 0) = true := by rw [bne_iff_ne]; omega
      have c0 := h.c0
      have c1 := h.c1
      have f1 := h.f1
      have HH := Lib.hid h
      clear h hd her
      go_enter Try.func22, Try.ntmps22
      go_wp2_with fail
      refine (stopped_any p _ _ _ _ _ _ HH.out).mono ?_
      rintro e1 w1 ⟨rfl, rfl⟩
      go_wp2_with fail
      refine (count_any _ _ _ _ _ _ HH.out.reads).mono ?_
      rintro e1 w1 ⟨rfl, rfl⟩
      rw [HD.out]
      go_wp2_with fail
      go_ret
      rw [hR.out]
      exact ⟨rfl, a, len, cap, HH.out.err er, Only.set _ _ p 1 _ rfl, Later.refl _⟩
  · have hne : ((e : Int) != 0) = true := by rw [bne_iff_ne]; omega
    have hR : Hid (runt l most e = (0, l, e)) := Lib.hid (by unfold runt; rw [if_neg he])
    have HH := Lib.hid h
    clear h he
    go_enter Try.func22, Try.ntmps22
    go_wp2_with fail
    refine (stopped_any p _ _ _ _ _ _ HH.out).mono ?_
    rintro e1 w1 ⟨rfl, rfl⟩
    go_wp2_with fail
    go_ret
    rw [hR.out]
    exact ⟨rfl, a, len, cap, HH.out, Only.refl _ _, Later.refl _⟩

/-- what End answers -/
def rend (l : List Nat) (e : Nat) : Nat := if e = 0 then (if l = [] then 0 else 4) else e

theorem end_any (p : Nat) (a : Option Addr) (len cap : Nat) (l : List Nat) (e : Nat) (w : World) (h : RD w p a len cap l e) :
    Calls Try.prog 24 #[.pointer (some ⟨p, 0, none⟩)] w fun en w' => en = .returned (.int .i64 (rend l e : Int)) ∧ w = w' := by
  have c0 := h.c0
  have c1 := h.c1
  have hl := h.reads.1
  clear h
  by_cases he : e = 0
  · subst he
    have he0 : (((0 : Nat) : Int) == 0) = true := rfl
    by_cases h0 : len = 0
    · have hR : Hid (rend l 0 = 0) := Lib.hid (by unfold rend; rw [if_pos rfl, if_pos (List.eq_nil_of_length_eq_zero (by omega))])
      subst h0
      clear hl
      go_enter Try.func24, Try.ntmps24
      go_wp2
      go_ret
      rw [hR.out]
      exact ⟨rfl, rfl⟩
    · have hR : Hid (rend l 0 = 4) := Lib.hid (by unfold rend; rw [if_pos rfl, if_neg (fun h => by subst h; simp at hl; omega)])
      have hd : 0 < len := by omega
      clear hl
      go_enter Try.func24, Try.ntmps24
      go_wp2
      go_ret
      rw [hR.out]
      exact ⟨rfl, rfl⟩
  · have hne : ((e : Int) == 0) = false := by rw [beq_eq_false_iff_ne]; omega
    have hR : Hid (rend l e = e) := Lib.hid (by unfold rend; rw [if_neg he])
    clear hl he
    go_enter Try.func24, Try.ntmps24
    go_wp2
    go_ret
    rw [hR.out]
    exact ⟨rfl, rfl⟩
end Go.Proofs.Ytnhlmodhmodilaa.codw
