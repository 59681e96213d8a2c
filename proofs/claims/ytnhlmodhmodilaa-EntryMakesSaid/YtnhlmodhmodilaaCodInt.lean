/- What codec's Reader.Int, count and Reader.Uint answer. -/
import Derived.Test.YtnhlmodhmodilaaCodRead
namespace Go.Proofs.Ytnhlmodhmodilaa.codw
open Go.RowKit mem codm
set_option linter.unusedVariables false

/-- the same row of bytes, or a later part of it: in the same block -/
def Later (a a' : Option Addr) : Prop := ∀ x, a' = some x → ∃ y, a = some y ∧ y.block = x.block

theorem Later.refl (a : Option Addr) : Later a a := fun x h => ⟨x, h, rfl⟩

theorem groups_10 (a : Option Addr) (len cap : Nat) (l : List Nat) (w : World) (h : Reads w a len l) :
    Calls Try.prog 38 #[.slice a len cap, .int .i64 10] w fun e w' =>
      e = .returned (.tuple #[.int .u64 ((dec 10 l 0 0).1 : Int), .int .i64 ((dec 10 l 0 0).2.1 : Int), .int .i64 ((dec 10 l 0 0).2.2 : Int)]) ∧ w = w' :=
  groups_any 10 (by omega) a len cap l w h
theorem groups_9 (a : Option Addr) (len cap : Nat) (l : List Nat) (w : World) (h : Reads w a len l) :
    Calls Try.prog 38 #[.slice a len cap, .int .i64 9] w fun e w' =>
      e = .returned (.tuple #[.int .u64 ((dec 9 l 0 0).1 : Int), .int .i64 ((dec 9 l 0 0).2.1 : Int), .int .i64 ((dec 9 l 0 0).2.2 : Int)]) ∧ w = w' :=
  groups_any 9 (by omega) a len cap l w h

/-- what Int answers, what is left, the error -/
def rint (l : List Nat) (e : Nat) : Int × List Nat × Nat :=
  if e = 0 then (if (dec 10 l 0 0).2.2 = 0 then (zag (dec 10 l 0 0).1, l.drop (dec 10 l 0 0).2.1, 0) else (0, l, (dec 10 l 0 0).2.2)) else (0, l, e)

/-- behind a reader's call -/
def After (p : Nat) (a : Option Addr) (w w' : World) (l : List Nat) (e : Nat) : Prop :=
  ∃ a' len' cap', RD w' p a' len' cap' l e ∧ Only (fun k => k = p) w w' ∧ Later a a'

set_option maxRecDepth 100000 in
set_option maxHeartbeats 1000000 in
theorem int_any (p : Nat) (a : Option Addr) (len cap : Nat) (l : List Nat) (e : Nat) (w : World) (h : RD w p a len cap l e) :
    Calls Try.prog 23 #[.pointer (some ⟨p, 0, none⟩)] w fun en w' => en = .returned (.int .i64 (rint l e).1) ∧ After p a w w' (rint l e).2.1 (rint l e).2.2 := by
  by_cases he : e = 0
  · subst he
    obtain ⟨n, s, er, hd⟩ : ∃ n s er, dec 10 l 0 0 = (n, s, er) := ⟨_, _, _, rfl⟩
    have HD := Lib.hid hd
    by_cases her : er = 0
    · subst her
      have hR : Hid (rint l 0 = (zag n, l.drop s, 0)) := Lib.hid (by unfold rint; rw [if_pos rfl, hd, if_pos rfl])
      obtain ⟨henc, hsl, hn64, _, _⟩ := enc_dec (by omega : (10 : Nat) ≤ 10) h.reads.2.2.1 hd
      have hs1 : 1 ≤ s := by
        rcases Nat.lt_or_ge 0 s with h0 | h0
        · exact h0
        · obtain rfl : s = 0 := by omega
          have := (enc_length n).2
          rw [henc] at this; simp at this
      have hlen := h.reads.1
      obtain ⟨b, off, rfl, _⟩ := h.reads.2.2.2.resolve_left (by omega)
      have hsl2 : s ≤ len := by omega
      have hlc := h.lc
      have hcm := h.cm
      unfold maxLen at hcm
      have c0 := h.c0
      have f0 := h.f0
      have HH := Lib.hid h
      clear h hd henc hlen hsl
      have hoff := HH.out.off
      have HOFF := Lib.hid hoff
      clear hoff
      rcases Nat.mod_two_eq_zero_or_one n with ho | ho
      all_goals
        first
          | (have hodd : ((n : Int) % 2 == 1) = true := beq_iff_eq.2 (by omega); have hz : Hid (zag n = -((n : Int) / 2) - 1) := Lib.hid (by unfold zag; rw [if_pos ho]; rfl))
          | (have hodd : ((n : Int) % 2 == 1) = false := beq_eq_false_iff_ne.2 (by omega); have hz : Hid (zag n = (n : Int) / 2) := Lib.hid (by unfold zag; rw [if_neg (by omega)]; rfl))
        clear ho
        by_cases hcap : cap = s
        · subst hcap
          obtain rfl : len = cap := by omega
          go_enter Try.func23, Try.ntmps23
          go_wp2_with fail
          refine (stopped_any p _ _ _ _ _ _ HH.out).mono ?_
          rintro e1 w1 ⟨rfl, rfl⟩
          go_wp2_with fail
          refine (groups_10 _ _ _ _ _ HH.out.reads).mono ?_
          rintro e1 w1 ⟨rfl, rfl⟩
          rw [HD.out]
          go_wp2_with fail
          go_ret
          rw [hR.out]
          refine ⟨by rw [hz.out]; rfl, some ⟨b, off, none⟩, 0, 0, ?_, Only.set _ _ p 0 _ rfl, Later.refl _⟩
          have hnil : l.drop len = [] := List.drop_eq_nil_of_le (by rw [HH.out.reads.1]; omega)
          have hleft := HH.out.left (Reads.none_left (some ⟨b, off, none⟩)) (Nat.le_refl 0) (by unfold maxLen; omega) HOFF.out
          rw [hnil]
          exact hleft
        · have hcl : s < cap := by omega
          go_enter Try.func23, Try.ntmps23
          go_wp2_with fail
          refine (stopped_any p _ _ _ _ _ _ HH.out).mono ?_
          rintro e1 w1 ⟨rfl, rfl⟩
          go_wp2_with fail
          refine (groups_10 _ _ _ _ _ HH.out.reads).mono ?_
          rintro e1 w1 ⟨rfl, rfl⟩
          rw [HD.out]
          go_wp2_with fail
          go_ret
          rw [hR.out]
          refine ⟨by rw [hz.out]; rfl, some ⟨b, off + s, none⟩, len - s, cap - s, ?_, Only.set _ _ p 0 _ rfl, ?_⟩
          · exact HH.out.left (Reads.drop HH.out.reads s hsl2) (by omega) (by unfold maxLen; omega) (fun x hx => by have := HOFF.out _ rfl; simp at hx; subst hx; exact this)
          · intro x hx; simp at hx; subst hx; exact ⟨_, rfl, rfl⟩
    · have hz0 : n = 0 ∧ s = 0 := by
        rcases dec_errs 10 l 0 0 with h0 | ⟨h1, h2, _⟩
        · rw [hd] at h0; exact absurd h0 her
        · rw [hd] at h1 h2; exact ⟨h1, h2⟩
      obtain ⟨rfl, rfl⟩ := hz0
      have hR : Hid (rint l 0 = (0, l, er)) := Lib.hid (by unfold rint; rw [if_pos rfl, hd, if_neg her])
      have hne : ((er : Int) != 0) = true := by rw [bne_iff_ne]; omega
      have c0 := h.c0
      have c1 := h.c1
      have f1 := h.f1
      have HH := Lib.hid h
      clear h hd her
      go_enter Try.func23, Try.ntmps23
      go_wp2_with fail
      refine (stopped_any p _ _ _ _ _ _ HH.out).mono ?_
      rintro e1 w1 ⟨rfl, rfl⟩
      go_wp2_with fail
      refine (groups_10 _ _ _ _ _ HH.out.reads).mono ?_
      rintro e1 w1 ⟨rfl, rfl⟩
      rw [HD.out]
      go_wp2_with fail
      go_ret
      rw [hR.out]
      exact ⟨rfl, a, len, cap, HH.out.err er, Only.set _ _ p 1 _ rfl, Later.refl _⟩
  · have hne : ((e : Int) != 0) = true := by rw [bne_iff_ne]; omega
    have hR : Hid (rint l e = (0, l, e)) := Lib.hid (by unfold rint; rw [if_neg he])
    have HH := Lib.hid h
    clear h he
    go_enter Try.func23, Try.ntmps23
    go_wp2_with fail
    refine (stopped_any p _ _ _ _ _ _ HH.out).mono ?_
    rintro e1 w1 ⟨rfl, rfl⟩
    go_wp2_with fail
    go_ret
    rw [hR.out]
    exact ⟨rfl, a, len, cap, HH.out, Only.refl _ _, Later.refl _⟩
end Go.Proofs.Ytnhlmodhmodilaa.codw
