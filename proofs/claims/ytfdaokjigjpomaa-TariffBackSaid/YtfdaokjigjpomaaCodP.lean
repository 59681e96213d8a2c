/- The parts of bytes as plain mathematics: what each reader's call takes, where there was no error; that what is taken is what is written. -/
import Derived.Test.YtfdaokjigjpomaaCodMath
namespace Go.Proofs.Ytfdaokjigjpomaa.codp
open codm
set_option linter.unusedVariables false

/-- one part, and what is left; none: an error -/
def pUint (most : Int) (l : List Nat) : Option (Nat × List Nat) := if (dec 9 l 0 0).2.2 = 0 ∧ ((dec 9 l 0 0).1 : Int) ≤ most then some ((dec 9 l 0 0).1, l.drop (dec 9 l 0 0).2.1) else none
def pInt (l : List Nat) : Option (Int × List Nat) := if (dec 10 l 0 0).2.2 = 0 then some (zag (dec 10 l 0 0).1, l.drop (dec 10 l 0 0).2.1) else none
def pFlag : List Nat → Option (Bool × List Nat)
  | [] => none
  | c :: r => if c = 0 then some (false, r) else if c = 1 then some (true, r) else none
def pText (most : Int) (l : List Nat) : Option (List Nat × List Nat) := match pUint most l with
  | none => none
  | some (n, r) => if n ≤ r.length then some (r.take n, r.drop n) else none
/-- the same on a state: none, where there was an error -/
def uS (most : Int) (s : Option (List Nat)) : Nat × Option (List Nat) := match s with
  | none => (0, none)
  | some l => match pUint most l with
    | none => (0, none)
    | some (n, r) => (n, some r)
def iS (s : Option (List Nat)) : Int × Option (List Nat) := match s with
  | none => (0, none)
  | some l => match pInt l with
    | none => (0, none)
    | some (n, r) => (n, some r)
def fS (s : Option (List Nat)) : Bool × Option (List Nat) := match s with
  | none => (false, none)
  | some l => match pFlag l with
    | none => (false, none)
    | some (n, r) => (n, some r)
def tS (most : Int) (s : Option (List Nat)) : List Nat × Option (List Nat) := match s with
  | none => ([], none)
  | some l => match pText most l with
    | none => ([], none)
    | some (n, r) => (n, some r)
theorem uS_none (most : Int) : uS most none = (0, none) := rfl
theorem iS_none : iS none = (0, none) := rfl
theorem fS_none : fS none = (false, none) := rfl
theorem tS_none (most : Int) : tS most none = ([], none) := rfl
/-- bytes that are bytes, and not too many -/
def By (l : List Nat) : Prop := (∀ c ∈ l, c < 256) ∧ l.length ≤ 100000000
theorem By.drop {l : List Nat} (h : By l) (k : Nat) : By (l.drop k) := ⟨fun c hc => h.1 c (List.mem_of_mem_drop hc), by rw [List.length_drop]; have := h.2; omega⟩
theorem By.take {l : List Nat} (h : By l) (k : Nat) : By (l.take k) := ⟨fun c hc => h.1 c (List.mem_of_mem_take hc), by rw [List.length_take]; have := h.2; omega⟩
theorem pUint_is {most : Int} {l : List Nat} {n : Nat} {r : List Nat} (hl : ∀ c ∈ l, c < 256) (h : pUint most l = some (n, r)) : l = enc n ++ r ∧ (n : Int) ≤ most ∧ n < 9223372036854775808 ∧ ∃ s, r = l.drop s ∧ s ≤ l.length := by
  unfold pUint at h
  obtain ⟨m, s, er, hd⟩ : ∃ m s er, dec 9 l 0 0 = (m, s, er) := ⟨_, _, _, rfl⟩
  rw [hd] at h
  dsimp only at h
  split at h
  · rename_i hc
    obtain ⟨rfl, hm⟩ := hc
    injection h with h
    injection h with h1 h2
    subst h1 h2
    obtain ⟨he, hs, h64, h9, hsM⟩ := enc_dec (by omega : 9 ≤ 10) hl hd
    refine ⟨by rw [he, List.take_append_drop], hm, ?_, s, rfl, hs⟩
    have h1 := h9 (by omega)
    have h2 : 128 ^ s ≤ 128 ^ 9 := Nat.pow_le_pow_right (by omega) (by omega)
    omega
  · cases h
theorem pUint_enc {most : Int} {n : Nat} (hn : (n : Int) ≤ most) (h : n < 9223372036854775808) (r : List Nat) : pUint most (enc n ++ r) = some (n, r) := by
  unfold pUint
  rw [dec_enc9 n h]
  dsimp only
  rw [if_pos ⟨rfl, hn⟩]
  simp
theorem pInt_is {l : List Nat} {n : Int} {r : List Nat} (hl : ∀ c ∈ l, c < 256) (h : pInt l = some (n, r)) : l = enc (zig n) ++ r ∧ (-9223372036854775808 ≤ n ∧ n ≤ 9223372036854775807) ∧ ∃ s, r = l.drop s ∧ s ≤ l.length := by
  unfold pInt at h
  obtain ⟨m, s, er, hd⟩ : ∃ m s er, dec 10 l 0 0 = (m, s, er) := ⟨_, _, _, rfl⟩
  rw [hd] at h
  dsimp only at h
  split at h
  · rename_i hc
    subst hc
    injection h with h
    injection h with h1 h2
    subst h1 h2
    obtain ⟨he, hs, h64, h9, hsM⟩ := enc_dec (by omega : 10 ≤ 10) hl hd
    exact ⟨by rw [zig_zag, he, List.take_append_drop], zag_in h64, s, rfl, hs⟩
  · cases h
theorem pInt_enc {n : Int} (h : -9223372036854775808 ≤ n ∧ n ≤ 9223372036854775807) (r : List Nat) : pInt (enc (zig n) ++ r) = some (n, r) := by
  unfold pInt
  rw [dec_enc10 _ (zig_lt h)]
  dsimp only
  rw [if_pos rfl, zag_zig]
  simp
def flagB (b : Bool) : List Nat := [if b then 1 else 0]
theorem pFlag_is {l : List Nat} {b : Bool} {r : List Nat} (h : pFlag l = some (b, r)) : l = flagB b ++ r ∧ ∃ s, r = l.drop s ∧ s ≤ l.length := by
  cases l with
  | nil => cases h
  | cons c t =>
    unfold pFlag at h
    dsimp only at h
    by_cases h0 : c = 0
    · rw [if_pos h0] at h
      injection h with h
      injection h with h1 h2
      subst h0 h1 h2
      exact ⟨rfl, 1, rfl, by simp⟩
    · rw [if_neg h0] at h
      by_cases h1 : c = 1
      · rw [if_pos h1] at h
        injection h with h
        injection h with h2 h3
        subst h1 h2 h3
        exact ⟨rfl, 1, rfl, by simp⟩
      · rw [if_neg h1] at h; cases h
theorem pFlag_enc (b : Bool) (r : List Nat) : pFlag (flagB b ++ r) = some (b, r) := by cases b <;> rfl
def textB (t : List Nat) : List Nat := enc t.length ++ t
theorem pText_is {most : Int} {l t r : List Nat} (hl : ∀ c ∈ l, c < 256) (h : pText most l = some (t, r)) : l = textB t ++ r ∧ (t.length : Int) ≤ most ∧ ∃ s, r = l.drop s ∧ s ≤ l.length := by
  unfold pText at h
  cases hu : pUint most l with
  | none => rw [hu] at h; cases h
  | some x =>
    obtain ⟨n, q⟩ := x
    rw [hu] at h
    dsimp only at h
    obtain ⟨h1, h2, h3, s, h4, h5⟩ := pUint_is hl hu
    split at h
    · rename_i hn
      injection h with h
      injection h with e1 e2
      subst e1 e2
      have hln : (q.take n).length = n := by rw [List.length_take]; omega
      refine ⟨?_, by rw [hln]; exact h2, s + n, by rw [h4, List.drop_drop], ?_⟩
      · unfold textB
        rw [hln, List.append_assoc, List.take_append_drop]
        exact h1
      · rw [h4, List.length_drop] at hn; omega
    · cases h
theorem pText_enc {most : Int} {t : List Nat} (hn : (t.length : Int) ≤ most) (h : t.length < 9223372036854775808) (r : List Nat) : pText most (textB t ++ r) = some (t, r) := by
  unfold pText textB
  rw [List.append_assoc, pUint_enc hn h]
  dsimp only
  rw [if_pos (by rw [List.length_append]; omega)]
  simp
theorem uS_enc {most : Int} {n : Nat} (hn : (n : Int) ≤ most) (h : n < 9223372036854775808) (r : List Nat) : uS most (some (enc n ++ r)) = (n, some r) := by unfold uS; dsimp only; rw [pUint_enc hn h]
theorem iS_enc {n : Int} (h : -9223372036854775808 ≤ n ∧ n ≤ 9223372036854775807) (r : List Nat) : iS (some (enc (zig n) ++ r)) = (n, some r) := by unfold iS; dsimp only; rw [pInt_enc h]
theorem fS_enc (b : Bool) (r : List Nat) : fS (some (flagB b ++ r)) = (b, some r) := by unfold fS; dsimp only; rw [pFlag_enc]
theorem tS_enc {most : Int} {t : List Nat} (hn : (t.length : Int) ≤ most) (h : t.length < 9223372036854775808) (r : List Nat) : tS most (some (textB t ++ r)) = (t, some r) := by unfold tS; dsimp only; rw [pText_enc hn h]
/-- where there is no error behind it, the part was there -/
theorem uS_some {most : Int} {s : Option (List Nat)} {r : List Nat} (h : (uS most s).2 = some r) : ∃ l, s = some l ∧ pUint most l = some ((uS most s).1, r) := by
  cases s with
  | none => cases h
  | some l =>
    unfold uS at h ⊢
    dsimp only at h ⊢
    cases hu : pUint most l with
    | none => rw [hu] at h; cases h
    | some x => obtain ⟨n, q⟩ := x; rw [hu] at h; dsimp only at h ⊢; injection h with h; subst h; exact ⟨l, rfl, hu⟩
theorem iS_some {s : Option (List Nat)} {r : List Nat} (h : (iS s).2 = some r) : ∃ l, s = some l ∧ pInt l = some ((iS s).1, r) := by
  cases s with
  | none => cases h
  | some l =>
    unfold iS at h ⊢
    dsimp only at h ⊢
    cases hu : pInt l with
    | none => rw [hu] at h; cases h
    | some x => obtain ⟨n, q⟩ := x; rw [hu] at h; dsimp only at h ⊢; injection h with h; subst h; exact ⟨l, rfl, hu⟩
theorem fS_some {s : Option (List Nat)} {r : List Nat} (h : (fS s).2 = some r) : ∃ l, s = some l ∧ pFlag l = some ((fS s).1, r) := by
  cases s with
  | none => cases h
  | some l =>
    unfold fS at h ⊢
    dsimp only at h ⊢
    cases hu : pFlag l with
    | none => rw [hu] at h; cases h
    | some x => obtain ⟨n, q⟩ := x; rw [hu] at h; dsimp only at h ⊢; injection h with h; subst h; exact ⟨l, rfl, hu⟩
theorem tS_some {most : Int} {s : Option (List Nat)} {r : List Nat} (h : (tS most s).2 = some r) : ∃ l, s = some l ∧ pText most l = some ((tS most s).1, r) := by
  cases s with
  | none => cases h
  | some l =>
    unfold tS at h ⊢
    dsimp only at h ⊢
    cases hu : pText most l with
    | none => rw [hu] at h; cases h
    | some x => obtain ⟨n, q⟩ := x; rw [hu] at h; dsimp only at h ⊢; injection h with h; subst h; exact ⟨l, rfl, hu⟩
/-- a state's bytes are bytes -/
def SOk (s : Option (List Nat)) : Prop := ∀ l, s = some l → By l
theorem SOk.uS {s : Option (List Nat)} (h : SOk s) (most : Int) : SOk (uS most s).2 := fun r hr => by
  obtain ⟨l, rfl, hp⟩ := uS_some hr
  obtain ⟨-, -, -, k, rfl, -⟩ := pUint_is (h l rfl).1 hp
  exact (h l rfl).drop k
theorem SOk.iS {s : Option (List Nat)} (h : SOk s) : SOk (iS s).2 := fun r hr => by
  obtain ⟨l, rfl, hp⟩ := iS_some hr
  obtain ⟨-, -, k, rfl, -⟩ := pInt_is (h l rfl).1 hp
  exact (h l rfl).drop k
theorem SOk.fS {s : Option (List Nat)} (h : SOk s) : SOk (fS s).2 := fun r hr => by
  obtain ⟨l, rfl, hp⟩ := fS_some hr
  obtain ⟨-, k, rfl, -⟩ := pFlag_is hp
  exact (h l rfl).drop k
theorem SOk.tS {s : Option (List Nat)} (h : SOk s) (most : Int) : SOk (tS most s).2 := fun r hr => by
  obtain ⟨l, rfl, hp⟩ := tS_some hr
  obtain ⟨-, -, k, rfl, -⟩ := pText_is (h l rfl).1 hp
  exact (h l rfl).drop k
theorem tS_by {s : Option (List Nat)} (h : SOk s) (most : Int) : By (tS most s).1 := by
  have key : By [] := ⟨fun c hc => (by cases hc), by simp⟩
  cases s with
  | none => exact key
  | some l =>
    unfold codp.tS
    dsimp only
    cases hu : pText most l with
    | none => exact key
    | some x =>
      obtain ⟨t, q⟩ := x
      dsimp only
      obtain ⟨e, -, -⟩ := pText_is (h l rfl).1 hu
      have hb := h l rfl
      rw [e] at hb
      unfold textB at hb
      refine ⟨fun c hc => hb.1 c (by simp [hc]), ?_⟩
      have := hb.2
      simp only [List.length_append] at this
      omega
theorem uS_bd {most : Int} (s : Option (List Nat)) (h : SOk s) (hm : 0 ≤ most) : (((uS most s).1 : Nat) : Int) ≤ most := by
  cases s with
  | none => exact (show ((0 : Nat) : Int) ≤ most by simpa using hm)
  | some l =>
    unfold codp.uS
    dsimp only
    cases hu : pUint most l with
    | none => simpa using hm
    | some x => obtain ⟨n, q⟩ := x; exact (pUint_is (h l rfl).1 hu).2.1
theorem iS_bd (s : Option (List Nat)) (h : SOk s) : -9223372036854775808 ≤ (iS s).1 ∧ (iS s).1 ≤ 9223372036854775807 := by
  cases s with
  | none => unfold codp.iS; dsimp only; omega
  | some l =>
    unfold codp.iS
    dsimp only
    cases hu : pInt l with
    | none => dsimp only; omega
    | some x => obtain ⟨n, q⟩ := x; exact (pInt_is (h l rfl).1 hu).2.1
/-- ten groups that all say that more follow are none -/
theorem dec_ten (l : List Nat) (acc : Nat) : (dec 10 l 10 acc).2.2 ≠ 0 := by
  cases l with
  | nil => rw [dec_nil]; simp
  | cons c r => rw [dec_far (.inl rfl)]; simp
end Go.Proofs.Ytfdaokjigjpomaa.codp
