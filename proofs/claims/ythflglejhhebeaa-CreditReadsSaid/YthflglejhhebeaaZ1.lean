/- Several texts together: CodMath, CodP, CsM, CsT. -/
import Derived.Laws.BitsAllLaws
namespace Go.Proofs.Ythflglejhhebeaa.codm
set_option linter.unusedVariables false

/-- the groups of a number, at most f + 1 of them -/
def encF : Nat → Nat → List Nat
  | 0, n => [n]
  | f + 1, n => if n < 128 then [n] else (n % 128 + 128) :: encF f (n / 128)

def enc (n : Nat) : List Nat := encF 10 n

theorem encF_small (f n : Nat) (h : n < 128) : encF f n = [n] := by
  cases f with
  | zero => rfl
  | succ f => unfold encF; rw [if_pos h]

theorem encF_step (f n : Nat) (h : ¬ n < 128) : encF (f + 1) n = (n % 128 + 128) :: encF f (n / 128) := by
  show (if n < 128 then [n] else _) = _
  rw [if_neg h]

theorem encF_lt (f : Nat) : ∀ n, n < 128 ^ (f + 1) → ∀ c ∈ encF f n, c < 256 := by
  induction f with
  | zero => intro n hn c hc; simp [encF] at hc; subst hc; simp at hn; omega
  | succ f ih =>
    intro n hn c hc
    by_cases h : n < 128
    · rw [encF_small _ _ h] at hc; simp at hc; omega
    · rw [encF_step _ _ h] at hc
      rcases List.mem_cons.1 hc with h1 | h1
      · omega
      · refine ih (n / 128) ?_ c h1
        rw [Nat.div_lt_iff_lt_mul (by omega)]; rw [Nat.pow_succ] at hn; exact hn

theorem encF_length (f : Nat) : ∀ n, (encF f n).length ≤ f + 1 ∧ 1 ≤ (encF f n).length := by
  induction f with
  | zero => intro n; simp [encF]
  | succ f ih =>
    intro n
    by_cases h : n < 128
    · rw [encF_small _ _ h]; simp
    · rw [encF_step _ _ h]; have := ih (n / 128); simp; omega

theorem enc_lt {n : Nat} (h : n < 18446744073709551616) : ∀ c ∈ enc n, c < 256 := encF_lt 10 n (by omega)
theorem enc_length (n : Nat) : (enc n).length ≤ 11 ∧ 1 ≤ (enc n).length := encF_length 10 n

/-- what is read: the number, how many groups, the error -/
def dec (M : Nat) : List Nat → Nat → Nat → Nat × Nat × Nat
  | [], _, _ => (0, 0, 3)
  | c :: l, i, acc =>
    if i = M ∨ (i = 9 ∧ 1 < c % 128) then (0, 0, 2)
    else if 128 ≤ c then dec M l (i + 1) (acc + c % 128 * 128 ^ i)
    else if c % 128 = 0 ∧ 0 < i then (0, 0, 2) else (acc + c % 128 * 128 ^ i, i + 1, 0)

theorem dec_nil (M i acc : Nat) : dec M [] i acc = (0, 0, 3) := rfl
theorem dec_far {M c i acc : Nat} {l : List Nat} (h : i = M ∨ (i = 9 ∧ 1 < c % 128)) : dec M (c :: l) i acc = (0, 0, 2) := by
  unfold dec; rw [if_pos h]
theorem dec_more {M c i acc : Nat} {l : List Nat} (h : ¬ (i = M ∨ (i = 9 ∧ 1 < c % 128))) (h2 : 128 ≤ c) : dec M (c :: l) i acc = dec M l (i + 1) (acc + c % 128 * 128 ^ i) := by
  show (if _ then _ else _) = _
  rw [if_neg h, if_pos h2]
theorem dec_zero {M c i acc : Nat} {l : List Nat} (h : ¬ (i = M ∨ (i = 9 ∧ 1 < c % 128))) (h2 : ¬ 128 ≤ c) (h3 : c % 128 = 0 ∧ 0 < i) : dec M (c :: l) i acc = (0, 0, 2) := by
  show (if _ then _ else _) = _
  rw [if_neg h, if_neg h2, if_pos h3]
theorem dec_last {M c i acc : Nat} {l : List Nat} (h : ¬ (i = M ∨ (i = 9 ∧ 1 < c % 128))) (h2 : ¬ 128 ≤ c) (h3 : ¬ (c % 128 = 0 ∧ 0 < i)) : dec M (c :: l) i acc = (acc + c % 128 * 128 ^ i, i + 1, 0) := by
  show (if _ then _ else _) = _
  rw [if_neg h, if_neg h2, if_neg h3]

/-- a number stays within 64 bits on the way -/
theorem acc_step {i acc c : Nat} (hi : i ≤ 9) (ha : acc < 128 ^ i) (h9 : i = 9 → c % 128 ≤ 1) : acc + c % 128 * 128 ^ i < 18446744073709551616 ∧ (i < 9 → acc + c % 128 * 128 ^ i < 128 ^ (i + 1)) := by
  have hc : c % 128 < 128 := Nat.mod_lt _ (by omega)
  have hp : 0 < 128 ^ i := Nat.pow_pos (by omega)
  have h1 : acc + c % 128 * 128 ^ i < 128 ^ (i + 1) := by
    rw [Nat.pow_succ]
    have : c % 128 * 128 ^ i ≤ 127 * 128 ^ i := Nat.mul_le_mul_right _ (by omega)
    omega
  refine ⟨?_, fun _ => h1⟩
  by_cases h : i = 9
  · subst h
    have := h9 rfl
    have h2 : c % 128 * 128 ^ 9 ≤ 1 * 128 ^ 9 := Nat.mul_le_mul_right _ this
    omega
  · have : 128 ^ (i + 1) ≤ 128 ^ 9 := Nat.pow_le_pow_right (by omega) (by omega)
    omega

/-- what is written is read again, whatever stands behind it -/
theorem dec_encF (M : Nat) (hM : M ≤ 10) (r : List Nat) : ∀ f n i acc, n < 128 ^ (f + 1) → (0 < i → 0 < n) → i < M → n * 128 ^ i < (if M = 10 then 18446744073709551616 else 128 ^ M) →
    dec M (encF f n ++ r) i acc = (acc + n * 128 ^ i, i + (encF f n).length, 0) := by
  intro f
  induction f with
  | zero =>
    intro n i acc hn hz hi hb
    have hn' : n < 128 := by simpa using hn
    show dec M (n :: ([] ++ r)) i acc = _
    have hmod : n % 128 = n := Nat.mod_eq_of_lt hn'
    have h1 : ¬ (i = M ∨ (i = 9 ∧ 1 < n % 128)) := by
      rintro (h | ⟨h, h2⟩)
      · omega
      · subst h
        rw [hmod] at h2
        have hM10 : M = 10 := by omega
        rw [if_pos hM10] at hb
        have : 2 * 128 ^ 9 ≤ n * 128 ^ 9 := Nat.mul_le_mul_right _ h2
        omega
    rw [dec_last h1 (by omega) (by rw [hmod]; omega), hmod]
    simp [encF]
  | succ f ih =>
    intro n i acc hn hz hi hb
    by_cases h : n < 128
    · rw [encF_small _ _ h]
      show dec M (n :: ([] ++ r)) i acc = _
      have hmod : n % 128 = n := Nat.mod_eq_of_lt h
      have h1 : ¬ (i = M ∨ (i = 9 ∧ 1 < n % 128)) := by
        rintro (h0 | ⟨h0, h2⟩)
        · omega
        · subst h0
          rw [hmod] at h2
          have hM10 : M = 10 := by omega
          rw [if_pos hM10] at hb
          have : 2 * 128 ^ 9 ≤ n * 128 ^ 9 := Nat.mul_le_mul_right _ h2
          omega
      rw [dec_last h1 (by omega) (by rw [hmod]; omega), hmod]
      simp
    · rw [encF_step _ _ h]
      show dec M ((n % 128 + 128) :: (encF f (n / 128) ++ r)) i acc = _
      have hp : 0 < 128 ^ i := Nat.pow_pos (by omega)
      have hmod : (n % 128 + 128) % 128 = n % 128 := by omega
      have hge : 128 * 128 ^ i ≤ n * 128 ^ i := Nat.mul_le_mul_right _ (by omega)
      have hi9 : i + 1 < M := by
        rcases Nat.lt_or_ge (i + 1) M with h0 | h0
        · exact h0
        · exfalso
          have : M = i + 1 := by omega
          subst this
          by_cases h10 : i + 1 = 10
          · rw [if_pos h10] at hb
            have : i = 9 := by omega
            subst this
            omega
          · rw [if_neg h10, Nat.pow_succ] at hb; omega
      have h1 : ¬ (i = M ∨ (i = 9 ∧ 1 < (n % 128 + 128) % 128)) := by omega
      have hdm := Nat.div_add_mod n 128
      have e : n * 128 ^ i = n % 128 * 128 ^ i + n / 128 * 128 ^ (i + 1) := by
        rw [Nat.pow_succ]
        conv => lhs; rw [← hdm]
        rw [Nat.add_mul, Nat.mul_comm (128 ^ i) 128, ← Nat.mul_assoc, Nat.mul_comm (n / 128) 128]
        omega
      rw [dec_more h1 (by omega), hmod, ih (n / 128) (i + 1) _ ?_ (by omega) hi9 (by omega), e]
      · simp only [Prod.mk.injEq, List.length_cons, and_true]
        omega
      · rw [Nat.div_lt_iff_lt_mul (by omega)]; rw [Nat.pow_succ] at hn; exact hn

theorem dec_enc9 (n : Nat) (h : n < 9223372036854775808) (r : List Nat) : dec 9 (enc n ++ r) 0 0 = (n, (enc n).length, 0) := by
  have := dec_encF 9 (by omega) r 10 n 0 0 (by omega) (by omega) (by omega) (by rw [if_neg (by omega)]; omega)
  unfold enc; rw [this]; simp
theorem dec_enc10 (n : Nat) (h : n < 18446744073709551616) (r : List Nat) : dec 10 (enc n ++ r) 0 0 = (n, (enc n).length, 0) := by
  have := dec_encF 10 (by omega) r 10 n 0 0 (by omega) (by omega) (by omega) (by rw [if_pos rfl]; omega)
  unfold enc; rw [this]; simp

theorem acc_lt {i acc : Nat} (c : Nat) (ha : acc < 128 ^ i) : acc + c % 128 * 128 ^ i < 128 ^ (i + 1) := by
  have hc : c % 128 < 128 := Nat.mod_lt _ (by omega)
  have hp : 0 < 128 ^ i := Nat.pow_pos (by omega)
  rw [Nat.pow_succ]
  have : c % 128 * 128 ^ i ≤ 127 * 128 ^ i := Nat.mul_le_mul_right _ (by omega)
  omega

/-- what is read without an error: its groups are just those that are written for it -/
theorem encF_dec (M : Nat) (hM : M ≤ 10) : ∀ (l : List Nat) (i acc : Nat) (n s : Nat), i ≤ M → acc < 128 ^ i → (∀ c ∈ l, c < 256) → dec M l i acc = (n, s, 0) →
    ∃ m, n = acc + m * 128 ^ i ∧ i < s ∧ s - i ≤ l.length ∧ encF (10 - i) m = l.take (s - i) ∧ n < 18446744073709551616 ∧ (s ≤ 9 → n < 128 ^ s) ∧ s ≤ M ∧ (0 < i → 0 < m) := by
  intro l
  induction l with
  | nil => intro i acc n s _ _ _ h; rw [dec_nil] at h; simp at h
  | cons c l ih =>
    intro i acc n s hi ha hl h
    have hc := hl c (by simp)
    by_cases h1 : i = M ∨ (i = 9 ∧ 1 < c % 128)
    · rw [dec_far h1] at h; simp at h
    · have hi9 : i ≤ 9 := by omega
      have hlt := acc_lt c ha
      by_cases h2 : 128 ≤ c
      · rw [dec_more h1 h2] at h
        obtain ⟨m, hn, hs, hsl, henc, hn64, hn9, hsM, hm⟩ := ih (i + 1) _ n s (by omega) hlt (fun d hd => hl d (by simp [hd])) h
        have hm0 := hm (by omega)
        have hcm : c % 128 = c - 128 := by omega
        refine ⟨c % 128 + 128 * m, ?_, by omega, by simp; omega, ?_, hn64, hn9, hsM, by omega⟩
        · rw [hn, Nat.pow_succ, Nat.add_mul, Nat.mul_comm (128 ^ i) 128, ← Nat.mul_assoc, Nat.mul_comm m 128]; omega
        · rw [show 10 - i = (10 - (i + 1)) + 1 by omega, encF_step _ _ (by omega), show s - i = (s - (i + 1)) + 1 by omega, List.take_succ_cons, ← henc]
          rw [show (c % 128 + 128 * m) / 128 = m by omega, show (c % 128 + 128 * m) % 128 + 128 = c by omega]
      · by_cases h3 : c % 128 = 0 ∧ 0 < i
        · rw [dec_zero h1 h2 h3] at h; simp at h
        · rw [dec_last h1 h2 h3] at h
          simp only [Prod.mk.injEq, and_true] at h
          obtain ⟨hn, hs⟩ := h
          have hcm : c % 128 = c := by omega
          have h64 := acc_step (c := c) hi9 ha (fun h9 => by omega)
          refine ⟨c, by rw [← hn, hcm], by omega, by simp; omega, ?_, by rw [← hn]; exact h64.1, fun _ => by rw [← hn, ← hs]; exact hlt, by omega, by omega⟩
          rw [encF_small _ _ (by omega), show s - i = 1 by omega]; rfl

/-- .. from the beginning -/
theorem enc_dec {M : Nat} (hM : M ≤ 10) {l : List Nat} {n s : Nat} (hl : ∀ c ∈ l, c < 256) (h : dec M l 0 0 = (n, s, 0)) :
    enc n = l.take s ∧ s ≤ l.length ∧ n < 18446744073709551616 ∧ (s ≤ 9 → n < 128 ^ s) ∧ s ≤ M := by
  obtain ⟨m, hn, hs, hsl, henc, hn64, hn9, hsM, _⟩ := encF_dec M hM l 0 0 n s (by omega) (by omega) hl h
  have : n = m := by simpa using hn
  subst this
  exact ⟨by simpa [enc] using henc, by omega, hn64, hn9, hsM⟩

/-- whatever is read: the error's number, and nothing beside an error -/
theorem dec_errs (M : Nat) : ∀ (l : List Nat) (i acc : Nat), (dec M l i acc).2.2 = 0 ∨ ((dec M l i acc).1 = 0 ∧ (dec M l i acc).2.1 = 0 ∧ ((dec M l i acc).2.2 = 2 ∨ (dec M l i acc).2.2 = 3)) := by
  intro l
  induction l with
  | nil => intro i acc; right; exact ⟨rfl, rfl, .inr rfl⟩
  | cons c l ih =>
    intro i acc
    by_cases h1 : i = M ∨ (i = 9 ∧ 1 < c % 128)
    · rw [dec_far h1]; right; exact ⟨rfl, rfl, .inl rfl⟩
    · by_cases h2 : 128 ≤ c
      · rw [dec_more h1 h2]; exact ih _ _
      · by_cases h3 : c % 128 = 0 ∧ 0 < i
        · rw [dec_zero h1 h2 h3]; right; exact ⟨rfl, rfl, .inl rfl⟩
        · rw [dec_last h1 h2 h3]; left; rfl

/-! an int as a number without a sign: zigzag -/
def zig (n : Int) : Nat := if 0 ≤ n then (2 * n).toNat else (-2 * n - 1).toNat
def zag (u : Nat) : Int := if u % 2 = 1 then -((u / 2 : Nat) : Int) - 1 else ((u / 2 : Nat) : Int)
theorem zag_zig (n : Int) : zag (zig n) = n := by
  unfold zag zig; split <;> split <;> omega
theorem zig_zag (u : Nat) : zig (zag u) = u := by
  unfold zag zig; split <;> split <;> omega
theorem zig_lt {n : Int} (h : -9223372036854775808 ≤ n ∧ n ≤ 9223372036854775807) : zig n < 18446744073709551616 := by
  unfold zig; split <;> omega
theorem zag_in {u : Nat} (h : u < 18446744073709551616) : -9223372036854775808 ≤ zag u ∧ zag u ≤ 9223372036854775807 := by
  unfold zag; split <;> omega
end Go.Proofs.Ythflglejhhebeaa.codm

namespace Go.Proofs.Ythflglejhhebeaa.codp
open codm
set_option linter.unusedVariables false

/-- one part, and what is left; none: an error -/
def pUint (most : Int) (l : List Nat) : Option (Nat × List Nat) := if (dec 9 l 0 0).2.2 = 0 ∧ ((dec 9 l 0 0).1 : Int) ≤ most then some ((dec 9 l 0 0).1, l.drop (dec 9 l 0 0).2.1) else none
def pInt (l : List Nat) : Option (Int × List Nat) := if (dec 10 l 0 0).2.2 = 0 then some (zag (dec 10 l 0 0).1, l.drop (dec 10 l 0 0).2.1) else none
def pFlag : List Nat → Option (Bool × List Nat)
  | [] => none
  | c :: r => if c = 0 then some (false, r) else if c = 1 then some (true, r) else none
def pText (most : Int) (l : List Nat) : Option (List Nat × List Nat) := match pUint most l with
  | none => none
  | some (n, r) => if n ≤ r.length then some (r.take n, r.drop n) else none
/-- the same on a state: none, where there was an error -/
def uS (most : Int) (s : Option (List Nat)) : Nat × Option (List Nat) := match s with
  | none => (0, none)
  | some l => match pUint most l with
    | none => (0, none)
    | some (n, r) => (n, some r)
def iS (s : Option (List Nat)) : Int × Option (List Nat) := match s with
  | none => (0, none)
  | some l => match pInt l with
    | none => (0, none)
    | some (n, r) => (n, some r)
def fS (s : Option (List Nat)) : Bool × Option (List Nat) := match s with
  | none => (false, none)
  | some l => match pFlag l with
    | none => (false, none)
    | some (n, r) => (n, some r)
def tS (most : Int) (s : Option (List Nat)) : List Nat × Option (List Nat) := match s with
  | none => ([], none)
  | some l => match pText most l with
    | none => ([], none)
    | some (n, r) => (n, some r)
theorem uS_none (most : Int) : uS most none = (0, none) := rfl
theorem iS_none : iS none = (0, none) := rfl
theorem fS_none : fS none = (false, none) := rfl
theorem tS_none (most : Int) : tS most none = ([], none) := rfl
/-- bytes that are bytes, and not too many -/
def By (l : List Nat) : Prop := (∀ c ∈ l, c < 256) ∧ l.length ≤ 100000000
theorem By.drop {l : List Nat} (h : By l) (k : Nat) : By (l.drop k) := ⟨fun c hc => h.1 c (List.mem_of_mem_drop hc), by rw [List.length_drop]; have := h.2; omega⟩
theorem By.take {l : List Nat} (h : By l) (k : Nat) : By (l.take k) := ⟨fun c hc => h.1 c (List.mem_of_mem_take hc), by rw [List.length_take]; have := h.2; omega⟩
theorem pUint_is {most : Int} {l : List Nat} {n : Nat} {r : List Nat} (hl : ∀ c ∈ l, c < 256) (h : pUint most l = some (n, r)) : l = enc n ++ r ∧ (n : Int) ≤ most ∧ n < 9223372036854775808 ∧ ∃ s, r = l.drop s ∧ s ≤ l.length := by
  unfold pUint at h
  obtain ⟨m, s, er, hd⟩ : ∃ m s er, dec 9 l 0 0 = (m, s, er) := ⟨_, _, _, rfl⟩
  rw [hd] at h
  dsimp only at h
  split at h
  · rename_i hc
    obtain ⟨rfl, hm⟩ := hc
    injection h with h
    injection h with h1 h2
    subst h1 h2
    obtain ⟨he, hs, h64, h9, hsM⟩ := enc_dec (by omega : 9 ≤ 10) hl hd
    refine ⟨by rw [he, List.take_append_drop], hm, ?_, s, rfl, hs⟩
    have h1 := h9 (by omega)
    have h2 : 128 ^ s ≤ 128 ^ 9 := Nat.pow_le_pow_right (by omega) (by omega)
    omega
  · cases h
theorem pUint_enc {most : Int} {n : Nat} (hn : (n : Int) ≤ most) (h : n < 9223372036854775808) (r : List Nat) : pUint most (enc n ++ r) = some (n, r) := by
  unfold pUint
  rw [dec_enc9 n h]
  dsimp only
  rw [if_pos ⟨rfl, hn⟩]
  simp
theorem pInt_is {l : List Nat} {n : Int} {r : List Nat} (hl : ∀ c ∈ l, c < 256) (h : pInt l = some (n, r)) : l = enc (zig n) ++ r ∧ (-9223372036854775808 ≤ n ∧ n ≤ 9223372036854775807) ∧ ∃ s, r = l.drop s ∧ s ≤ l.length := by
  unfold pInt at h
  obtain ⟨m, s, er, hd⟩ : ∃ m s er, dec 10 l 0 0 = (m, s, er) := ⟨_, _, _, rfl⟩
  rw [hd] at h
  dsimp only at h
  split at h
  · rename_i hc
    subst hc
    injection h with h
    injection h with h1 h2
    subst h1 h2
    obtain ⟨he, hs, h64, h9, hsM⟩ := enc_dec (by omega : 10 ≤ 10) hl hd
    exact ⟨by rw [zig_zag, he, List.take_append_drop], zag_in h64, s, rfl, hs⟩
  · cases h
theorem pInt_enc {n : Int} (h : -9223372036854775808 ≤ n ∧ n ≤ 9223372036854775807) (r : List Nat) : pInt (enc (zig n) ++ r) = some (n, r) := by
  unfold pInt
  rw [dec_enc10 _ (zig_lt h)]
  dsimp only
  rw [if_pos rfl, zag_zig]
  simp
def flagB (b : Bool) : List Nat := [if b then 1 else 0]
theorem pFlag_is {l : List Nat} {b : Bool} {r : List Nat} (h : pFlag l = some (b, r)) : l = flagB b ++ r ∧ ∃ s, r = l.drop s ∧ s ≤ l.length := by
  cases l with
  | nil => cases h
  | cons c t =>
    unfold pFlag at h
    dsimp only at h
    by_cases h0 : c = 0
    · rw [if_pos h0] at h
      injection h with h
      injection h with h1 h2
      subst h0 h1 h2
      exact ⟨rfl, 1, rfl, by simp⟩
    · rw [if_neg h0] at h
      by_cases h1 : c = 1
      · rw [if_pos h1] at h
        injection h with h
        injection h with h2 h3
        subst h1 h2 h3
        exact ⟨rfl, 1, rfl, by simp⟩
      · rw [if_neg h1] at h; cases h
theorem pFlag_enc (b : Bool) (r : List Nat) : pFlag (flagB b ++ r) = some (b, r) := by cases b <;> rfl
def textB (t : List Nat) : List Nat := enc t.length ++ t
theorem pText_is {most : Int} {l t r : List Nat} (hl : ∀ c ∈ l, c < 256) (h : pText most l = some (t, r)) : l = textB t ++ r ∧ (t.length : Int) ≤ most ∧ ∃ s, r = l.drop s ∧ s ≤ l.length := by
  unfold pText at h
  cases hu : pUint most l with
  | none => rw [hu] at h; cases h
  | some x =>
    obtain ⟨n, q⟩ := x
    rw [hu] at h
    dsimp only at h
    obtain ⟨h1, h2, h3, s, h4, h5⟩ := pUint_is hl hu
    split at h
    · rename_i hn
      injection h with h
      injection h with e1 e2
      subst e1 e2
      have hln : (q.take n).length = n := by rw [List.length_take]; omega
      refine ⟨?_, by rw [hln]; exact h2, s + n, by rw [h4, List.drop_drop], ?_⟩
      · unfold textB
        rw [hln, List.append_assoc, List.take_append_drop]
        exact h1
      · rw [h4, List.length_drop] at hn; omega
    · cases h
theorem pText_enc {most : Int} {t : List Nat} (hn : (t.length : Int) ≤ most) (h : t.length < 9223372036854775808) (r : List Nat) : pText most (textB t ++ r) = some (t, r) := by
  unfold pText textB
  rw [List.append_assoc, pUint_enc hn h]
  dsimp only
  rw [if_pos (by rw [List.length_append]; omega)]
  simp
theorem uS_enc {most : Int} {n : Nat} (hn : (n : Int) ≤ most) (h : n < 9223372036854775808) (r : List Nat) : uS most (some (enc n ++ r)) = (n, some r) := by unfold uS; dsimp only; rw [pUint_enc hn h]
theorem iS_enc {n : Int} (h : -9223372036854775808 ≤ n ∧ n ≤ 9223372036854775807) (r : List Nat) : iS (some (enc (zig n) ++ r)) = (n, some r) := by unfold iS; dsimp only; rw [pInt_enc h]
theorem fS_enc (b : Bool) (r : List Nat) : fS (some (flagB b ++ r)) = (b, some r) := by unfold fS; dsimp only; rw [pFlag_enc]
theorem tS_enc {most : Int} {t : List Nat} (hn : (t.length : Int) ≤ most) (h : t.length < 9223372036854775808) (r : List Nat) : tS most (some (textB t ++ r)) = (t, some r) := by unfold tS; dsimp only; rw [pText_enc hn h]
/-- where there is no error behind it, the part was there -/
theorem uS_some {most : Int} {s : Option (List Nat)} {r : List Nat} (h : (uS most s).2 = some r) : ∃ l, s = some l ∧ pUint most l = some ((uS most s).1, r) := by
  cases s with
  | none => cases h
  | some l =>
    unfold uS at h ⊢
    dsimp only at h ⊢
    cases hu : pUint most l with
    | none => rw [hu] at h; cases h
    | some x => obtain ⟨n, q⟩ := x; rw [hu] at h; dsimp only at h ⊢; injection h with h; subst h; exact ⟨l, rfl, hu⟩
theorem iS_some {s : Option (List Nat)} {r : List Nat} (h : (iS s).2 = some r) : ∃ l, s = some l ∧ pInt l = some ((iS s).1, r) := by
  cases s with
  | none => cases h
  | some l =>
    unfold iS at h ⊢
    dsimp only at h ⊢
    cases hu : pInt l with
    | none => rw [hu] at h; cases h
    | some x => obtain ⟨n, q⟩ := x; rw [hu] at h; dsimp only at h ⊢; injection h with h; subst h; exact ⟨l, rfl, hu⟩
theorem fS_some {s : Option (List Nat)} {r : List Nat} (h : (fS s).2 = some r) : ∃ l, s = some l ∧ pFlag l = some ((fS s).1, r) := by
  cases s with
  | none => cases h
  | some l =>
    unfold fS at h ⊢
    dsimp only at h ⊢
    cases hu : pFlag l with
    | none => rw [hu] at h; cases h
    | some x => obtain ⟨n, q⟩ := x; rw [hu] at h; dsimp only at h ⊢; injection h with h; subst h; exact ⟨l, rfl, hu⟩
theorem tS_some {most : Int} {s : Option (List Nat)} {r : List Nat} (h : (tS most s).2 = some r) : ∃ l, s = some l ∧ pText most l = some ((tS most s).1, r) := by
  cases s with
  | none => cases h
  | some l =>
    unfold tS at h ⊢
    dsimp only at h ⊢
    cases hu : pText most l with
    | none => rw [hu] at h; cases h
    | some x => obtain ⟨n, q⟩ := x; rw [hu] at h; dsimp only at h ⊢; injection h with h; subst h; exact ⟨l, rfl, hu⟩
/-- a state's bytes are bytes -/
def SOk (s : Option (List Nat)) : Prop := ∀ l, s = some l → By l
theorem SOk.uS {s : Option (List Nat)} (h : SOk s) (most : Int) : SOk (uS most s).2 := fun r hr => by
  obtain ⟨l, rfl, hp⟩ := uS_some hr
  obtain ⟨-, -, -, k, rfl, -⟩ := pUint_is (h l rfl).1 hp
  exact (h l rfl).drop k
theorem SOk.iS {s : Option (List Nat)} (h : SOk s) : SOk (iS s).2 := fun r hr => by
  obtain ⟨l, rfl, hp⟩ := iS_some hr
  obtain ⟨-, -, k, rfl, -⟩ := pInt_is (h l rfl).1 hp
  exact (h l rfl).drop k
theorem SOk.fS {s : Option (List Nat)} (h : SOk s) : SOk (fS s).2 := fun r hr => by
  obtain ⟨l, rfl, hp⟩ := fS_some hr
  obtain ⟨-, k, rfl, -⟩ := pFlag_is hp
  exact (h l rfl).drop k
theorem SOk.tS {s : Option (List Nat)} (h : SOk s) (most : Int) : SOk (tS most s).2 := fun r hr => by
  obtain ⟨l, rfl, hp⟩ := tS_some hr
  obtain ⟨-, -, k, rfl, -⟩ := pText_is (h l rfl).1 hp
  exact (h l rfl).drop k
theorem tS_by {s : Option (List Nat)} (h : SOk s) (most : Int) : By (tS most s).1 := by
  have key : By [] := ⟨fun c hc => (by cases hc), by simp⟩
  cases s with
  | none => exact key
  | some l =>
    unfold codp.tS
    dsimp only
    cases hu : pText most l with
    | none => exact key
    | some x =>
      obtain ⟨t, q⟩ := x
      dsimp only
      obtain ⟨e, -, -⟩ := pText_is (h l rfl).1 hu
      have hb := h l rfl
      rw [e] at hb
      unfold textB at hb
      refine ⟨fun c hc => hb.1 c (by simp [hc]), ?_⟩
      have := hb.2
      simp only [List.length_append] at this
      omega
theorem uS_bd {most : Int} (s : Option (List Nat)) (h : SOk s) (hm : 0 ≤ most) : (((uS most s).1 : Nat) : Int) ≤ most := by
  cases s with
  | none => exact (show ((0 : Nat) : Int) ≤ most by simpa using hm)
  | some l =>
    unfold codp.uS
    dsimp only
    cases hu : pUint most l with
    | none => simpa using hm
    | some x => obtain ⟨n, q⟩ := x; exact (pUint_is (h l rfl).1 hu).2.1
theorem iS_bd (s : Option (List Nat)) (h : SOk s) : -9223372036854775808 ≤ (iS s).1 ∧ (iS s).1 ≤ 9223372036854775807 := by
  cases s with
  | none => unfold codp.iS; dsimp only; omega
  | some l =>
    unfold codp.iS
    dsimp only
    cases hu : pInt l with
    | none => dsimp only; omega
    | some x => obtain ⟨n, q⟩ := x; exact (pInt_is (h l rfl).1 hu).2.1
/-- ten groups that all say that more follow are none -/
theorem dec_ten (l : List Nat) (acc : Nat) : (dec 10 l 10 acc).2.2 ≠ 0 := by
  cases l with
  | nil => rw [dec_nil]; simp
  | cons c r => rw [dec_far (.inl rfl)]; simp
end Go.Proofs.Ythflglejhhebeaa.codp

namespace Go.Proofs.Ythflglejhhebeaa.cs
set_option linter.unusedVariables false

structure Gr where
  g : Int
  u : Int
  a : Int
  f : Bool
deriving Inhabited, DecidableEq
structure Sx where
  i : Int
  nd : Int
  num : Int
  dl : Int
  gs : List Gr
deriving Inhabited, DecidableEq
/-- a grant that may be one -/
def grOk (x : Gr) : Prop := (1 ≤ x.g ∧ x.g ≤ 8) ∧ (0 ≤ x.u ∧ x.u ≤ 1073741824) ∧ 0 ≤ x.a ∧ x.a ≤ 9007199254740992
instance (x : Gr) : Decidable (grOk x) := by unfold grOk; infer_instance
def goodF : List Gr → List Gr → Bool
  | _, [] => true
  | A, x :: r => if grOk x then (if A.any (fun y => decide (y.g = x.g)) then false else goodF (A ++ [x]) r) else false
def grsB (l : List Gr) : Bool := decide (l.length ≤ 4) && goodF [] l
def numOk (n : Int) : Prop := 0 ≤ n ∧ n ≤ 4611686018427387904
instance (n : Int) : Decidable (numOk n) := by unfold numOk; infer_instance
def rightB (s : Sx) : Bool := decide (1 ≤ s.i) && decide (numOk s.i) && decide (1 ≤ s.nd) && decide (s.nd ≤ 32) && decide (numOk s.num) && decide (numOk s.dl) && grsB s.gs
theorem goodF_step {A l : List Gr} {k : Nat} (h : k < l.length) : goodF A (l.drop k) = if grOk (l.getD k default) then (if A.any (fun y => decide (y.g = (l.getD k default).g)) then false else goodF (A ++ [l.getD k default]) (l.drop (k + 1))) else false := by
  have e : l.drop k = l.getD k default :: l.drop (k + 1) := by rw [List.drop_eq_getElem_cons h]; simp [List.getD, h]
  rw [e]; rfl
theorem rightB_iff (s : Sx) : rightB s = true ↔ (1 ≤ s.i ∧ numOk s.i ∧ 1 ≤ s.nd ∧ s.nd ≤ 32 ∧ numOk s.num ∧ numOk s.dl ∧ grsB s.gs = true) := by
  unfold rightB
  simp only [Bool.and_eq_true, decide_eq_true_eq]
  constructor
  · rintro ⟨⟨⟨⟨⟨⟨h1, h2⟩, h3⟩, h4⟩, h5⟩, h6⟩, h7⟩; exact ⟨h1, h2, h3, h4, h5, h6, h7⟩
  · rintro ⟨h1, h2, h3, h4, h5, h6, h7⟩; exact ⟨⟨⟨⟨⟨⟨h1, h2⟩, h3⟩, h4⟩, h5⟩, h6⟩, h7⟩
theorem goodF_ok : ∀ (l A : List Gr), goodF A l = true → ∀ x ∈ l, grOk x := by
  intro l
  induction l with
  | nil => intro A _ x hx; cases hx
  | cons y r ih =>
    intro A h x hx
    unfold goodF at h
    by_cases h1 : grOk y
    · rw [if_pos h1] at h
      by_cases h2 : A.any (fun z => decide (z.g = y.g)) = true
      · rw [if_pos h2] at h; cases h
      · rw [if_neg h2] at h
        rcases List.mem_cons.1 hx with rfl | hx
        · exact h1
        · exact ih _ h x hx
    · rw [if_neg h1] at h; cases h
theorem grsB_len {l : List Gr} (h : grsB l = true) : l.length ≤ 4 := by
  unfold grsB at h
  simp only [Bool.and_eq_true, decide_eq_true_eq] at h
  exact h.1
theorem grsB_ok {l : List Gr} (h : grsB l = true) : ∀ x ∈ l, grOk x := by
  unfold grsB at h
  simp only [Bool.and_eq_true, decide_eq_true_eq] at h
  exact goodF_ok _ _ h.2
/-- the place of an Id; -1 -/
def sIdx (g : Int) : Int → List Sx → Int
  | _, [] => -1
  | s, x :: r => if x.i = g then s else sIdx g (s + 1) r
theorem sIdx_step {ps : List Sx} {k : Nat} (g : Int) (h : k < ps.length) : sIdx g k (ps.drop k) = if (ps.getD k default).i = g then (k : Int) else sIdx g ((k + 1 : Nat) : Int) (ps.drop (k + 1)) := by
  have e : ps.drop k = ps.getD k default :: ps.drop (k + 1) := by rw [List.drop_eq_getElem_cons h]; simp [List.getD, h]
  rw [e]
  show (if _ then _ else _) = _
  rw [show ((k : Int) + 1) = ((k + 1 : Nat) : Int) by omega]
theorem sIdx_cases (g : Int) : ∀ (l : List Sx) (s : Nat), (sIdx g s l = -1 ∧ ∀ x ∈ l, x.i ≠ g) ∨ ∃ k : Nat, k < l.length ∧ sIdx g s l = ((s + k : Nat) : Int) ∧ (l.getD k default).i = g := by
  intro l
  induction l with
  | nil => intro s; exact .inl ⟨rfl, fun x hx => by cases hx⟩
  | cons p r ih =>
    intro s
    unfold sIdx
    by_cases h : p.i = g
    · rw [if_pos h]; exact .inr ⟨0, by simp, by simp, h⟩
    · rw [if_neg h]
      have e : ((s : Int) + 1) = ((s + 1 : Nat) : Int) := by omega
      rw [e]
      rcases ih (s + 1) with ⟨h1, h2⟩ | ⟨k, h1, h2, h3⟩
      · exact .inl ⟨h1, fun x hx => (List.mem_cons.1 hx).elim (fun e => by subst e; exact h) (fun hx => h2 x hx)⟩
      · exact .inr ⟨k + 1, by simpa using h1, by rw [h2]; omega, by simpa [List.getD] using h3⟩
theorem sIdx_map (g : Int) : ∀ (l m : List Sx) (s : Int), l.map Sx.i = m.map Sx.i → sIdx g s l = sIdx g s m := by
  intro l
  induction l with
  | nil => intro m s h; cases m with
    | nil => rfl
    | cons x r => cases h
  | cons p r ih =>
    intro m s h
    cases m with
    | nil => cases h
    | cons x t =>
      rw [List.map_cons, List.map_cons] at h
      injection h with h1 h2
      unfold sIdx
      rw [h1, ih t (s + 1) h2]
/-- what a table answers, and becomes -/
def addE (pl last : Int) (L : List Sx) (s : Sx) : Int := if rightB s then (if s.i ≤ last then 13 else if pl ≤ (L.length : Int) then 10 else 0) else 1
def addL (pl last : Int) (L : List Sx) (s : Sx) : List Sx := if addE pl last L s = 0 then L ++ [s] else L
def addK (pl last : Int) (L : List Sx) (s : Sx) : Int := if addE pl last L s = 0 then s.i else last
def setE (L : List Sx) (s : Sx) : Int := if rightB s then (if sIdx s.i 0 L < 0 then 7 else 0) else 1
def setL (L : List Sx) (s : Sx) : List Sx := if setE L s = 0 then L.set (sIdx s.i 0 L).toNat s else L
def endE (L : List Sx) (g : Int) : Int := if sIdx g 0 L < 0 then 7 else 0
def endL (L : List Sx) (g : Int) : List Sx := if endE L g = 0 then L.eraseIdx (sIdx g 0 L).toNat else L
def stepE (L : List Sx) (g n : Int) : Int := if sIdx g 0 L < 0 then 7 else if n ≠ (L.getD (sIdx g 0 L).toNat default).num + 1 then 15 else 0
/-- all that a table ever has is right -/
structure TOk (pl last : Int) (L : List Sx) : Prop where
  p1 : 1 ≤ pl ∧ pl ≤ 16
  ln : (L.length : Int) ≤ pl
  la : 0 ≤ last ∧ last ≤ 4611686018427387904
  rt : ∀ x ∈ L, rightB x = true ∧ x.i ≤ last
  ri : (L.map Sx.i).Pairwise (· < ·)
theorem TOk.new {pl : Int} (h : 1 ≤ pl ∧ pl ≤ 16) : TOk pl 0 [] := ⟨h, by simp; omega, by omega, fun x hx => (by cases hx), by simp⟩
theorem TOk.add {pl last : Int} {L : List Sx} (h : TOk pl last L) (s : Sx) : TOk pl (addK pl last L s) (addL pl last L s) := by
  unfold addK addL
  by_cases e : addE pl last L s = 0
  · rw [if_pos e, if_pos e]
    unfold addE at e
    by_cases h1 : rightB s = true
    · rw [if_pos h1] at e
      by_cases h2 : s.i ≤ last
      · rw [if_pos h2] at e; cases e
      · rw [if_neg h2] at e
        by_cases h3 : pl ≤ (L.length : Int)
        · rw [if_pos h3] at e; cases e
        · have hr := (rightB_iff s).1 h1
          have hn := hr.2.1
          unfold numOk at hn
          refine ⟨h.p1, by rw [List.length_append, List.length_singleton]; omega, by have := h.la; omega, fun x hx => ?_, ?_⟩
          · rcases List.mem_append.1 hx with hx | hx
            · have := h.rt x hx; exact ⟨this.1, by omega⟩
            · rw [List.mem_singleton] at hx; subst hx; exact ⟨h1, Int.le_refl _⟩
          · rw [List.map_append, List.pairwise_append]
            refine ⟨h.ri, by simp, fun a ha b hb => ?_⟩
            obtain ⟨x, hx, rfl⟩ := List.mem_map.1 ha
            have h5 := (h.rt x hx).2
            have h6 : b = s.i := by simpa using hb
            omega
    · rw [if_neg h1] at e; cases e
  · rw [if_neg e, if_neg e]; exact h
theorem getD_memS {l : List Sx} {k : Nat} (h : k < l.length) : l.getD k default ∈ l := by
  have : l.getD k default = l[k] := by simp [List.getD, h]
  rw [this]; exact List.getElem_mem h
theorem TOk.set {pl last : Int} {L : List Sx} (h : TOk pl last L) (s : Sx) : TOk pl last (setL L s) := by
  unfold setL
  by_cases e : setE L s = 0
  · rw [if_pos e]
    unfold setE at e
    by_cases h1 : rightB s = true
    · rw [if_pos h1] at e
      rcases sIdx_cases s.i L 0 with ⟨h2, h3⟩ | ⟨k, h2, h3, h4⟩
      · rw [show ((0 : Nat) : Int) = 0 from rfl] at h2; rw [h2] at e; cases e
      · refine ⟨h.p1, by rw [List.length_set]; exact h.ln, h.la, fun x hx => ?_, ?_⟩
        · rcases List.mem_or_eq_of_mem_set hx with hx | hx
          · exact h.rt x hx
          · subst hx
            have := h.rt _ (getD_memS h2)
            rw [h4] at this
            exact ⟨h1, this.2⟩
        · rw [show ((0 : Nat) : Int) = 0 from rfl, Nat.zero_add] at h3
          rw [h3, Int.toNat_natCast, List.map_set]
          have e : (L.map Sx.i).set k s.i = L.map Sx.i := by
            apply List.ext_getElem
            · simp
            · intro j h5 h6
              rw [List.getElem_set]
              split
              · rename_i e5
                subst e5
                rw [← h4]
                simp [List.getD, h2]
              · rfl
          rw [e]; exact h.ri
    · rw [if_neg h1] at e; cases e
  · rw [if_neg e]; exact h
theorem TOk.fin {pl last : Int} {L : List Sx} (h : TOk pl last L) (g : Int) : TOk pl last (endL L g) := by
  unfold endL
  by_cases e : endE L g = 0
  · rw [if_pos e]
    refine ⟨h.p1, ?_, h.la, fun x hx => h.rt x (List.mem_of_mem_eraseIdx hx), h.ri.sublist ((List.eraseIdx_sublist _ _).map _)⟩
    have := h.ln
    have h2 : (L.eraseIdx (sIdx g 0 L).toNat).length ≤ L.length := (List.eraseIdx_sublist _ _).length_le
    omega
  · rw [if_neg e]; exact h
theorem sIdx_at (g : Int) : ∀ (l : List Sx) (s k : Nat), k < l.length → (l.getD k default).i = g → (∀ j, j < k → (l.getD j default).i ≠ g) → sIdx g s l = ((s + k : Nat) : Int) := by
  intro l
  induction l with
  | nil => intro s k h; simp at h
  | cons x r ih =>
    intro s k hk he hn
    unfold sIdx
    cases k with
    | zero => rw [if_pos (by simpa [List.getD] using he)]; simp
    | succ k =>
      have h0 := hn 0 (by omega)
      rw [if_neg (by simpa [List.getD] using h0)]
      have e : ((s : Int) + 1) = ((s + 1 : Nat) : Int) := by omega
      rw [e, ih (s + 1) k (by simpa using hk) (by simpa [List.getD] using he) (fun j hj => by have := hn (j + 1) (by omega); simpa [List.getD] using this)]
      omega
theorem TOk.idx {pl last : Int} {L : List Sx} (h : TOk pl last L) {k : Nat} (hk : k < L.length) : sIdx (L.getD k default).i 0 L = (k : Int) := by
  have := sIdx_at (L.getD k default).i L 0 k hk rfl (fun j hj e => by
    have h1 := List.pairwise_iff_getElem.1 h.ri j k (by rw [List.length_map]; omega) (by rw [List.length_map]; exact hk) hj
    simp only [List.getElem_map] at h1
    have e1 : L.getD j default = L[j] := by simp [List.getD, show j < L.length by omega]
    have e2 : L.getD k default = L[k] := by simp [List.getD, hk]
    rw [e1, e2] at e
    omega)
  rw [Nat.zero_add] at this
  exact this
/-- all grants of a node's sessions -/
def gOf (L : List Sx) (n : Int) : List Gr := L.flatMap (fun x => if x.nd = n then x.gs else [])
theorem gOf_step {L : List Sx} {k : Nat} (n : Int) (h : k < L.length) : gOf (L.take (k + 1)) n = gOf (L.take k) n ++ (if (L.getD k default).nd = n then (L.getD k default).gs else []) := by
  unfold gOf
  have e : L.take (k + 1) = L.take k ++ [L.getD k default] := by rw [List.take_succ_eq_append_getElem h]; simp [List.getD, h]
  rw [e, List.flatMap_append]
  simp
theorem gOf_mem {L : List Sx} {n : Int} {y : Gr} (h : y ∈ gOf L n) : ∃ x ∈ L, y ∈ x.gs := by
  unfold gOf at h
  obtain ⟨x, hx, hy⟩ := List.mem_flatMap.1 h
  by_cases e : x.nd = n
  · rw [if_pos e] at hy; exact ⟨x, hx, hy⟩
  · rw [if_neg e] at hy; cases hy
theorem gOf_len (L : List Sx) (n : Int) (h : ∀ x ∈ L, x.gs.length ≤ 4) : (gOf L n).length ≤ 4 * L.length := by
  induction L with
  | nil => simp [gOf]
  | cons x r ih =>
    have h1 := ih (fun y hy => h y (List.mem_cons_of_mem _ hy))
    have h2 := h x (List.mem_cons_self ..)
    have e : gOf (x :: r) n = (if x.nd = n then x.gs else []) ++ gOf r n := rfl
    rw [e, List.length_append, List.length_cons]
    split <;> simp <;> omega
end Go.Proofs.Ythflglejhhebeaa.cs

namespace Go.Proofs.Ythflglejhhebeaa.cs
open codm codp
set_option linter.unusedVariables false

def gB (x : Gr) : List Nat := enc x.g.toNat ++ (enc x.u.toNat ++ (enc x.a.toNat ++ flagB x.f))
def sB (s : Sx) : List Nat := enc s.i.toNat ++ (enc s.nd.toNat ++ (enc s.num.toNat ++ (enc s.dl.toNat ++ (enc s.gs.length ++ s.gs.flatMap gB))))
def tabB (pl last : Int) (L : List Sx) : List Nat := enc pl.toNat ++ (enc last.toNat ++ (enc L.length ++ L.flatMap sB))
/-- read, on states -/
def uF (s : Option (List Nat)) : Nat × Option (List Nat) := uS 4611686018427387904 s
def rdG (s : Option (List Nat)) : Gr × Option (List Nat) := (⟨((uF s).1 : Int), ((uF (uF s).2).1 : Int), ((uF (uF (uF s).2).2).1 : Int), (fS (uF (uF (uF s).2).2).2).1⟩, (fS (uF (uF (uF s).2).2).2).2)
def rdGs : Nat → Option (List Nat) → List Gr × Option (List Nat)
  | 0, s => ([], s)
  | k + 1, s => ((rdGs k s).1 ++ [(rdG (rdGs k s).2).1], (rdG (rdGs k s).2).2)
def s4 (s : Option (List Nat)) : Option (List Nat) := (uF (uF (uF (uF s).2).2).2).2
def sn (s : Option (List Nat)) : Nat := (uS 4 (s4 s)).1
def s5 (s : Option (List Nat)) : Option (List Nat) := (uS 4 (s4 s)).2
def rdS (s : Option (List Nat)) : Sx × Option (List Nat) := (⟨((uF s).1 : Int), ((uF (uF s).2).1 : Int), ((uF (uF (uF s).2).2).1 : Int), ((uF (uF (uF (uF s).2).2).2).1 : Int), (rdGs (sn s) (s5 s)).1⟩, (rdGs (sn s) (s5 s)).2)
def rdSs : Nat → Option (List Nat) → List Sx × Option (List Nat)
  | 0, s => ([], s)
  | k + 1, s => ((rdSs k s).1 ++ [(rdS (rdSs k s).2).1], (rdS (rdSs k s).2).2)
theorem rdGs_len (s : Option (List Nat)) : ∀ k, (rdGs k s).1.length = k := by
  intro k
  induction k with
  | zero => rfl
  | succ k ih => show ((rdGs k s).1 ++ [_]).length = _; rw [List.length_append, ih]; rfl
theorem rdSs_len (s : Option (List Nat)) : ∀ k, (rdSs k s).1.length = k := by
  intro k
  induction k with
  | zero => rfl
  | succ k ih => show ((rdSs k s).1 ++ [_]).length = _; rw [List.length_append, ih]; rfl
theorem SOk.uF {s : Option (List Nat)} (h : SOk s) : SOk (cs.uF s).2 := h.uS _
theorem SOk.g {s : Option (List Nat)} (h : SOk s) : SOk (rdG s).2 := SOk.fS (SOk.uF (SOk.uF (SOk.uF h)))
theorem SOk.gs {s : Option (List Nat)} (h : SOk s) : ∀ k, SOk (rdGs k s).2 := by
  intro k
  induction k with
  | zero => exact h
  | succ k ih => exact SOk.g ih
theorem SOk.s4 {s : Option (List Nat)} (h : SOk s) : SOk (cs.s4 s) := SOk.uF (SOk.uF (SOk.uF (SOk.uF h)))
theorem SOk.s5 {s : Option (List Nat)} (h : SOk s) : SOk (cs.s5 s) := (SOk.s4 h).uS _
theorem SOk.s {s : Option (List Nat)} (h : SOk s) : SOk (rdS s).2 := SOk.gs (SOk.s5 h) _
theorem SOk.ss {s : Option (List Nat)} (h : SOk s) : ∀ k, SOk (rdSs k s).2 := by
  intro k
  induction k with
  | zero => exact h
  | succ k ih => exact SOk.s ih
theorem uF_bd {s : Option (List Nat)} (h : SOk s) : ((cs.uF s).1 : Int) ≤ 4611686018427387904 := uS_bd s h (by omega)
theorem sn_bd {s : Option (List Nat)} (h : SOk s) : sn s ≤ 4 := by
  have := uS_bd (most := 4) _ (SOk.s4 h) (by omega)
  unfold sn
  omega
theorem rdG_none : (rdG none).2 = none := rfl
theorem rdGs_none (s : Option (List Nat)) (h : s = none) : ∀ k, (rdGs k s).2 = none := by
  intro k
  induction k with
  | zero => exact h
  | succ k ih => show (rdG (rdGs k s).2).2 = none; rw [ih]; rfl
theorem rdGs_stop (s : Option (List Nat)) (i k : Nat) (h : (rdGs i s).2 = none) (hk : i ≤ k) : (rdGs k s).2 = none := by
  obtain ⟨d, rfl⟩ := Nat.le.dest hk
  clear hk
  induction d with
  | zero => exact h
  | succ d ih =>
    show (rdG (rdGs (i + d) s).2).2 = none
    rw [ih]; rfl
theorem rdSs_stop (s : Option (List Nat)) (i k : Nat) (h : (rdSs i s).2 = none) (hk : i ≤ k) : (rdSs k s).2 = none := by
  obtain ⟨d, rfl⟩ := Nat.le.dest hk
  clear hk
  induction d with
  | zero => exact h
  | succ d ih =>
    show (rdS (rdSs (i + d) s).2).2 = none
    rw [ih]; rfl
/-- what was read says what the bytes were -/
theorem uS_app {most : Int} {s : Option (List Nat)} {r : List Nat} (h : SOk s) (hr : (uS most s).2 = some r) : s = some (enc (uS most s).1 ++ r) := by
  obtain ⟨l, e, hp⟩ := uS_some hr
  rw [← (pUint_is (h l e).1 hp).1]; exact e
theorem uF_app {s : Option (List Nat)} {r : List Nat} (h : SOk s) (hr : (cs.uF s).2 = some r) : s = some (enc (cs.uF s).1 ++ r) := uS_app h hr
theorem fS_app {s : Option (List Nat)} {r : List Nat} (h : SOk s) (hr : (fS s).2 = some r) : s = some (flagB (fS s).1 ++ r) := by
  obtain ⟨l, e, hp⟩ := fS_some hr
  rw [← (pFlag_is hp).1]; exact e
theorem rdG_app {s : Option (List Nat)} {r : List Nat} (h : SOk s) (hr : (rdG s).2 = some r) : s = some (gB (rdG s).1 ++ r) := by
  have h3 := fS_app (SOk.uF (SOk.uF (SOk.uF h))) hr
  have h2 := uF_app (SOk.uF (SOk.uF h)) h3
  have h1 := uF_app (SOk.uF h) h2
  have h0 := uF_app h h1
  have e : gB (rdG s).1 ++ r = enc (cs.uF s).1 ++ (enc (cs.uF (cs.uF s).2).1 ++ (enc (cs.uF (cs.uF (cs.uF s).2).2).1 ++ (flagB (fS (cs.uF (cs.uF (cs.uF s).2).2).2).1 ++ r))) := by
    unfold gB rdG
    simp only [Int.toNat_natCast, List.append_assoc]
  rw [e]
  exact h0
theorem rdGs_app {s : Option (List Nat)} (h : SOk s) : ∀ (k : Nat) (r : List Nat), (rdGs k s).2 = some r → s = some ((rdGs k s).1.flatMap gB ++ r) := by
  intro k
  induction k with
  | zero => intro r hr; simpa [rdGs] using hr
  | succ k ih =>
    intro r hr
    have h2 := rdG_app (SOk.gs h k) (show (rdG (rdGs k s).2).2 = some r from hr)
    have h3 := ih _ h2
    have e : (rdGs (k + 1) s).1 = (rdGs k s).1 ++ [(rdG (rdGs k s).2).1] := rfl
    rw [e, List.flatMap_append, List.append_assoc]
    simpa using h3
theorem rdS_app {s : Option (List Nat)} {r : List Nat} (h : SOk s) (hr : (rdS s).2 = some r) : s = some (sB (rdS s).1 ++ r) := by
  have e5 : cs.s5 s = some ((rdS s).1.gs.flatMap gB ++ r) := rdGs_app (SOk.s5 h) (sn s) r hr
  have e4 : cs.s4 s = some (enc (sn s) ++ ((rdS s).1.gs.flatMap gB ++ r)) := uS_app (SOk.s4 h) e5
  have e3 := uF_app (SOk.uF (SOk.uF (SOk.uF h))) e4
  have e2 := uF_app (SOk.uF (SOk.uF h)) e3
  have e1 := uF_app (SOk.uF h) e2
  have e0 := uF_app h e1
  have hl : (rdS s).1.gs.length = sn s := rdGs_len _ _
  have e : sB (rdS s).1 ++ r = enc (cs.uF s).1 ++ (enc (cs.uF (cs.uF s).2).1 ++ (enc (cs.uF (cs.uF (cs.uF s).2).2).1 ++ (enc (cs.uF (cs.uF (cs.uF (cs.uF s).2).2).2).1 ++ (enc (sn s) ++ ((rdS s).1.gs.flatMap gB ++ r))))) := by
    unfold sB
    rw [hl]
    simp only [List.append_assoc]
    unfold rdS
    simp only [Int.toNat_natCast]
  rw [e]
  exact e0
theorem rdSs_app {s : Option (List Nat)} (h : SOk s) : ∀ (k : Nat) (r : List Nat), (rdSs k s).2 = some r → s = some ((rdSs k s).1.flatMap sB ++ r) := by
  intro k
  induction k with
  | zero => intro r hr; simpa [rdSs] using hr
  | succ k ih =>
    intro r hr
    have h2 := rdS_app (SOk.ss h k) (show (rdS (rdSs k s).2).2 = some r from hr)
    have h3 := ih _ h2
    have e : (rdSs (k + 1) s).1 = (rdSs k s).1 ++ [(rdS (rdSs k s).2).1] := rfl
    rw [e, List.flatMap_append, List.append_assoc]
    simpa using h3
/-- what was written reads back -/
def FIn (n : Int) : Prop := 0 ≤ n ∧ n ≤ 4611686018427387904
def GIn (x : Gr) : Prop := FIn x.g ∧ FIn x.u ∧ FIn x.a
def SIn (s : Sx) : Prop := FIn s.i ∧ FIn s.nd ∧ FIn s.num ∧ FIn s.dl ∧ s.gs.length ≤ 4 ∧ ∀ x ∈ s.gs, GIn x
theorem GIn.of {x : Gr} (h : grOk x) : GIn x := by
  unfold grOk at h
  unfold GIn FIn
  omega
theorem SIn.of {s : Sx} (h : rightB s = true) : SIn s := by
  obtain ⟨h1, h2, h3, h4, h5, h6, h7⟩ := (rightB_iff s).1 h
  unfold numOk at h2 h5 h6
  exact ⟨⟨by omega, h2.2⟩, ⟨by omega, by omega⟩, h5, h6, grsB_len h7, fun x hx => GIn.of (grsB_ok h7 x hx)⟩
theorem uF_enc {n : Int} (h : FIn n) (r : List Nat) : cs.uF (some (enc n.toNat ++ r)) = (n.toNat, some r) := by
  unfold FIn at h
  exact uS_enc (by omega) (by omega) r
theorem rdG_gB {x : Gr} (h : GIn x) (r : List Nat) : rdG (some (gB x ++ r)) = (x, some r) := by
  obtain ⟨h1, h2, h3⟩ := h
  unfold rdG gB
  simp only [List.append_assoc]
  rw [uF_enc h1]
  dsimp only
  rw [uF_enc h2]
  dsimp only
  rw [uF_enc h3]
  dsimp only
  rw [fS_enc]
  dsimp only
  rw [Int.toNat_of_nonneg h1.1, Int.toNat_of_nonneg h2.1, Int.toNat_of_nonneg h3.1]
theorem rdGs_gs (K : List Gr) (hk : ∀ x ∈ K, GIn x) (r : List Nat) : ∀ k, k ≤ K.length → rdGs k (some (K.flatMap gB ++ r)) = (K.take k, some ((K.drop k).flatMap gB ++ r)) := by
  intro k
  induction k with
  | zero => intro _; simp [rdGs]
  | succ k ih =>
    intro h
    have ih := ih (by omega)
    have hd : K.drop k = K[k] :: K.drop (k + 1) := List.drop_eq_getElem_cons (by omega)
    have ht : K.take (k + 1) = K.take k ++ [K[k]] := List.take_succ_eq_append_getElem (by omega)
    have he := rdG_gB (hk K[k] (List.getElem_mem _)) ((K.drop (k + 1)).flatMap gB ++ r)
    show ((rdGs k (some (K.flatMap gB ++ r))).1 ++ [(rdG (rdGs k (some (K.flatMap gB ++ r))).2).1], (rdG (rdGs k (some (K.flatMap gB ++ r))).2).2) = _
    rw [ih]
    dsimp only
    rw [hd, List.flatMap_cons, List.append_assoc, he, ht]
theorem rdS_sB {x : Sx} (h : SIn x) (r : List Nat) : rdS (some (sB x ++ r)) = (x, some r) := by
  obtain ⟨h1, h2, h3, h4, h5, h6⟩ := h
  have e : sB x ++ r = enc x.i.toNat ++ (enc x.nd.toNat ++ (enc x.num.toNat ++ (enc x.dl.toNat ++ (enc x.gs.length ++ (x.gs.flatMap gB ++ r))))) := by unfold sB; simp only [List.append_assoc]
  rw [e]
  have a5 : uS 4 (some (enc x.gs.length ++ (x.gs.flatMap gB ++ r))) = (x.gs.length, some (x.gs.flatMap gB ++ r)) := uS_enc (by omega) (by omega) _
  have a6 := rdGs_gs x.gs h6 r x.gs.length (Nat.le_refl _)
  rw [List.take_length, List.drop_length] at a6
  unfold rdS sn s5 s4
  rw [uF_enc h1]; dsimp only
  rw [uF_enc h2]; dsimp only
  rw [uF_enc h3]; dsimp only
  rw [uF_enc h4]; dsimp only
  rw [a5]; dsimp only
  rw [a6]
  dsimp only
  rw [Int.toNat_of_nonneg h1.1, Int.toNat_of_nonneg h2.1, Int.toNat_of_nonneg h3.1, Int.toNat_of_nonneg h4.1]
  simp
theorem rdSs_ss (K : List Sx) (hk : ∀ x ∈ K, SIn x) (r : List Nat) : ∀ k, k ≤ K.length → rdSs k (some (K.flatMap sB ++ r)) = (K.take k, some ((K.drop k).flatMap sB ++ r)) := by
  intro k
  induction k with
  | zero => intro _; simp [rdSs]
  | succ k ih =>
    intro h
    have ih := ih (by omega)
    have hd : K.drop k = K[k] :: K.drop (k + 1) := List.drop_eq_getElem_cons (by omega)
    have ht : K.take (k + 1) = K.take k ++ [K[k]] := List.take_succ_eq_append_getElem (by omega)
    have he := rdS_sB (hk K[k] (List.getElem_mem _)) ((K.drop (k + 1)).flatMap sB ++ r)
    show ((rdSs k (some (K.flatMap sB ++ r))).1 ++ [(rdS (rdSs k (some (K.flatMap sB ++ r))).2).1], (rdS (rdSs k (some (K.flatMap sB ++ r))).2).2) = _
    rw [ih]
    dsimp only
    rw [hd, List.flatMap_cons, List.append_assoc, he, ht]
/-- a table's three numbers; read with m places at most, and k sessions -/
def pl0 (m : Int) (b : List Nat) : Nat := (uS m (some b)).1
def q1 (m : Int) (b : List Nat) : Option (List Nat) := (uS m (some b)).2
def la0 (m : Int) (b : List Nat) : Nat := (cs.uF (q1 m b)).1
def q2 (m : Int) (b : List Nat) : Option (List Nat) := (cs.uF (q1 m b)).2
def n0 (m k : Int) (b : List Nat) : Nat := (uS k (q2 m b)).1
def q3 (m k : Int) (b : List Nat) : Option (List Nat) := (uS k (q2 m b)).2
theorem sok0 {b : List Nat} (hb : By b) : SOk (some b) := fun l hl => by injection hl with hl; rw [← hl]; exact hb
theorem sok1 {b : List Nat} (hb : By b) (m : Int) : SOk (q1 m b) := (sok0 hb).uS _
theorem sok2 {b : List Nat} (hb : By b) (m : Int) : SOk (q2 m b) := SOk.uF (sok1 hb m)
theorem sok3 {b : List Nat} (hb : By b) (m k : Int) : SOk (q3 m k b) := (sok2 hb m).uS _
/-- the bytes of a table that may be one -/
def isT (b : List Nat) (pl last : Int) (L : List Sx) : Prop := TOk pl last L ∧ b = tabB pl last L
theorem isT.parse {b : List Nat} {pl last : Int} {L : List Sx} (h : isT b pl last L) {m k : Int} (hm : pl ≤ m) (hk : (L.length : Int) ≤ k) : (pl0 m b : Int) = pl ∧ (la0 m b : Int) = last ∧ n0 m k b = L.length ∧ ∀ i, i ≤ L.length → rdSs i (q3 m k b) = (L.take i, some ((L.drop i).flatMap sB)) := by
  obtain ⟨ho, rfl⟩ := h
  have hp := ho.p1
  have hn := ho.ln
  have hl := ho.la
  have a1 : uS m (some (tabB pl last L)) = (pl.toNat, some (enc last.toNat ++ (enc L.length ++ L.flatMap sB))) := uS_enc (by omega) (by omega) _
  have a2 : cs.uF (q1 m (tabB pl last L)) = (last.toNat, some (enc L.length ++ L.flatMap sB)) := by
    unfold q1; rw [a1]; exact uF_enc hl _
  have a3 : uS k (q2 m (tabB pl last L)) = (L.length, some (L.flatMap sB)) := by
    unfold q2; rw [a2]; exact uS_enc (by omega) (by omega) _
  refine ⟨by unfold pl0; rw [a1]; dsimp only; omega, by unfold la0; rw [a2]; dsimp only; omega, by unfold n0; rw [a3], fun i hi => ?_⟩
  have := rdSs_ss L (fun x hx => SIn.of (ho.rt x hx).1) [] i hi
  rw [List.append_nil, List.append_nil] at this
  unfold q3
  rw [a3]
  exact this
theorem tab_back {b : List Nat} (hb : By b) (m k : Int) (h : (rdSs (n0 m k b) (q3 m k b)).2 = some []) : b = tabB (pl0 m b) (la0 m b) (rdSs (n0 m k b) (q3 m k b)).1 := by
  have e3 := rdSs_app (sok3 hb m k) _ _ h
  have e2 := uS_app (sok2 hb m) e3
  have e1 := uF_app (sok1 hb m) e2
  have e0 := uS_app (sok0 hb) e1
  injection e0 with e0
  unfold tabB
  rw [Int.toNat_natCast, Int.toNat_natCast, rdSs_len]
  rw [List.append_nil] at e0
  exact e0
theorem isT.uniq {b : List Nat} {pl last pl' last' : Int} {L L' : List Sx} (h : isT b pl last L) (h' : isT b pl' last' L') : pl = pl' ∧ last = last' ∧ L = L' := by
  have hm1 : pl ≤ 16 := h.1.p1.2
  have hm2 : pl' ≤ 16 := h'.1.p1.2
  obtain ⟨a1, a2, a3, a4⟩ := h.parse (m := 16) (k := 16) hm1 (by have := h.1.ln; omega)
  obtain ⟨b1, b2, b3, b4⟩ := h'.parse (m := 16) (k := 16) hm2 (by have := h'.1.ln; omega)
  have c1 := a4 L.length (Nat.le_refl _)
  have c2 := b4 L'.length (Nat.le_refl _)
  rw [List.take_length] at c1 c2
  rw [← a3, b3, c2] at c1
  injection c1 with c1 _
  exact ⟨by omega, by omega, c1.symm⟩
/-- the last of rising Ids -/
def lK (l : List Sx) : Int := l.foldl (fun _ x => x.i) 0
theorem lK_nil : lK [] = 0 := rfl
theorem lK_snoc (l : List Sx) (x : Sx) : lK (l ++ [x]) = x.i := by unfold lK; rw [List.foldl_append]; rfl
theorem lK_le {last : Int} : ∀ (l : List Sx), 0 ≤ last → (∀ x ∈ l, x.i ≤ last) → lK l ≤ last := by
  intro l h0 h
  rcases List.eq_nil_or_concat l with rfl | ⟨k, x, rfl⟩
  · exact h0
  · rw [List.concat_eq_append] at h ⊢
    rw [lK_snoc]
    exact h x (by simp)
/-- right, and rising -/
def okD (la : Int) (K : List Sx) : Prop := (∀ x ∈ K, rightB x = true ∧ x.i ≤ la) ∧ (K.map Sx.i).Pairwise (· < ·)
theorem okD.nil (la : Int) : okD la [] := ⟨fun x hx => (by cases hx), by simp⟩
theorem right_pos {x : Sx} (h : rightB x = true) : 1 ≤ x.i := ((rightB_iff x).1 h).1
theorem okD.snoc {la : Int} {K : List Sx} {x : Sx} : okD la (K ++ [x]) ↔ okD la K ∧ rightB x = true ∧ lK K < x.i ∧ x.i ≤ la := by
  constructor
  · rintro ⟨h1, h2⟩
    rw [List.map_append, List.pairwise_append] at h2
    obtain ⟨h3, -, h4⟩ := h2
    have hx := h1 x (by simp)
    refine ⟨⟨fun y hy => h1 y (by simp [hy]), h3⟩, hx.1, ?_, hx.2⟩
    rcases List.eq_nil_or_concat K with rfl | ⟨k, y, rfl⟩
    · have := right_pos hx.1; rw [lK_nil]; omega
    · rw [List.concat_eq_append] at h4 ⊢
      rw [lK_snoc]
      exact h4 y.i (by simp) x.i (by simp)
  · rintro ⟨⟨h1, h2⟩, h3, h4, h5⟩
    refine ⟨fun y hy => ?_, ?_⟩
    · rcases List.mem_append.1 hy with hy | hy
      · exact h1 y hy
      · rw [List.mem_singleton] at hy; subst hy; exact ⟨h3, h5⟩
    · rw [List.map_append, List.pairwise_append]
      refine ⟨h2, by simp, fun a ha c hc => ?_⟩
      have hc : c = x.i := by simpa using hc
      subst hc
      obtain ⟨y, hy, rfl⟩ := List.mem_map.1 ha
      rcases List.eq_nil_or_concat K with rfl | ⟨k, z, rfl⟩
      · cases hy
      · rw [List.concat_eq_append] at h4 h2 hy
        rw [lK_snoc] at h4
        rcases List.mem_append.1 hy with hy | hy
        · rw [List.map_append, List.pairwise_append] at h2
          have := h2.2.2 y.i (List.mem_map_of_mem hy) z.i (by simp)
          omega
        · rw [List.mem_singleton] at hy; subst hy; exact h4
theorem okD.take {la : Int} {K : List Sx} (h : okD la K) (i : Nat) : okD la (K.take i) := ⟨fun x hx => h.1 x (List.mem_of_mem_take hx), h.2.sublist ((List.take_sublist i K).map _)⟩
theorem TOk.okD {pl last : Int} {L : List Sx} (h : TOk pl last L) : cs.okD last L := ⟨h.rt, h.ri⟩
theorem okD.tok {pl last : Int} {L : List Sx} (h : cs.okD last L) (hp : 1 ≤ pl ∧ pl ≤ 16) (hl : (L.length : Int) ≤ pl) (h0 : 0 ≤ last ∧ last ≤ 4611686018427387904) : TOk pl last L := ⟨hp, hl, h0, h.1, h.2⟩
/-- each session of a table may be added -/
theorem TOk.adds {pl last : Int} {L : List Sx} (h : TOk pl last L) {i : Nat} (hi : i < L.length) : addE pl (lK (L.take i)) (L.take i) (L.getD i default) = 0 := by
  have h1 := (okD.take h.okD (i + 1))
  have e : L.take (i + 1) = L.take i ++ [L.getD i default] := by rw [List.take_succ_eq_append_getElem hi]; simp [List.getD, hi]
  rw [e] at h1
  obtain ⟨-, h2, h3, -⟩ := okD.snoc.1 h1
  have := h.ln
  unfold addE
  rw [if_pos h2, if_neg (by omega), if_neg (by rw [List.length_take]; omega)]
theorem TOk.next {pl : Int} {K : List Sx} {x : Sx} (h : TOk pl (lK K) K) (he : addE pl (lK K) K x = 0) : TOk pl (lK (K ++ [x])) (K ++ [x]) ∧ addL pl (lK K) K x = K ++ [x] ∧ addK pl (lK K) K x = lK (K ++ [x]) := by
  have h1 : addL pl (lK K) K x = K ++ [x] := by unfold addL; rw [if_pos he]
  have h2 : addK pl (lK K) K x = lK (K ++ [x]) := by unfold addK; rw [if_pos he, lK_snoc]
  have := h.add x
  rw [h1, h2] at this
  exact ⟨this, h1, h2⟩
theorem TOk.more {pl last last' : Int} {K : List Sx} (h : TOk pl last K) (h1 : last ≤ last') (h2 : last' ≤ 4611686018427387904) : TOk pl last' K := ⟨h.p1, h.ln, by have := h.la; omega, fun x hx => by have := h.rt x hx; exact ⟨this.1, by omega⟩, h.ri⟩
/-- lengths -/
theorem gB_len (x : Gr) : (gB x).length ≤ 34 := by
  unfold gB
  have h1 := (enc_length x.g.toNat).1
  have h2 := (enc_length x.u.toNat).1
  have h3 := (enc_length x.a.toNat).1
  have h4 : (flagB x.f).length = 1 := by cases x.f <;> rfl
  simp only [List.length_append]
  omega
theorem gs_blen (K : List Gr) : (K.flatMap gB).length ≤ K.length * 34 := by
  induction K with
  | nil => simp
  | cons x r ih => rw [List.flatMap_cons, List.length_append, List.length_cons]; have := gB_len x; omega
theorem sB_len (s : Sx) (h : s.gs.length ≤ 4) : (sB s).length ≤ 191 := by
  unfold sB
  have h1 := (enc_length s.i.toNat).1
  have h2 := (enc_length s.nd.toNat).1
  have h3 := (enc_length s.num.toNat).1
  have h4 := (enc_length s.dl.toNat).1
  have h5 := (enc_length s.gs.length).1
  have h6 := gs_blen s.gs
  simp only [List.length_append]
  omega
theorem ss_blen (K : List Sx) (h : ∀ s ∈ K, s.gs.length ≤ 4) : (K.flatMap sB).length ≤ K.length * 191 := by
  induction K with
  | nil => simp
  | cons x r ih =>
    rw [List.flatMap_cons, List.length_append, List.length_cons]
    have := sB_len x (h x (List.mem_cons_self ..))
    have := ih (fun s hs => h s (List.mem_cons_of_mem _ hs))
    omega
end Go.Proofs.Ythflglejhhebeaa.cs

