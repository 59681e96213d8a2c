/- Numbers as groups of seven bits, as plain mathematics: what is written for a number, what is read of bytes, and that each undoes the other. -/
import Derived.Laws.BitsAllLaws
namespace Go.Proofs.Ytcbpgplmphgcgaa.codm
set_option linter.unusedVariables false

/-- the groups of a number, at most f + 1 of them -/
def encF : Nat → Nat → List Nat
  | 0, n => [n]
  | f + 1, n => if n < 128 then [n] else (n % 128 + 128) :: encF f (n / 128)

def enc (n : Nat) : List Nat := encF 10 n

theorem encF_small (f n : Nat) (h : n < 128) : encF f n = [n] := by
  cases f with
  | zero => rfl
  | succ f => unfold encF; rw [if_pos h]

theorem encF_step (f n : Nat) (h : ¬ n < 128) : encF (f + 1) n = (n % 128 + 128) :: encF f (n / 128) := by
  show (if n < 128 then [n] else _) = _
  rw [if_neg h]

theorem encF_lt (f : Nat) : ∀ n, n < 128 ^ (f + 1) → ∀ c ∈ encF f n, c < 256 := by
  induction f with
  | zero => intro n hn c hc; simp [encF] at hc; subst hc; simp at hn; omega
  | succ f ih =>
    intro n hn c hc
    by_cases h : n < 128
    · rw [encF_small _ _ h] at hc; simp at hc; omega
    · rw [encF_step _ _ h] at hc
      rcases List.mem_cons.1 hc with h1 | h1
      · omega
      · refine ih (n / 128) ?_ c h1
        rw [Nat.div_lt_iff_lt_mul (by omega)]; rw [Nat.pow_succ] at hn; exact hn

theorem encF_length (f : Nat) : ∀ n, (encF f n).length ≤ f + 1 ∧ 1 ≤ (encF f n).length := by
  induction f with
  | zero => intro n; simp [encF]
  | succ f ih =>
    intro n
    by_cases h : n < 128
    · rw [encF_small _ _ h]; simp
    · rw [encF_step _ _ h]; have := ih (n / 128); simp; omega

theorem enc_lt {n : Nat} (h : n < 18446744073709551616) : ∀ c ∈ enc n, c < 256 := encF_lt 10 n (by omega)
theorem enc_length (n : Nat) : (enc n).length ≤ 11 ∧ 1 ≤ (enc n).length := encF_length 10 n

/-- what is read: the number, how many groups, the error -/
def dec (M : Nat) : List Nat → Nat → Nat → Nat × Nat × Nat
  | [], _, _ => (0, 0, 3)
  | c :: l, i, acc =>
    if i = M ∨ (i = 9 ∧ 1 < c % 128) then (0, 0, 2)
    else if 128 ≤ c then dec M l (i + 1) (acc + c % 128 * 128 ^ i)
    else if c % 128 = 0 ∧ 0 < i then (0, 0, 2) else (acc + c % 128 * 128 ^ i, i + 1, 0)

theorem dec_nil (M i acc : Nat) : dec M [] i acc = (0, 0, 3) := rfl
theorem dec_far {M c i acc : Nat} {l : List Nat} (h : i = M ∨ (i = 9 ∧ 1 < c % 128)) : dec M (c :: l) i acc = (0, 0, 2) := by
  unfold dec; rw [if_pos h]
theorem dec_more {M c i acc : Nat} {l : List Nat} (h : ¬ (i = M ∨ (i = 9 ∧ 1 < c % 128))) (h2 : 128 ≤ c) : dec M (c :: l) i acc = dec M l (i + 1) (acc + c % 128 * 128 ^ i) := by
  show (if _ then _ else _) = _
  rw [if_neg h, if_pos h2]
theorem dec_zero {M c i acc : Nat} {l : List Nat} (h : ¬ (i = M ∨ (i = 9 ∧ 1 < c % 128))) (h2 : ¬ 128 ≤ c) (h3 : c % 128 = 0 ∧ 0 < i) : dec M (c :: l) i acc = (0, 0, 2) := by
  show (if _ then _ else _) = _
  rw [if_neg h, if_neg h2, if_pos h3]
theorem dec_last {M c i acc : Nat} {l : List Nat} (h : ¬ (i = M ∨ (i = 9 ∧ 1 < c % 128))) (h2 : ¬ 128 ≤ c) (h3 : ¬ (c % 128 = 0 ∧ 0 < i)) : dec M (c :: l) i acc = (acc + c % 128 * 128 ^ i, i + 1, 0) := by
  show (if _ then _ else _) = _
  rw [if_neg h, if_neg h2, if_neg h3]

/-- a number stays within 64 bits on the way -/
theorem acc_step {i acc c : Nat} (hi : i ≤ 9) (ha : acc < 128 ^ i) (h9 : i = 9 → c % 128 ≤ 1) : acc + c % 128 * 128 ^ i < 18446744073709551616 ∧ (i < 9 → acc + c % 128 * 128 ^ i < 128 ^ (i + 1)) := by
  have hc : c % 128 < 128 := Nat.mod_lt _ (by omega)
  have hp : 0 < 128 ^ i := Nat.pow_pos (by omega)
  have h1 : acc + c % 128 * 128 ^ i < 128 ^ (i + 1) := by
    rw [Nat.pow_succ]
    have : c % 128 * 128 ^ i ≤ 127 * 128 ^ i := Nat.mul_le_mul_right _ (by omega)
    omega
  refine ⟨?_, fun _ => h1⟩
  by_cases h : i = 9
  · subst h
    have := h9 rfl
    have h2 : c % 128 * 128 ^ 9 ≤ 1 * 128 ^ 9 := Nat.mul_le_mul_right _ this
    omega
  · have : 128 ^ (i + 1) ≤ 128 ^ 9 := Nat.pow_le_pow_right (by omega) (by omega)
    omega

/-- what is written is read again, whatever stands behind it -/
theorem dec_encF (M : Nat) (hM : M ≤ 10) (r : List Nat) : ∀ f n i acc, n < 128 ^ (f + 1) → (0 < i → 0 < n) → i < M → n * 128 ^ i < (if M = 10 then 18446744073709551616 else 128 ^ M) →
    dec M (encF f n ++ r) i acc = (acc + n * 128 ^ i, i + (encF f n).length, 0) := by
  intro f
  induction f with
  | zero =>
    intro n i acc hn hz hi hb
    have hn' : n < 128 := by simpa using hn
    show dec M (n :: ([] ++ r)) i acc = _
    have hmod : n % 128 = n := Nat.mod_eq_of_lt hn'
    have h1 : ¬ (i = M ∨ (i = 9 ∧ 1 < n % 128)) := by
      rintro (h | ⟨h, h2⟩)
      · omega
      · subst h
        rw [hmod] at h2
        have hM10 : M = 10 := by omega
        rw [if_pos hM10] at hb
        have : 2 * 128 ^ 9 ≤ n * 128 ^ 9 := Nat.mul_le_mul_right _ h2
        omega
    rw [dec_last h1 (by omega) (by rw [hmod]; omega), hmod]
    simp [encF]
  | succ f ih =>
    intro n i acc hn hz hi hb
    by_cases h : n < 128
    · rw [encF_small _ _ h]
      show dec M (n :: ([] ++ r)) i acc = _
      have hmod : n % 128 = n := Nat.mod_eq_of_lt h
      have h1 : ¬ (i = M ∨ (i = 9 ∧ 1 < n % 128)) := by
        rintro (h0 | ⟨h0, h2⟩)
        · omega
        · subst h0
          rw [hmod] at h2
          have hM10 : M = 10 := by omega
          rw [if_pos hM10] at hb
          have : 2 * 128 ^ 9 ≤ n * 128 ^ 9 := Nat.mul_le_mul_right _ h2
          omega
      rw [dec_last h1 (by omega) (by rw [hmod]; omega), hmod]
      simp
    · rw [encF_step _ _ h]
      show dec M ((n % 128 + 128) :: (encF f (n / 128) ++ r)) i acc = _
      have hp : 0 < 128 ^ i := Nat.pow_pos (by omega)
      have hmod : (n % 128 + 128) % 128 = n % 128 := by omega
      have hge : 128 * 128 ^ i ≤ n * 128 ^ i := Nat.mul_le_mul_right _ (by omega)
      have hi9 : i + 1 < M := by
        rcases Nat.lt_or_ge (i + 1) M with h0 | h0
        · exact h0
        · exfalso
          have : M = i + 1 := by omega
          subst this
          by_cases h10 : i + 1 = 10
          · rw [if_pos h10] at hb
            have : i = 9 := by omega
            subst this
            omega
          · rw [if_neg h10, Nat.pow_succ] at hb; omega
      have h1 : ¬ (i = M ∨ (i = 9 ∧ 1 < (n % 128 + 128) % 128)) := by omega
      have hdm := Nat.div_add_mod n 128
      have e : n * 128 ^ i = n % 128 * 128 ^ i + n / 128 * 128 ^ (i + 1) := by
        rw [Nat.pow_succ]
        conv => lhs; rw [← hdm]
        rw [Nat.add_mul, Nat.mul_comm (128 ^ i) 128, ← Nat.mul_assoc, Nat.mul_comm (n / 128) 128]
        omega
      rw [dec_more h1 (by omega), hmod, ih (n / 128) (i + 1) _ ?_ (by omega) hi9 (by omega), e]
      · simp only [Prod.mk.injEq, List.length_cons, and_true]
        omega
      · rw [Nat.div_lt_iff_lt_mul (by omega)]; rw [Nat.pow_succ] at hn; exact hn

theorem dec_enc9 (n : Nat) (h : n < 9223372036854775808) (r : List Nat) : dec 9 (enc n ++ r) 0 0 = (n, (enc n).length, 0) := by
  have := dec_encF 9 (by omega) r 10 n 0 0 (by omega) (by omega) (by omega) (by rw [if_neg (by omega)]; omega)
  unfold enc; rw [this]; simp
theorem dec_enc10 (n : Nat) (h : n < 18446744073709551616) (r : List Nat) : dec 10 (enc n ++ r) 0 0 = (n, (enc n).length, 0) := by
  have := dec_encF 10 (by omega) r 10 n 0 0 (by omega) (by omega) (by omega) (by rw [if_pos rfl]; omega)
  unfold enc; rw [this]; simp

theorem acc_lt {i acc : Nat} (c : Nat) (ha : acc < 128 ^ i) : acc + c % 128 * 128 ^ i < 128 ^ (i + 1) := by
  have hc : c % 128 < 128 := Nat.mod_lt _ (by omega)
  have hp : 0 < 128 ^ i := Nat.pow_pos (by omega)
  rw [Nat.pow_succ]
  have : c % 128 * 128 ^ i ≤ 127 * 128 ^ i := Nat.mul_le_mul_right _ (by omega)
  omega

/-- what is read without an error: its groups are just those that are written for it -/
theorem encF_dec (M : Nat) (hM : M ≤ 10) : ∀ (l : List Nat) (i acc : Nat) (n s : Nat), i ≤ M → acc < 128 ^ i → (∀ c ∈ l, c < 256) → dec M l i acc = (n, s, 0) →
    ∃ m, n = acc + m * 128 ^ i ∧ i < s ∧ s - i ≤ l.length ∧ encF (10 - i) m = l.take (s - i) ∧ n < 18446744073709551616 ∧ (s ≤ 9 → n < 128 ^ s) ∧ s ≤ M ∧ (0 < i → 0 < m) := by
  intro l
  induction l with
  | nil => intro i acc n s _ _ _ h; rw [dec_nil] at h; simp at h
  | cons c l ih =>
    intro i acc n s hi ha hl h
    have hc := hl c (by simp)
    by_cases h1 : i = M ∨ (i = 9 ∧ 1 < c % 128)
    · rw [dec_far h1] at h; simp at h
    · have hi9 : i ≤ 9 := by omega
      have hlt := acc_lt c ha
      by_cases h2 : 128 ≤ c
      · rw [dec_more h1 h2] at h
        obtain ⟨m, hn, hs, hsl, henc, hn64, hn9, hsM, hm⟩ := ih (i + 1) _ n s (by omega) hlt (fun d hd => hl d (by simp [hd])) h
        have hm0 := hm (by omega)
        have hcm : c % 128 = c - 128 := by omega
        refine ⟨c % 128 + 128 * m, ?_, by omega, by simp; omega, ?_, hn64, hn9, hsM, by omega⟩
        · rw [hn, Nat.pow_succ, Nat.add_mul, Nat.mul_comm (128 ^ i) 128, ← Nat.mul_assoc, Nat.mul_comm m 128]; omega
        · rw [show 10 - i = (10 - (i + 1)) + 1 by omega, encF_step _ _ (by omega), show s - i = (s - (i + 1)) + 1 by omega, List.take_succ_cons, ← henc]
          rw [show (c % 128 + 128 * m) / 128 = m by omega, show (c % 128 + 128 * m) % 128 + 128 = c by omega]
      · by_cases h3 : c % 128 = 0 ∧ 0 < i
        · rw [dec_zero h1 h2 h3] at h; simp at h
        · rw [dec_last h1 h2 h3] at h
          simp only [Prod.mk.injEq, and_true] at h
          obtain ⟨hn, hs⟩ := h
          have hcm : c % 128 = c := by omega
          have h64 := acc_step (c := c) hi9 ha (fun h9 => by omega)
          refine ⟨c, by rw [← hn, hcm], by omega, by simp; omega, ?_, by rw [← hn]; exact h64.1, fun _ => by rw [← hn, ← hs]; exact hlt, by omega, by omega⟩
          rw [encF_small _ _ (by omega), show s - i = 1 by omega]; rfl

/-- .. from the beginning -/
theorem enc_dec {M : Nat} (hM : M ≤ 10) {l : List Nat} {n s : Nat} (hl : ∀ c ∈ l, c < 256) (h : dec M l 0 0 = (n, s, 0)) :
    enc n = l.take s ∧ s ≤ l.length ∧ n < 18446744073709551616 ∧ (s ≤ 9 → n < 128 ^ s) ∧ s ≤ M := by
  obtain ⟨m, hn, hs, hsl, henc, hn64, hn9, hsM, _⟩ := encF_dec M hM l 0 0 n s (by omega) (by omega) hl h
  have : n = m := by simpa using hn
  subst this
  exact ⟨by simpa [enc] using henc, by omega, hn64, hn9, hsM⟩

/-- whatever is read: the error's number, and nothing beside an error -/
theorem dec_errs (M : Nat) : ∀ (l : List Nat) (i acc : Nat), (dec M l i acc).2.2 = 0 ∨ ((dec M l i acc).1 = 0 ∧ (dec M l i acc).2.1 = 0 ∧ ((dec M l i acc).2.2 = 2 ∨ (dec M l i acc).2.2 = 3)) := by
  intro l
  induction l with
  | nil => intro i acc; right; exact ⟨rfl, rfl, .inr rfl⟩
  | cons c l ih =>
    intro i acc
    by_cases h1 : i = M ∨ (i = 9 ∧ 1 < c % 128)
    · rw [dec_far h1]; right; exact ⟨rfl, rfl, .inl rfl⟩
    · by_cases h2 : 128 ≤ c
      · rw [dec_more h1 h2]; exact ih _ _
      · by_cases h3 : c % 128 = 0 ∧ 0 < i
        · rw [dec_zero h1 h2 h3]; right; exact ⟨rfl, rfl, .inl rfl⟩
        · rw [dec_last h1 h2 h3]; left; rfl

/-! an int as a number without a sign: zigzag -/
def zig (n : Int) : Nat := if 0 ≤ n then (2 * n).toNat else (-2 * n - 1).toNat
def zag (u : Nat) : Int := if u % 2 = 1 then -((u / 2 : Nat) : Int) - 1 else ((u / 2 : Nat) : Int)
theorem zag_zig (n : Int) : zag (zig n) = n := by
  unfold zag zig; split <;> split <;> omega
theorem zig_zag (u : Nat) : zig (zag u) = u := by
  unfold zag zig; split <;> split <;> omega
theorem zig_lt {n : Int} (h : -9223372036854775808 ≤ n ∧ n ≤ 9223372036854775807) : zig n < 18446744073709551616 := by
  unfold zig; split <;> omega
theorem zag_in {u : Nat} (h : u < 18446744073709551616) : -9223372036854775808 ≤ zag u ∧ zag u ≤ 9223372036854775807 := by
  unfold zag; split <;> omega
end Go.Proofs.Ytcbpgplmphgcgaa.codm
