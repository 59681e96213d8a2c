/- Tariffs and tiers, as plain lists: what is wrong with a tariff; a block's tier; usage spread over tiers. -/
import Derived.KernelRfl
namespace Go.Proofs.Ytdfghdccbpnohaa.tirm
set_option linter.unusedVariables false

/-- a tier: up to which block, at which price -/
structure Tr where
  u : Int
  p : Int
instance : Inhabited Tr := ⟨⟨0, 0⟩⟩
/-- a line: of which tier, how many blocks, at which price -/
structure Ln where
  t : Int
  b : Int
  p : Int
instance : Inhabited Ln := ⟨⟨0, 0, 0⟩⟩

/-- what is wrong with tiers from here on, behind one that goes so far -/
def tchkF : Int → List Tr → Int
  | _, [] => 0
  | l, x :: r => if x.p < 0 ∨ 1048576 < x.p then 1 else if (if r = [] then x.u ≠ 0 else (x.u ≤ l ∨ 1099511627776 < x.u)) then 15 else tchkF x.u r
def tchk (G M B : Int) (ts : List Tr) : Int :=
  if G < 1 ∨ 8 < G ∨ B < 1 ∨ 1073741824 < B then 1 else if M ≠ 1 ∧ M ≠ 2 then 21 else if ts.length < 1 ∨ 6 < ts.length then 5 else tchkF 0 ts

/-- tiers that are in order behind one that goes so far -/
def Tiers : Int → List Tr → Prop
  | _, [] => True
  | l, x :: r => (0 ≤ x.p ∧ x.p ≤ 1048576) ∧ (if r = [] then x.u = 0 else (l < x.u ∧ x.u ≤ 1099511627776)) ∧ Tiers x.u r

theorem tchkF_ok : ∀ (ts : List Tr) (l : Int), tchkF l ts = 0 ↔ Tiers l ts := by
  intro ts
  induction ts with
  | nil => intro l; simp [tchkF, Tiers]
  | cons x r ih =>
    intro l
    unfold tchkF Tiers
    by_cases h1 : x.p < 0 ∨ 1048576 < x.p
    · rw [if_pos h1]
      constructor
      · intro h; cases h
      · rintro ⟨h2, _⟩; omega
    · rw [if_neg h1]
      by_cases hr : r = []
      · subst hr
        simp only [if_true]
        by_cases h2 : x.u = 0
        · rw [if_neg (by simpa using h2), ih]
          exact ⟨fun h => ⟨by omega, h2, h⟩, fun h => h.2.2⟩
        · rw [if_pos h2]
          exact ⟨(fun h => by cases h), fun h => absurd h.2.1 h2⟩
      · simp only [hr, if_false]
        by_cases h2 : x.u ≤ l ∨ 1099511627776 < x.u
        · rw [if_pos h2]
          exact ⟨(fun h => by cases h), fun h => by have := h.2.1; omega⟩
        · rw [if_neg h2, ih]
          exact ⟨fun h => ⟨by omega, by omega, h⟩, fun h => h.2.2⟩
theorem tchk_ok (G M B : Int) (ts : List Tr) : tchk G M B ts = 0 ↔ (1 ≤ G ∧ G ≤ 8) ∧ (M = 1 ∨ M = 2) ∧ (1 ≤ B ∧ B ≤ 1073741824) ∧ (1 ≤ ts.length ∧ ts.length ≤ 6) ∧ Tiers 0 ts := by
  unfold tchk
  repeat' split
  · constructor
    · intro h; cases h
    · rintro ⟨a, b, c, d, e⟩; omega
  · constructor
    · intro h; cases h
    · rintro ⟨a, b, c, d, e⟩; omega
  · constructor
    · intro h; cases h
    · rintro ⟨a, b, c, d, e⟩; omega
  · rw [tchkF_ok]
    constructor
    · intro h; exact ⟨by omega, by omega, by omega, by omega, h⟩
    · rintro ⟨a, b, c, d, e⟩; exact e

/-- a block's tier -/
def idxF (n : Int) : Int → List Tr → Int
  | _, [] => -1
  | i, x :: r => if x.u = 0 ∨ n ≤ x.u then i else idxF n (i + 1) r
theorem idxF_in (n : Int) : ∀ (ts : List Tr) (l i : Int), Tiers l ts → ts ≠ [] → i ≤ idxF n i ts ∧ idxF n i ts < i + ts.length := by
  intro ts
  induction ts with
  | nil => intro l i _ h; exact absurd rfl h
  | cons x r ih =>
    intro l i h _
    unfold idxF
    obtain ⟨h1, h2, h3⟩ := h
    by_cases h4 : x.u = 0 ∨ n ≤ x.u
    · rw [if_pos h4, List.length_cons]; omega
    · rw [if_neg h4, List.length_cons]
      have hr : r ≠ [] := by
        intro e
        rw [if_pos e] at h2
        omega
      have := ih x.u (i + 1) h3 hr
      omega
/-- usage spread: from tier i on, behind a position, up to the last block -/
def gradF (l : Int) : Int → Int → List Tr → List Ln
  | _, _, [] => []
  | i, p, x :: r => let e := if x.u ≠ 0 then min l x.u else l
    if p < e then ⟨i, e - p, x.p⟩ :: gradF l (i + 1) e r else gradF l (i + 1) p r
/-- the document's way: each tier on its own -/
def gradR (q l : Int) : Int → Int → List Tr → List Ln
  | _, _, [] => []
  | i, v, x :: r => let lo := max q v
    let hi := if 0 < x.u then min l x.u else l
    if lo < hi then ⟨i, hi - lo, x.p⟩ :: gradR q l (i + 1) x.u r else gradR q l (i + 1) x.u r

theorem grad_same (q l : Int) (hq : 0 ≤ q) (hl : q ≤ l) : ∀ (ts : List Tr) (v i p : Int), Tiers v ts → 0 ≤ v → p = max q (min l v) → gradF l i p ts = gradR q l i v ts := by
  intro ts
  induction ts with
  | nil => intro v i p _ _ _; rfl
  | cons x r ih =>
    intro v i p h hv hp
    obtain ⟨h1, h2, h3⟩ := h
    unfold gradF gradR
    by_cases hr : r = []
    · subst hr
      simp only [if_true] at h2
      rw [h2]
      simp only [ne_eq, not_true_eq_false, if_false, Int.lt_irrefl]
      by_cases h5 : p < l
      · rw [if_pos h5, if_pos (by omega)]
        have e : p = max q v := by omega
        rw [e]
        rfl
      · rw [if_neg h5, if_neg (by omega)]
        rfl
    · rw [if_neg hr] at h2
      have hx : x.u ≠ 0 := by omega
      have hx2 : 0 < x.u := by omega
      simp only [hx, hx2, ne_eq, not_false_eq_true, if_true]
      by_cases h5 : p < min l x.u
      · rw [if_pos h5, if_pos (by omega)]
        have e : p = max q v := by omega
        rw [ih x.u (i + 1) (min l x.u) h3 (by omega) (by omega), e]
      · rw [if_neg h5, if_neg (by omega)]
        exact ih x.u (i + 1) p h3 (by omega) (by omega)
end Go.Proofs.Ytdfghdccbpnohaa.tirm
