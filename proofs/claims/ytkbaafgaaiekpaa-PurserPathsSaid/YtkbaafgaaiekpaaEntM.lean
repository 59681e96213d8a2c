/- Entries, as plain lists: what an account is, their order, what is wrong with an entry, the legs of one that is made. -/
import Derived.Shelf.SlSortCmp.Insertion
namespace Go.Proofs.Ytkbaafgaaiekpaa.entm
open Go.Sort
set_option linter.unusedVariables false

/-- a leg: its account's kind, node, group; its amount -/
structure Lg where
  k : Int
  n : Int
  g : Int
  a : Int
instance : Inhabited Lg := ⟨⟨0, 0, 0, 0⟩⟩

/-- the order of accounts -/
def cmpA (x y : Lg) : Int :=
  if x.k < y.k then -1 else if y.k < x.k then 1 else if x.n < y.n then -1 else if y.n < x.n then 1 else if x.g < y.g then -1 else if y.g < x.g then 1 else 0
def ltA (x y : Lg) : Prop := x.k < y.k ∨ x.k = y.k ∧ (x.n < y.n ∨ x.n = y.n ∧ x.g < y.g)
instance (x y : Lg) : Decidable (ltA x y) := inferInstanceAs (Decidable (_ ∨ _))

theorem cmpA_lt (x y : Lg) : cmpA x y < 0 ↔ ltA x y := by
  unfold cmpA ltA
  repeat' split
  all_goals omega
theorem ltOf_cmpA (x y : Lg) : ltOf cmpA x y = decide (ltA x y) := by
  unfold ltOf
  rw [Bool.eq_iff_iff, decide_eq_true_eq, decide_eq_true_eq]
  exact cmpA_lt x y
theorem ltA_irrefl (x : Lg) : ¬ ltA x x := by unfold ltA; omega
theorem ltA_trans {x y z : Lg} (h : ltA x y) (k : ltA y z) : ltA x z := by unfold ltA at *; omega
theorem ltA_ntrans {x y z : Lg} (h : ¬ ltA x y) (k : ¬ ltA y z) : ¬ ltA x z := by unfold ltA at *; omega
theorem ltA_asymm {x y : Lg} (h : ltA x y) : ¬ ltA y x := by unfold ltA at *; omega
theorem swoA : SWO (ltOf cmpA) where
  irrefl x := by rw [ltOf_cmpA]; simpa using ltA_irrefl x
  trans x y z h1 h2 := by rw [ltOf_cmpA] at *; simp at *; exact ltA_trans h1 h2
  ntrans x y z h1 h2 := by rw [ltOf_cmpA] at *; simp at *; exact ltA_ntrans h1 h2

/-- a node, a group, an account, an amount -/
def nodeB (n : Int) : Bool := decide (1 ≤ n) && decide (n ≤ 32)
def accB (l : Lg) : Bool :=
  if l.k = 1 then (l.n == 0) && (l.g == 0)
  else if l.k = 2 ∨ l.k = 3 ∨ l.k = 5 then nodeB l.n && (l.g == 0)
  else if l.k = 4 then nodeB l.n && (decide (1 ≤ l.g) && decide (l.g ≤ 8))
  else false
def amtB (a : Int) : Bool := !(a == 0) && (decide (-9007199254740992 ≤ a) && decide (a ≤ 9007199254740992))
def kindB (k : Int) : Bool := decide (1 ≤ k) && decide (k ≤ 6)

theorem amt_bound {a : Int} (h : amtB a = true) : -9007199254740992 ≤ a ∧ a ≤ 9007199254740992 ∧ a ≠ 0 := by
  unfold amtB at h
  simp at h
  omega

/-- what is wrong with the legs from here on: the one ahead, the sum so far -/
def chkF : Option Lg → Int → List Lg → Int
  | _, s, [] => if s = 0 then 0 else 20
  | p, s, l :: r => if accB l = false then 1 else if amtB l.a = false then 5 else if (match p with | none => false | some q => decide (¬ ltA q l)) = true then 15 else chkF (some l) (s + l.a) r
def chk (k : Int) (ls : List Lg) : Int := if kindB k = false then 21 else if ls.length < 2 ∨ 64 < ls.length then 1 else chkF none 0 ls

theorem chkF_ok : ∀ (ls : List Lg) (p : Option Lg) (s : Int), chkF p s ls = 0 ↔
    (∀ l ∈ ls, accB l = true ∧ amtB l.a = true) ∧ s + (ls.map (·.a)).sum = 0 ∧ (∀ q, p = some q → ∀ l, ls.head? = some l → ltA q l) ∧ ls.Pairwise (fun x y => ltA x y) := by
  intro ls
  induction ls with
  | nil => intro p s; unfold chkF; simp
  | cons l r ih =>
    intro p s
    unfold chkF
    by_cases h1 : accB l = true
    · by_cases h2 : amtB l.a = true
      · rw [if_neg (by rw [h1]; simp), if_neg (by rw [h2]; simp)]
        have ih' := ih (some l) (s + l.a)
        have hcons : (l :: r).Pairwise (fun x y => ltA x y) ↔ (∀ x, r.head? = some x → ltA l x) ∧ r.Pairwise (fun x y => ltA x y) := by
          rw [List.pairwise_cons]
          constructor
          · rintro ⟨a, b⟩
            exact ⟨fun x hx => a x (List.mem_of_mem_head? hx), b⟩
          · rintro ⟨a, b⟩
            refine ⟨fun x hx => ?_, b⟩
            cases r with
            | nil => cases hx
            | cons y t =>
              have hy := a y rfl
              rcases List.mem_cons.1 hx with e | e
              · rw [e]; exact hy
              · exact ltA_trans hy ((List.pairwise_cons.1 b).1 x e)
        cases p with
        | none =>
          rw [if_neg (by simp), ih', hcons]
          simp only [List.mem_cons, List.map_cons, List.sum_cons]
          constructor
          · rintro ⟨a, b, c, d⟩
            exact ⟨fun x hx => hx.elim (fun e => by rw [e]; exact ⟨h1, h2⟩) (a x), by omega, (fun q hq => by cases hq), c l rfl, d⟩
          · rintro ⟨a, b, _, c, d⟩
            exact ⟨fun x hx => a x (.inr hx), by omega, (fun q hq => by cases hq; exact c), d⟩
        | some q =>
          by_cases h3 : ltA q l
          · rw [if_neg (by simp [h3]), ih', hcons]
            simp only [List.mem_cons, List.map_cons, List.sum_cons]
            constructor
            · rintro ⟨a, b, c, d⟩
              exact ⟨fun x hx => hx.elim (fun e => by rw [e]; exact ⟨h1, h2⟩) (a x), by omega, fun q' hq l' hl => by cases hq; cases hl; exact h3, c l rfl, d⟩
            · rintro ⟨a, b, _, c, d⟩
              exact ⟨fun x hx => a x (.inr hx), by omega, (fun q hq => by cases hq; exact c), d⟩
          · rw [if_pos (by simp [h3])]
            constructor
            · intro h; cases h
            · rintro ⟨_, _, c, _⟩
              exact absurd (c q rfl l rfl) h3
      · rw [if_neg (by rw [h1]; simp), if_pos (by simpa using h2)]
        constructor
        · intro h; cases h
        · rintro ⟨a, _⟩
          exact absurd (a l (by simp)).2 h2
    · rw [if_pos (by simpa using h1)]
      constructor
      · intro h; cases h
      · rintro ⟨a, _⟩
        exact absurd (a l (by simp)).1 h1

theorem chk_ok (k : Int) (ls : List Lg) : chk k ls = 0 ↔
    kindB k = true ∧ (2 ≤ ls.length ∧ ls.length ≤ 64) ∧ (∀ l ∈ ls, accB l = true ∧ amtB l.a = true) ∧ (ls.map (·.a)).sum = 0 ∧ ls.Pairwise (fun x y => ltA x y) := by
  unfold chk
  by_cases h1 : kindB k = true
  · rw [if_neg (by rw [h1]; simp)]
    by_cases h2 : ls.length < 2 ∨ 64 < ls.length
    · rw [if_pos h2]
      constructor
      · intro h; cases h
      · rintro ⟨_, a, _⟩; omega
    · rw [if_neg h2, chkF_ok]
      constructor
      · rintro ⟨a, b, _, d⟩; exact ⟨h1, by omega, a, by omega, d⟩
      · rintro ⟨_, _, a, b, d⟩; exact ⟨a, by omega, (fun q hq => by cases hq), d⟩
  · rw [if_pos (by simpa using h1)]
    constructor
    · intro h; cases h
    · rintro ⟨a, _⟩; exact absurd a h1

/-- the sum of the debits -/
def posSum (ls : List Lg) : Int := (ls.map fun l => max l.a 0).sum
theorem sum_perm {a b : List Int} (h : a.Perm b) : a.sum = b.sum := by
  induction h with
  | nil => rfl
  | cons x _ ih => rw [List.sum_cons, List.sum_cons, ih]
  | swap x y l => simp only [List.sum_cons]; omega
  | trans _ _ h1 h2 => rw [h1, h2]
theorem posSum_perm {a b : List Lg} (h : a.Perm b) : posSum a = posSum b := by
  unfold posSum
  exact sum_perm (h.map _)
theorem posSum_cons (l : Lg) (r : List Lg) : posSum (l :: r) = max l.a 0 + posSum r := by simp [posSum]
theorem posSum_append (a b : List Lg) : posSum (a ++ b) = posSum a + posSum b := by simp [posSum]
theorem posSum_nonneg (ls : List Lg) : 0 ≤ posSum ls := by
  induction ls with
  | nil => simp [posSum]
  | cons l r ih => rw [posSum_cons]; omega
theorem posSum_le : ∀ (ls : List Lg), (∀ l ∈ ls, amtB l.a = true) → posSum ls ≤ 9007199254740992 * (ls.length : Int) := by
  intro ls
  induction ls with
  | nil => intro _; simp [posSum]
  | cons l r ih =>
    intro h
    have h1 := ih (fun x hx => h x (by simp [hx]))
    have h2 := amt_bound (h l (by simp))
    rw [posSum_cons, List.length_cons]
    omega

/-- the least int has no opposite -/
def negI (a : Int) : Int := if a = -9223372036854775808 then a else -a
def opp (ls : List Lg) : List Lg := ls.map fun l => { l with a := negI l.a }
theorem opp_len (ls : List Lg) : (opp ls).length = ls.length := by simp [opp]
theorem amt_neg (a : Int) (ha : -9223372036854775808 ≤ a ∧ a ≤ 9223372036854775807) : amtB (negI a) = amtB a := by
  unfold negI amtB
  rw [Bool.eq_iff_iff]
  split <;> simp <;> omega
theorem neg_amt {a : Int} (h : amtB a = true) : negI a = -a := by
  have := amt_bound h
  unfold negI
  rw [if_neg (by omega)]
theorem opp_sum : ∀ (ls : List Lg), (∀ l ∈ ls, amtB l.a = true) → ((opp ls).map (·.a)).sum = - (ls.map (·.a)).sum := by
  intro ls
  induction ls with
  | nil => intro _; simp [opp]
  | cons l r ih =>
    intro h
    have h1 := ih (fun x hx => h x (by simp [hx]))
    have h2 := neg_amt (h l (by simp))
    simp only [opp, List.map_cons, List.sum_cons] at h1 ⊢
    rw [h2, h1]
    omega
theorem opp_pos : ∀ (ls : List Lg), (∀ l ∈ ls, amtB l.a = true) → posSum (opp ls) = posSum ls - (ls.map (·.a)).sum := by
  intro ls
  induction ls with
  | nil => intro _; simp [opp, posSum]
  | cons l r ih =>
    intro h
    have h1 := ih (fun x hx => h x (by simp [hx]))
    have h2 := neg_amt (h l (by simp))
    have e : opp (l :: r) = { l with a := negI l.a } :: opp r := rfl
    rw [e, posSum_cons, posSum_cons, List.map_cons, List.sum_cons, h1]
    show max (negI l.a) 0 + _ = _
    rw [h2]
    omega
theorem opp_chk (k : Int) (ls : List Lg) (hr : ∀ l ∈ ls, -9223372036854775808 ≤ l.a ∧ l.a ≤ 9223372036854775807) : chk k (opp ls) = 0 ↔ chk k ls = 0 := by
  rw [chk_ok, chk_ok, opp_len]
  have hacc : ∀ l : Lg, accB { l with a := negI l.a } = accB l := fun l => rfl
  have hp : (opp ls).Pairwise (fun x y => ltA x y) ↔ ls.Pairwise (fun x y => ltA x y) := by
    unfold opp
    rw [List.pairwise_map]
    exact Iff.rfl
  have ha : (∀ l ∈ opp ls, accB l = true ∧ amtB l.a = true) ↔ (∀ l ∈ ls, accB l = true ∧ amtB l.a = true) := by
    unfold opp
    constructor
    · intro h l hl
      have := h _ (List.mem_map.2 ⟨l, hl, rfl⟩)
      rw [hacc] at this
      exact ⟨this.1, by rw [← amt_neg l.a (hr l hl)]; exact this.2⟩
    · intro h l hl
      obtain ⟨m, hm, rfl⟩ := List.mem_map.1 hl
      rw [hacc]
      exact ⟨(h m hm).1, by show amtB (negI m.a) = true; rw [amt_neg m.a (hr m hm)]; exact (h m hm).2⟩
  rw [hp, ha]
  constructor
  · rintro ⟨a, b, c, d, e⟩
    refine ⟨a, b, c, ?_, e⟩
    rw [opp_sum ls (fun l hl => (c l hl).2)] at d
    omega
  · rintro ⟨a, b, c, d, e⟩
    refine ⟨a, b, c, ?_, e⟩
    rw [opp_sum ls (fun l hl => (c l hl).2)]
    omega

/-- the legs of an entry that is made, in no order -/
def debL (kind amount n g : Int) : Lg :=
  if kind = 1 then ⟨1, 0, 0, amount⟩ else if kind = 2 then ⟨2, n, 0, amount⟩ else if kind = 3 then ⟨3, n, 0, amount⟩ else if kind = 4 then ⟨3, n, 0, amount⟩ else if kind = 5 then ⟨2, n, 0, amount⟩ else ⟨4, n, g, amount⟩
def creL (kind amount n g : Int) : Lg :=
  if kind = 1 then ⟨2, n, 0, -amount⟩ else if kind = 2 then ⟨3, n, 0, -amount⟩ else if kind = 3 then ⟨2, n, 0, -amount⟩ else if kind = 4 then ⟨4, n, g, -amount⟩ else if kind = 5 then ⟨5, n, 0, -amount⟩ else ⟨2, n, 0, -amount⟩
def nodeL (kind amount g n : Int) : List Lg := if kind = 1 then [creL kind amount n g] else [debL kind amount n g, creL kind amount n g]
def rawN (kind amount g : Int) (path : List Int) : List Lg := path.flatMap (nodeL kind amount g)
def rawL (kind amount g : Int) (path : List Int) : List Lg := (if kind = 1 then [⟨1, 0, 0, amount * path.length⟩] else []) ++ rawN kind amount g path

theorem debL_a (kind amount n g : Int) : (debL kind amount n g).a = amount := by unfold debL; repeat' split
                                                                                 all_goals rfl
theorem creL_a (kind amount n g : Int) : (creL kind amount n g).a = -amount := by unfold creL; repeat' split
                                                                                  all_goals rfl
theorem debL_eq (kind amount n g : Int) : debL kind amount n g = ⟨(debL kind 0 n g).k, (debL kind 0 n g).n, (debL kind 0 n g).g, amount⟩ := by
  unfold debL
  repeat' split
  all_goals rfl
theorem creL_eq (kind amount n g : Int) : creL kind amount n g = ⟨(creL kind 0 n g).k, (creL kind 0 n g).n, (creL kind 0 n g).g, -amount⟩ := by
  unfold creL
  repeat' split
  all_goals rfl
theorem rawN_pos (kind amount g : Int) (h : 0 ≤ amount) : ∀ path : List Int, posSum (rawN kind amount g path) = if kind = 1 then 0 else amount * path.length := by
  intro path
  induction path with
  | nil => simp [rawN, posSum]
  | cons n r ih =>
    have e : rawN kind amount g (n :: r) = nodeL kind amount g n ++ rawN kind amount g r := by simp [rawN]
    rw [e, posSum_append, ih, List.length_cons]
    unfold nodeL
    split
    · rw [posSum_cons, creL_a]; simp [posSum]; omega
    · rw [posSum_cons, posSum_cons, creL_a, debL_a]
      simp [posSum]
      rw [Int.mul_add]
      omega
theorem rawL_pos (kind amount g : Int) (path : List Int) (h : 0 ≤ amount) : posSum (rawL kind amount g path) = amount * path.length := by
  unfold rawL
  rw [posSum_append, rawN_pos kind amount g h]
  have : 0 ≤ amount * (path.length : Int) := Int.mul_nonneg h (by omega)
  split
  · rw [posSum_cons]; simp [posSum]; omega
  · simp [posSum]
end Go.Proofs.Ytkbaafgaaiekpaa.entm
