/- Several texts together: EntM, EntOm. -/
import Derived.Shelf.SlSortCmp.Insertion
namespace Go.Proofs.YtkbaafgaaiekpaaGreat.entm
open Go.Sort
set_option linter.unusedVariables false
structure Lg where
  k : Int
  n : Int
  g : Int
  a : Int
instance : Inhabited Lg := ⟨⟨0, 0, 0, 0⟩⟩
def cmpA (x y : Lg) : Int :=
  if x.k < y.k then -1 else if y.k < x.k then 1 else if x.n < y.n then -1 else if y.n < x.n then 1 else if x.g < y.g then -1 else if y.g < x.g then 1 else 0
def ltA (x y : Lg) : Prop := x.k < y.k ∨ x.k = y.k ∧ (x.n < y.n ∨ x.n = y.n ∧ x.g < y.g)
instance (x y : Lg) : Decidable (ltA x y) := inferInstanceAs (Decidable (_ ∨ _))
theorem cmpA_lt (x y : Lg) : cmpA x y < 0 ↔ ltA x y := by
  unfold cmpA ltA
  repeat' split
  all_goals omega
theorem ltOf_cmpA (x y : Lg) : ltOf cmpA x y = decide (ltA x y) := by
  unfold ltOf; rw [Bool.eq_iff_iff, decide_eq_true_eq, decide_eq_true_eq]; exact cmpA_lt x y
theorem ltA_irrefl (x : Lg) : ¬ ltA x x := by unfold ltA; omega
theorem ltA_trans {x y z : Lg} (h : ltA x y) (k : ltA y z) : ltA x z := by unfold ltA at *; omega
theorem ltA_ntrans {x y z : Lg} (h : ¬ ltA x y) (k : ¬ ltA y z) : ¬ ltA x z := by unfold ltA at *; omega
theorem ltA_asymm {x y : Lg} (h : ltA x y) : ¬ ltA y x := by unfold ltA at *; omega
theorem swoA : SWO (ltOf cmpA) where
  irrefl x := by rw [ltOf_cmpA]; simpa using ltA_irrefl x
  trans x y z h1 h2 := by rw [ltOf_cmpA] at *; simp at *; exact ltA_trans h1 h2
  ntrans x y z h1 h2 := by rw [ltOf_cmpA] at *; simp at *; exact ltA_ntrans h1 h2
def nodeB (n : Int) : Bool := decide (1 ≤ n) && decide (n ≤ 32)
def accB (l : Lg) : Bool :=
  if l.k = 1 then (l.n == 0) && (l.g == 0)
  else if l.k = 2 ∨ l.k = 3 ∨ l.k = 5 then nodeB l.n && (l.g == 0)
  else if l.k = 4 then nodeB l.n && (decide (1 ≤ l.g) && decide (l.g ≤ 8))
  else false
def amtB (a : Int) : Bool := !(a == 0) && (decide (-9007199254740992 ≤ a) && decide (a ≤ 9007199254740992))
def kindB (k : Int) : Bool := decide (1 ≤ k) && decide (k ≤ 6)
theorem amt_bound {a : Int} (h : amtB a = true) : -9007199254740992 ≤ a ∧ a ≤ 9007199254740992 ∧ a ≠ 0 := by
  unfold amtB at h; simp at h; omega
def chkF : Option Lg → Int → List Lg → Int
  | _, s, [] => if s = 0 then 0 else 20
  | p, s, l :: r => if accB l = false then 1 else if amtB l.a = false then 5 else if (match p with | none => false | some q => decide (¬ ltA q l)) = true then 15 else chkF (some l) (s + l.a) r
def chk (k : Int) (ls : List Lg) : Int := if kindB k = false then 21 else if ls.length < 2 ∨ 64 < ls.length then 1 else chkF none 0 ls
theorem chkF_ok : ∀ (ls : List Lg) (p : Option Lg) (s : Int), chkF p s ls = 0 ↔
    (∀ l ∈ ls, accB l = true ∧ amtB l.a = true) ∧ s + (ls.map (·.a)).sum = 0 ∧ (∀ q, p = some q → ∀ l, ls.head? = some l → ltA q l) ∧ ls.Pairwise (fun x y => ltA x y) := by
  intro ls
  induction ls with
  | nil => intro p s; unfold chkF; simp
  | cons l r ih =>
    intro p s; unfold chkF
    by_cases h1 : accB l = true
    · by_cases h2 : amtB l.a = true
      · rw [if_neg (by rw [h1]; simp), if_neg (by rw [h2]; simp)]; have ih' := ih (some l) (s + l.a); have hcons : (l :: r).Pairwise (fun x y => ltA x y) ↔ (∀ x, r.head? = some x → ltA l x) ∧ r.Pairwise (fun x y => ltA x y) := by
          rw [List.pairwise_cons]
          constructor
          · rintro ⟨a, b⟩; exact ⟨fun x hx => a x (List.mem_of_mem_head? hx), b⟩
          · rintro ⟨a, b⟩; refine ⟨fun x hx => ?_, b⟩
            cases r with
            | nil => cases hx
            | cons y t =>
              have hy := a y rfl; rcases List.mem_cons.1 hx with e | e
              · rw [e]; exact hy
              · exact ltA_trans hy ((List.pairwise_cons.1 b).1 x e)
        cases p with
        | none =>
          rw [if_neg (by simp), ih', hcons]; simp only [List.mem_cons, List.map_cons, List.sum_cons]
          constructor
          · rintro ⟨a, b, c, d⟩; exact ⟨fun x hx => hx.elim (fun e => by rw [e]; exact ⟨h1, h2⟩) (a x), by omega, (fun q hq => by cases hq), c l rfl, d⟩
          · rintro ⟨a, b, _, c, d⟩; exact ⟨fun x hx => a x (.inr hx), by omega, (fun q hq => by cases hq; exact c), d⟩
        | some q =>
          by_cases h3 : ltA q l
          · rw [if_neg (by simp [h3]), ih', hcons]; simp only [List.mem_cons, List.map_cons, List.sum_cons]
            constructor
            · rintro ⟨a, b, c, d⟩; exact ⟨fun x hx => hx.elim (fun e => by rw [e]; exact ⟨h1, h2⟩) (a x), by omega, fun q' hq l' hl => by cases hq; cases hl; exact h3, c l rfl, d⟩
            · rintro ⟨a, b, _, c, d⟩; exact ⟨fun x hx => a x (.inr hx), by omega, (fun q hq => by cases hq; exact c), d⟩
          · rw [if_pos (by simp [h3])]
            constructor
            · intro h; cases h
            · rintro ⟨_, _, c, _⟩; exact absurd (c q rfl l rfl) h3
      · rw [if_neg (by rw [h1]; simp), if_pos (by simpa using h2)]
        constructor
        · intro h; cases h
        · rintro ⟨a, _⟩; exact absurd (a l (by simp)).2 h2
    · rw [if_pos (by simpa using h1)]
      constructor
      · intro h; cases h
      · rintro ⟨a, _⟩; exact absurd (a l (by simp)).1 h1
theorem chk_ok (k : Int) (ls : List Lg) : chk k ls = 0 ↔
    kindB k = true ∧ (2 ≤ ls.length ∧ ls.length ≤ 64) ∧ (∀ l ∈ ls, accB l = true ∧ amtB l.a = true) ∧ (ls.map (·.a)).sum = 0 ∧ ls.Pairwise (fun x y => ltA x y) := by
  unfold chk
  by_cases h1 : kindB k = true
  · rw [if_neg (by rw [h1]; simp)]
    by_cases h2 : ls.length < 2 ∨ 64 < ls.length
    · rw [if_pos h2]
      constructor
      · intro h; cases h
      · rintro ⟨_, a, _⟩; omega
    · rw [if_neg h2, chkF_ok]
      constructor
      · rintro ⟨a, b, _, d⟩; exact ⟨h1, by omega, a, by omega, d⟩
      · rintro ⟨_, _, a, b, d⟩; exact ⟨a, by omega, (fun q hq => by cases hq), d⟩
  · rw [if_pos (by simpa using h1)]
    constructor
    · intro h; cases h
    · rintro ⟨a, _⟩; exact absurd a h1
theorem sum_perm {a b : List Int} (h : a.Perm b) : a.sum = b.sum := by
  induction h with
  | nil => rfl
  | cons x _ ih => rw [List.sum_cons, List.sum_cons, ih]
  | swap x y l => simp only [List.sum_cons]; omega
  | trans _ _ h1 h2 => rw [h1, h2]
def negI (a : Int) : Int := if a = -9223372036854775808 then a else -a
def opp (ls : List Lg) : List Lg := ls.map fun l => { l with a := negI l.a }
theorem opp_len (ls : List Lg) : (opp ls).length = ls.length := by simp [opp]
def debL (kind amount n g : Int) : Lg :=
  if kind = 1 then ⟨1, 0, 0, amount⟩ else if kind = 2 then ⟨2, n, 0, amount⟩ else if kind = 3 then ⟨3, n, 0, amount⟩ else if kind = 4 then ⟨3, n, 0, amount⟩ else if kind = 5 then ⟨2, n, 0, amount⟩ else ⟨4, n, g, amount⟩
def creL (kind amount n g : Int) : Lg :=
  if kind = 1 then ⟨2, n, 0, -amount⟩ else if kind = 2 then ⟨3, n, 0, -amount⟩ else if kind = 3 then ⟨2, n, 0, -amount⟩ else if kind = 4 then ⟨4, n, g, -amount⟩ else if kind = 5 then ⟨5, n, 0, -amount⟩ else ⟨2, n, 0, -amount⟩
def nodeL (kind amount g n : Int) : List Lg := if kind = 1 then [creL kind amount n g] else [debL kind amount n g, creL kind amount n g]
def rawN (kind amount g : Int) (path : List Int) : List Lg := path.flatMap (nodeL kind amount g)
def rawL (kind amount g : Int) (path : List Int) : List Lg := (if kind = 1 then [⟨1, 0, 0, amount * path.length⟩] else []) ++ rawN kind amount g path
theorem debL_a (kind amount n g : Int) : (debL kind amount n g).a = amount := by unfold debL; repeat' split
                                                                                 all_goals rfl
theorem creL_a (kind amount n g : Int) : (creL kind amount n g).a = -amount := by unfold creL; repeat' split
                                                                                  all_goals rfl
theorem debL_eq (kind amount n g : Int) : debL kind amount n g = ⟨(debL kind 0 n g).k, (debL kind 0 n g).n, (debL kind 0 n g).g, amount⟩ := by
  unfold debL
  repeat' split
  all_goals rfl
theorem creL_eq (kind amount n g : Int) : creL kind amount n g = ⟨(creL kind 0 n g).k, (creL kind 0 n g).n, (creL kind 0 n g).g, -amount⟩ := by
  unfold creL
  repeat' split
  all_goals rfl
theorem rawN_cons (k m g n : Int) (r : List Int) : rawN k m g (n :: r) = nodeL k m g n ++ rawN k m g r := by simp [rawN]
theorem rawL_ne {k m g : Int} {p : List Int} (h : ¬ k = 1) : rawL k m g p = rawN k m g p := by unfold rawL; rw [if_neg h]; rfl
theorem rawN_len {k m g : Int} (h : ¬ k = 1) : ∀ p : List Int, (rawN k m g p).length = 2 * p.length := by
  intro p
  induction p with
  | nil => rfl
  | cons n r ih => rw [rawN_cons, List.length_append, ih]; unfold nodeL; rw [if_neg h]; simp; omega
theorem rawN_mem {k m g : Int} {p : List Int} {x : Lg} (h : ¬ k = 1) (hx : x ∈ rawN k m g p) : ∃ n ∈ p, x = debL k m n g ∨ x = creL k m n g := by
  unfold rawN at hx; obtain ⟨n, hn, hx⟩ := List.mem_flatMap.1 hx; unfold nodeL at hx; rw [if_neg h] at hx; simp at hx; exact ⟨n, hn, hx⟩
theorem deb_n {k m n g : Int} (h : ¬ k = 1) : (debL k m n g).n = n := by
  unfold debL; rw [if_neg h]; repeat' split
  all_goals rfl
theorem cre_n {k m n g : Int} : (creL k m n g).n = n := by
  unfold creL; repeat' split
  all_goals rfl
theorem rawN_nodup {k m g : Int} (h : ¬ k = 1) (hm : 1 ≤ m) : ∀ p : List Int, p.Nodup → (rawN k m g p).Nodup := by
  intro p
  induction p with
  | nil => intro _; exact List.nodup_nil
  | cons n r ih =>
    intro hp; obtain ⟨h1, h2⟩ := List.nodup_cons.1 hp; rw [rawN_cons, List.nodup_append]; refine ⟨?_, ih h2, ?_⟩
    · unfold nodeL; rw [if_neg h]; refine List.nodup_cons.2 ⟨?_, by simp⟩; intro e; have e1 : (debL k m n g).a = (creL k m n g).a := (by rw [List.mem_singleton.1 e]); rw [debL_a, creL_a] at e1; omega
    · intro x hx y hy e; obtain ⟨n', hn', hy⟩ := rawN_mem h hy; have hyn : y.n = n' := (by rcases hy with rfl | rfl; exact deb_n h; exact cre_n); have hxn : x.n = n := by
        unfold nodeL at hx; rw [if_neg h] at hx; simp at hx; rcases hx with rfl | rfl; exact deb_n h; exact cre_n
      rw [e, hyn] at hxn; exact h1 (hxn ▸ hn')
theorem strict_of {raw ls : List Lg} (hp : ls.Perm raw) (hs : ls.Pairwise (fun x y => ¬ ltA y x)) (hn : raw.Nodup) (h1 : ∀ x ∈ raw, ∀ y ∈ raw, x.k = y.k → x.n = y.n → x.g = y.g → x = y) : ls.Pairwise (fun x y => ltA x y) := by
  have hn' : ls.Nodup := hp.nodup_iff.2 hn; refine (hs.and hn').imp_of_mem (fun {x y} hx hy hxy => ?_); obtain ⟨a, b⟩ := hxy
  by_cases c : ltA x y
  · exact c
  · refine absurd (h1 x (hp.mem_iff.1 hx) y (hp.mem_iff.1 hy) ?_ ?_ ?_) b
    all_goals (unfold ltA at a c; omega)
theorem chkF_bad : ∀ (ls : List Lg) (p : Option Lg) (s : Int), (∀ l ∈ ls, amtB l.a = true) → (∀ q, p = some q → ∀ l, ls.head? = some l → ltA q l) → ls.Pairwise (fun x y => ltA x y) → (∃ l ∈ ls, accB l = false) → chkF p s ls = 1 := by
  intro ls
  induction ls with
  | nil => intro p s _ _ _ ⟨l, hl, _⟩; cases hl
  | cons l r ih =>
    intro p s ha hh hp hb; unfold chkF
    by_cases h1 : accB l = false
    · rw [if_pos h1]
    · rw [if_neg h1, if_neg (by rw [ha l (by simp)]; simp)]; obtain ⟨p1, p2⟩ := List.pairwise_cons.1 hp; have hrest : chkF (some l) (s + l.a) r = 1 := by
        refine ih (some l) (s + l.a) (fun x hx => ha x (by simp [hx])) (fun q hq x hx => ?_) p2 ?_
        · cases hq; exact p1 x (List.mem_of_mem_head? hx)
        · obtain ⟨x, hx, hxb⟩ := hb; rcases List.mem_cons.1 hx with e | e
          · exact absurd (e ▸ hxb) h1
          · exact ⟨x, e, hxb⟩
      cases p with
      | none => rw [if_neg (by simp)]; exact hrest
      | some q => rw [if_neg (by simp [hh q rfl l rfl])]; exact hrest
def okG (k g : Int) : Prop := k = 2 ∨ k = 3 ∨ (1 ≤ g ∧ g ≤ 8)
instance (k g : Int) : Decidable (okG k g) := inferInstanceAs (Decidable (_ ∨ _))
theorem amt_of {m : Int} (h1 : 1 ≤ m) (h2 : m ≤ 9007199254740992) : amtB m = true ∧ amtB (-m) = true := by
  unfold amtB; simp; omega
theorem rawN_amt {k m g : Int} {p : List Int} (h : ¬ k = 1) (h1 : 1 ≤ m) (h2 : m ≤ 9007199254740992) : ∀ x ∈ rawN k m g p, amtB x.a = true := by
  intro x hx; obtain ⟨n, _, rfl | rfl⟩ := rawN_mem h hx
  · rw [debL_a]; exact (amt_of h1 h2).1
  · rw [creL_a]; exact (amt_of h1 h2).2
theorem rawN_sum {k m g : Int} (h : ¬ k = 1) : ∀ p : List Int, ((rawN k m g p).map (·.a)).sum = 0 := by
  intro p
  induction p with
  | nil => rfl
  | cons n r ih =>
    rw [rawN_cons, List.map_append, List.sum_append, ih]; unfold nodeL; rw [if_neg h]; simp [debL_a, creL_a]; omega
def isK (k : Int) : Prop := k = 2 ∨ k = 3 ∨ k = 4 ∨ k = 6
theorem raw_chk {k m g : Int} {p : List Int} {ls : List Lg} (hk : isK k) (h1 : 1 ≤ m) (h2 : m ≤ 9007199254740992) (hn : p.Nodup) (hl : 1 ≤ p.length ∧ p.length ≤ 32)
    (hpm : ls.Perm (rawL k m g p)) (hs : ls.Pairwise (fun x y => ¬ ltA y x)) (h3 : ∀ x ∈ rawL k m g p, ∀ y ∈ rawL k m g p, x.k = y.k → x.n = y.n → x.g = y.g → x = y) :
    chk k ls = if (∀ n ∈ p, 1 ≤ n ∧ n ≤ 32) ∧ okG k g then 0 else 1 := by
  have hk1 : ¬ k = 1 := (by unfold isK at hk; omega); have hkb : kindB k = true := (by unfold kindB isK at *; simp; omega); rw [rawL_ne hk1] at hpm h3; have hst := strict_of hpm hs (rawN_nodup hk1 h1 p hn) h3; have hlen : ls.length = 2 * p.length := (by rw [hpm.length_eq, rawN_len hk1]); have hamt : ∀ l ∈ ls, amtB l.a = true := fun l hl => rawN_amt hk1 h1 h2 l (hpm.mem_iff.1 hl); split
  · rename_i hg
    obtain ⟨hp, hg⟩ := hg; refine (chk_ok k ls).2 ⟨hkb, by omega, fun l hl => ⟨?_, hamt l hl⟩, ?_, hst⟩
    · obtain ⟨n, hn, hx⟩ := rawN_mem hk1 (hpm.mem_iff.1 hl); have hnn := hp n hn; unfold okG at hg; rcases hk with rfl | rfl | rfl | rfl <;> rcases hx with rfl | rfl <;> simp [debL, creL, accB, nodeB] <;> omega
    · rw [sum_perm (hpm.map _), rawN_sum hk1]
  · rename_i hg
    unfold chk; rw [if_neg (by rw [hkb]; simp), if_neg (by omega)]; refine chkF_bad ls none 0 hamt (fun q hq => by cases hq) hst ?_; have hin : ∀ n ∈ p, debL k m n g ∈ ls ∧ creL k m n g ∈ ls := by
      intro n hn
      constructor
      all_goals
        refine hpm.mem_iff.2 ?_; unfold rawN; refine List.mem_flatMap.2 ⟨n, hn, ?_⟩; unfold nodeL; rw [if_neg hk1]; simp
    by_cases hp : ∀ n ∈ p, 1 ≤ n ∧ n ≤ 32
    · have hg2 : ¬ okG k g := fun h => hg ⟨hp, h⟩; obtain ⟨n, hn⟩ : ∃ n, n ∈ p := by
        cases p with
        | nil => simp at hl
        | cons n r => exact ⟨n, by simp⟩
      have hk46 : k = 4 ∨ k = 6 := (by unfold okG at hg2; unfold isK at hk; omega); have hgg : ¬ (1 ≤ g ∧ g ≤ 8) := fun h => hg2 (.inr (.inr h)); have hacc : ∀ a : Int, accB ⟨4, n, g, a⟩ = false := by
        intro a; simp [accB]; intro _ h; omega
      obtain ⟨i1, i2⟩ := hin n hn; rcases hk46 with rfl | rfl
      · exact ⟨_, i2, hacc _⟩
      · exact ⟨_, i1, hacc _⟩
    · obtain ⟨n, hn⟩ := Classical.not_forall.1 hp; obtain ⟨hn, hb⟩ := Classical.not_imp.1 hn; have hnb : nodeB n = false := by
        unfold nodeB; simp; omega
      have hacc : ∀ j g a : Int, j = 2 ∨ j = 3 → accB ⟨j, n, g, a⟩ = false := by
        intro j g a hj; rcases hj with rfl | rfl <;> simp [accB, hnb]
      obtain ⟨i1, i2⟩ := hin n hn; rcases hk with rfl | rfl | rfl | rfl
      · exact ⟨_, i1, hacc _ _ _ (.inl rfl)⟩
      · exact ⟨_, i1, hacc _ _ _ (.inr rfl)⟩
      · exact ⟨_, i1, hacc _ _ _ (.inr rfl)⟩
      · exact ⟨_, i2, hacc _ _ _ (.inl rfl)⟩
def atS (k n g : Int) (ls : List Lg) : Int := (ls.map fun l => if l.k = k ∧ l.n = n ∧ l.g = g then l.a else 0).sum
theorem atS_perm {a b : List Lg} (k n g : Int) (h : a.Perm b) : atS k n g a = atS k n g b := sum_perm (h.map _)
end Go.Proofs.YtkbaafgaaiekpaaGreat.entm
