/- Entries, as lists: a hold's, a commit's and a refund's legs come to nought together; which of them are taken; a release is a hold turned. -/
import Derived.Test.YtkbaafgaaiekpaaEntM
namespace Go.Proofs.Ytkbaafgaaiekpaa.entm
open Go.Sort
set_option linter.unusedVariables false

theorem rawN_cons (k m g n : Int) (r : List Int) : rawN k m g (n :: r) = nodeL k m g n ++ rawN k m g r := by simp [rawN]
theorem rawL_ne {k m g : Int} {p : List Int} (h : ¬ k = 1) : rawL k m g p = rawN k m g p := by unfold rawL; rw [if_neg h]; rfl
theorem rawN_len {k m g : Int} (h : ¬ k = 1) : ∀ p : List Int, (rawN k m g p).length = 2 * p.length := by
  intro p
  induction p with
  | nil => rfl
  | cons n r ih => rw [rawN_cons, List.length_append, ih]; unfold nodeL; rw [if_neg h]; simp; omega

/-- what a leg of a node is -/
theorem rawN_mem {k m g : Int} {p : List Int} {x : Lg} (h : ¬ k = 1) (hx : x ∈ rawN k m g p) : ∃ n ∈ p, x = debL k m n g ∨ x = creL k m n g := by
  unfold rawN at hx
  obtain ⟨n, hn, hx⟩ := List.mem_flatMap.1 hx
  unfold nodeL at hx
  rw [if_neg h] at hx
  simp at hx
  exact ⟨n, hn, hx⟩
theorem deb_n {k m n g : Int} (h : ¬ k = 1) : (debL k m n g).n = n := by
  unfold debL; rw [if_neg h]; repeat' split
  all_goals rfl
theorem cre_n {k m n g : Int} : (creL k m n g).n = n := by
  unfold creL; repeat' split
  all_goals rfl
theorem rawN_nodup {k m g : Int} (h : ¬ k = 1) (hm : 1 ≤ m) : ∀ p : List Int, p.Nodup → (rawN k m g p).Nodup := by
  intro p
  induction p with
  | nil => intro _; exact List.nodup_nil
  | cons n r ih =>
    intro hp
    obtain ⟨h1, h2⟩ := List.nodup_cons.1 hp
    rw [rawN_cons, List.nodup_append]
    refine ⟨?_, ih h2, ?_⟩
    · unfold nodeL
      rw [if_neg h]
      refine List.nodup_cons.2 ⟨?_, by simp⟩
      intro e
      have e1 : (debL k m n g).a = (creL k m n g).a := by rw [List.mem_singleton.1 e]
      rw [debL_a, creL_a] at e1
      omega
    · intro x hx y hy e
      obtain ⟨n', hn', hy⟩ := rawN_mem h hy
      have hyn : y.n = n' := by rcases hy with rfl | rfl; exact deb_n h; exact cre_n
      have hxn : x.n = n := by
        unfold nodeL at hx
        rw [if_neg h] at hx
        simp at hx
        rcases hx with rfl | rfl; exact deb_n h; exact cre_n
      rw [e, hyn] at hxn
      exact h1 (hxn ▸ hn')

/-- sorted, and no two alike: strictly -/
theorem strict_of {raw ls : List Lg} (hp : ls.Perm raw) (hs : ls.Pairwise (fun x y => ¬ ltA y x)) (hn : raw.Nodup) (h1 : ∀ x ∈ raw, ∀ y ∈ raw, x.k = y.k → x.n = y.n → x.g = y.g → x = y) : ls.Pairwise (fun x y => ltA x y) := by
  have hn' : ls.Nodup := hp.nodup_iff.2 hn
  refine (hs.and hn').imp_of_mem (fun {x y} hx hy hxy => ?_)
  obtain ⟨a, b⟩ := hxy
  by_cases c : ltA x y
  · exact c
  · refine absurd (h1 x (hp.mem_iff.1 hx) y (hp.mem_iff.1 hy) ?_ ?_ ?_) b
    all_goals (unfold ltA at a c; omega)

theorem chkF_bad : ∀ (ls : List Lg) (p : Option Lg) (s : Int), (∀ l ∈ ls, amtB l.a = true) → (∀ q, p = some q → ∀ l, ls.head? = some l → ltA q l) → ls.Pairwise (fun x y => ltA x y) → (∃ l ∈ ls, accB l = false) → chkF p s ls = 1 := by
  intro ls
  induction ls with
  | nil => intro p s _ _ _ ⟨l, hl, _⟩; cases hl
  | cons l r ih =>
    intro p s ha hh hp hb
    unfold chkF
    by_cases h1 : accB l = false
    · rw [if_pos h1]
    · rw [if_neg h1, if_neg (by rw [ha l (by simp)]; simp)]
      obtain ⟨p1, p2⟩ := List.pairwise_cons.1 hp
      have hrest : chkF (some l) (s + l.a) r = 1 := by
        refine ih (some l) (s + l.a) (fun x hx => ha x (by simp [hx])) (fun q hq x hx => ?_) p2 ?_
        · cases hq; exact p1 x (List.mem_of_mem_head? hx)
        · obtain ⟨x, hx, hxb⟩ := hb
          rcases List.mem_cons.1 hx with e | e
          · exact absurd (e ▸ hxb) h1
          · exact ⟨x, e, hxb⟩
      cases p with
      | none => rw [if_neg (by simp)]; exact hrest
      | some q => rw [if_neg (by simp [hh q rfl l rfl])]; exact hrest

def okG (k g : Int) : Prop := k = 2 ∨ k = 3 ∨ (1 ≤ g ∧ g ≤ 8)
instance (k g : Int) : Decidable (okG k g) := inferInstanceAs (Decidable (_ ∨ _))

theorem amt_of {m : Int} (h1 : 1 ≤ m) (h2 : m ≤ 9007199254740992) : amtB m = true ∧ amtB (-m) = true := by
  unfold amtB; simp; omega

theorem rawN_amt {k m g : Int} {p : List Int} (h : ¬ k = 1) (h1 : 1 ≤ m) (h2 : m ≤ 9007199254740992) : ∀ x ∈ rawN k m g p, amtB x.a = true := by
  intro x hx
  obtain ⟨n, _, rfl | rfl⟩ := rawN_mem h hx
  · rw [debL_a]; exact (amt_of h1 h2).1
  · rw [creL_a]; exact (amt_of h1 h2).2

theorem rawN_sum {k m g : Int} (h : ¬ k = 1) : ∀ p : List Int, ((rawN k m g p).map (·.a)).sum = 0 := by
  intro p
  induction p with
  | nil => rfl
  | cons n r ih =>
    rw [rawN_cons, List.map_append, List.sum_append, ih]
    unfold nodeL
    rw [if_neg h]
    simp [debL_a, creL_a]
    omega

def isK (k : Int) : Prop := k = 2 ∨ k = 3 ∨ k = 4 ∨ k = 6

/-- which are taken -/
theorem raw_chk {k m g : Int} {p : List Int} {ls : List Lg} (hk : isK k) (h1 : 1 ≤ m) (h2 : m ≤ 9007199254740992) (hn : p.Nodup) (hl : 1 ≤ p.length ∧ p.length ≤ 32)
    (hpm : ls.Perm (rawL k m g p)) (hs : ls.Pairwise (fun x y => ¬ ltA y x)) (h3 : ∀ x ∈ rawL k m g p, ∀ y ∈ rawL k m g p, x.k = y.k → x.n = y.n → x.g = y.g → x = y) :
    chk k ls = if (∀ n ∈ p, 1 ≤ n ∧ n ≤ 32) ∧ okG k g then 0 else 1 := by
  have hk1 : ¬ k = 1 := by unfold isK at hk; omega
  have hkb : kindB k = true := by unfold kindB isK at *; simp; omega
  rw [rawL_ne hk1] at hpm h3
  have hst := strict_of hpm hs (rawN_nodup hk1 h1 p hn) h3
  have hlen : ls.length = 2 * p.length := by rw [hpm.length_eq, rawN_len hk1]
  have hamt : ∀ l ∈ ls, amtB l.a = true := fun l hl => rawN_amt hk1 h1 h2 l (hpm.mem_iff.1 hl)
  split
  · rename_i hg
    obtain ⟨hp, hg⟩ := hg
    refine (chk_ok k ls).2 ⟨hkb, by omega, fun l hl => ⟨?_, hamt l hl⟩, ?_, hst⟩
    · obtain ⟨n, hn, hx⟩ := rawN_mem hk1 (hpm.mem_iff.1 hl)
      have hnn := hp n hn
      unfold okG at hg
      rcases hk with rfl | rfl | rfl | rfl <;> rcases hx with rfl | rfl <;> simp [debL, creL, accB, nodeB] <;> omega
    · rw [sum_perm (hpm.map _), rawN_sum hk1]
  · rename_i hg
    unfold chk
    rw [if_neg (by rw [hkb]; simp), if_neg (by omega)]
    refine chkF_bad ls none 0 hamt (fun q hq => by cases hq) hst ?_
    have hin : ∀ n ∈ p, debL k m n g ∈ ls ∧ creL k m n g ∈ ls := by
      intro n hn
      constructor
      all_goals
        refine hpm.mem_iff.2 ?_
        unfold rawN
        refine List.mem_flatMap.2 ⟨n, hn, ?_⟩
        unfold nodeL
        rw [if_neg hk1]
        simp
    by_cases hp : ∀ n ∈ p, 1 ≤ n ∧ n ≤ 32
    · have hg2 : ¬ okG k g := fun h => hg ⟨hp, h⟩
      obtain ⟨n, hn⟩ : ∃ n, n ∈ p := by
        cases p with
        | nil => simp at hl
        | cons n r => exact ⟨n, by simp⟩
      have hk46 : k = 4 ∨ k = 6 := by unfold okG at hg2; unfold isK at hk; omega
      have hgg : ¬ (1 ≤ g ∧ g ≤ 8) := fun h => hg2 (.inr (.inr h))
      have hacc : ∀ a : Int, accB ⟨4, n, g, a⟩ = false := by
        intro a
        simp [accB]
        intro _ h
        omega
      obtain ⟨i1, i2⟩ := hin n hn
      rcases hk46 with rfl | rfl
      · exact ⟨_, i2, hacc _⟩
      · exact ⟨_, i1, hacc _⟩
    · obtain ⟨n, hn⟩ := Classical.not_forall.1 hp
      obtain ⟨hn, hb⟩ := Classical.not_imp.1 hn
      have hnb : nodeB n = false := by
        unfold nodeB
        simp
        omega
      have hacc : ∀ j g a : Int, j = 2 ∨ j = 3 → accB ⟨j, n, g, a⟩ = false := by
        intro j g a hj
        rcases hj with rfl | rfl <;> simp [accB, hnb]
      obtain ⟨i1, i2⟩ := hin n hn
      rcases hk with rfl | rfl | rfl | rfl
      · exact ⟨_, i1, hacc _ _ _ (.inl rfl)⟩
      · exact ⟨_, i1, hacc _ _ _ (.inr rfl)⟩
      · exact ⟨_, i1, hacc _ _ _ (.inr rfl)⟩
      · exact ⟨_, i2, hacc _ _ _ (.inl rfl)⟩

/-- what comes to an account -/
def atS (k n g : Int) (ls : List Lg) : Int := (ls.map fun l => if l.k = k ∧ l.n = n ∧ l.g = g then l.a else 0).sum
theorem atS_perm {a b : List Lg} (k n g : Int) (h : a.Perm b) : atS k n g a = atS k n g b := sum_perm (h.map _)
theorem atS_append (a b : List Lg) (k n g : Int) : atS k n g (a ++ b) = atS k n g a + atS k n g b := by simp [atS]
theorem atS_snoc (a : List Lg) (l : Lg) (k n g : Int) : atS k n g (a ++ [l]) = atS k n g a + if l.k = k ∧ l.n = n ∧ l.g = g then l.a else 0 := by simp [atS]
theorem atS_bound (k n g : Int) : ∀ ls : List Lg, (∀ l ∈ ls, amtB l.a = true) → -(9007199254740992 * (ls.length : Int)) ≤ atS k n g ls ∧ atS k n g ls ≤ 9007199254740992 * (ls.length : Int) := by
  intro ls
  induction ls with
  | nil => intro _; simp [atS]
  | cons l r ih =>
    intro h
    have h1 := ih (fun x hx => h x (by simp [hx]))
    have h2 := amt_bound (h l (by simp))
    have e : atS k n g (l :: r) = (if l.k = k ∧ l.n = n ∧ l.g = g then l.a else 0) + atS k n g r := by simp [atS]
    rw [e, List.length_cons]
    split <;> omega
theorem all_nought (m gr k n g : Int) : ∀ p : List Int, atS k n g (rawN 2 m 0 p) + atS k n g (rawN 4 m gr p) + atS k n g (rawN 6 m gr p) = 0 := by
  intro p
  induction p with
  | nil => rfl
  | cons x r ih =>
    have e2 : nodeL 2 m 0 x = [⟨2, x, 0, m⟩, ⟨3, x, 0, -m⟩] := rfl
    have e4 : nodeL 4 m gr x = [⟨3, x, 0, m⟩, ⟨4, x, gr, -m⟩] := rfl
    have e6 : nodeL 6 m gr x = [⟨4, x, gr, m⟩, ⟨2, x, 0, -m⟩] := rfl
    simp only [rawN_cons, atS_append, e2, e4, e6]
    have d2 : atS k n g [⟨2, x, 0, m⟩, ⟨3, x, 0, -m⟩] = (if 2 = k ∧ x = n ∧ 0 = g then m else 0) + (if 3 = k ∧ x = n ∧ 0 = g then -m else 0) := by simp [atS]
    have d4 : atS k n g [⟨3, x, 0, m⟩, ⟨4, x, gr, -m⟩] = (if 3 = k ∧ x = n ∧ 0 = g then m else 0) + (if 4 = k ∧ x = n ∧ gr = g then -m else 0) := by simp [atS]
    have d6 : atS k n g [⟨4, x, gr, m⟩, ⟨2, x, 0, -m⟩] = (if 4 = k ∧ x = n ∧ gr = g then m else 0) + (if 2 = k ∧ x = n ∧ 0 = g then -m else 0) := by simp [atS]
    rw [d2, d4, d6]
    by_cases c2 : 2 = k ∧ x = n ∧ 0 = g
    · by_cases c3 : 3 = k ∧ x = n ∧ 0 = g
      · omega
      · by_cases c4 : 4 = k ∧ x = n ∧ gr = g
        · omega
        · simp only [if_pos c2, if_neg c3, if_neg c4]; omega
    · by_cases c3 : 3 = k ∧ x = n ∧ 0 = g
      · by_cases c4 : 4 = k ∧ x = n ∧ gr = g
        · omega
        · simp only [if_neg c2, if_pos c3, if_neg c4]; omega
      · by_cases c4 : 4 = k ∧ x = n ∧ gr = g
        · simp only [if_neg c2, if_neg c3, if_pos c4]; omega
        · simp only [if_neg c2, if_neg c3, if_neg c4]; omega
theorem all_nought' {m gr : Int} {p : List Int} {la lc ld : List Lg} (ha : la.Perm (rawL 2 m 0 p)) (hc : lc.Perm (rawL 4 m gr p)) (hd : ld.Perm (rawL 6 m gr p)) (k n g : Int) : atS k n g ((la ++ lc) ++ ld) = 0 := by
  rw [atS_append, atS_append, atS_perm k n g ha, atS_perm k n g hc, atS_perm k n g hd, rawL_ne (by decide), rawL_ne (by decide), rawL_ne (by decide)]
  exact all_nought m gr k n g p

/-- a release is a hold turned -/
theorem opp_raw {m : Int} (h1 : 1 ≤ m) (h2 : m ≤ 9007199254740992) : ∀ p : List Int, (opp (rawN 2 m 0 p)).Perm (rawN 3 m 0 p) := by
  intro p
  induction p with
  | nil => exact List.Perm.refl _
  | cons x r ih =>
    have e2 : nodeL 2 m 0 x = [⟨2, x, 0, m⟩, ⟨3, x, 0, -m⟩] := rfl
    have e3 : nodeL 3 m 0 x = [⟨3, x, 0, m⟩, ⟨2, x, 0, -m⟩] := rfl
    have n1 : negI m = -m := neg_amt (amt_of h1 h2).1
    have n2 : negI (-m) = m := by rw [neg_amt (amt_of h1 h2).2]; omega
    have e : opp (rawN 2 m 0 (x :: r)) = ⟨2, x, 0, -m⟩ :: ⟨3, x, 0, m⟩ :: opp (rawN 2 m 0 r) := by
      rw [rawN_cons, e2]
      simp [opp, n1, n2]
    rw [e, rawN_cons, e3]
    exact (List.Perm.swap _ _ _).trans ((ih.cons _).cons _)
end Go.Proofs.Ytkbaafgaaiekpaa.entm
