/- Tiers: a later block is in no earlier tier; the blocks of a split are all blocks; what it costs is bounded. -/
import Derived.Test.YtonacdjaimokeaaTirM
namespace Go.Proofs.Ytonacdjaimokeaa.tirm
set_option linter.unusedVariables false

theorem idxF_mono (m n : Int) (h : m ≤ n) : ∀ (ts : List Tr) (l i : Int), Tiers l ts → idxF m i ts ≤ idxF n i ts := by
  intro ts
  induction ts with
  | nil => intro l i _; simp [idxF]
  | cons x r ih =>
    intro l i ht
    by_cases h4 : x.u = 0 ∨ m ≤ x.u
    · have h5 := idxF_in n (x :: r) l i ht (by simp)
      have h6 : idxF m i (x :: r) = i := by unfold idxF; rw [if_pos h4]
      omega
    · have h5 : ¬ (x.u = 0 ∨ n ≤ x.u) := by omega
      obtain ⟨h1, h2, h3⟩ := ht
      unfold idxF
      rw [if_neg h4, if_neg h5]
      first | exact ih _ _ h3 | exact ih _ _ h3.2 | exact ih _ _ (by first | assumption | (split at h3; assumption))

/-- how many blocks -/
def sumB : List Ln → Int
  | [] => 0
  | x :: r => x.b + sumB r
/-- what they cost -/
def costB : List Ln → Int
  | [] => 0
  | x :: r => x.b * x.p + costB r
theorem gradF_pos (l : Int) : ∀ (ts : List Tr) (i p : Int), ∀ x ∈ gradF l i p ts, 0 < x.b := by
  intro ts
  induction ts with
  | nil => intro i p x hx; simp [gradF] at hx
  | cons y r ih =>
    intro i p x hx
    unfold gradF at hx
    dsimp only at hx
    generalize (if y.u ≠ 0 then min l y.u else l) = e at hx
    split at hx
    · rcases List.mem_cons.1 hx with hx | hx
      · subst hx; dsimp only; omega
      · exact ih _ _ _ hx
    · exact ih _ _ _ hx
theorem gradF_all (l : Int) : ∀ (ts : List Tr) (i p v : Int), Tiers v ts → 0 ≤ v → ts ≠ [] → p ≤ l → sumB (gradF l i p ts) = l - p := by
  intro ts
  induction ts with
  | nil => intro i p v _ _ h; exact absurd rfl h
  | cons y r ih =>
    intro i p v ht hv _ hp
    obtain ⟨h1, h2, h3⟩ := ht
    by_cases hr : r = []
    · subst hr
      have hu : y.u = 0 := by simpa using h2
      have he : (if y.u ≠ 0 then min l y.u else l) = l := if_neg (fun f => f hu)
      unfold gradF
      dsimp only
      rw [he]
      by_cases h5 : p < l
      · rw [if_pos h5]; simp [gradF, sumB]
      · rw [if_neg h5]; simp [gradF, sumB]; omega
    · rw [if_neg hr] at h2
      have he : (if y.u ≠ 0 then min l y.u else l) = min l y.u := if_pos (by omega)
      unfold gradF
      dsimp only
      rw [he]
      by_cases h5 : p < min l y.u
      · rw [if_pos h5]
        unfold sumB
        dsimp only
        rw [ih _ _ _ h3 (by omega) hr (by omega)]
        omega
      · rw [if_neg h5]
        exact ih _ _ _ h3 (by omega) hr hp
/-- each price is one of a tier's -/
theorem gradF_price (l : Int) : ∀ (ts : List Tr) (i p : Int), ∀ x ∈ gradF l i p ts, ∃ t ∈ ts, x.p = t.p := by
  intro ts
  induction ts with
  | nil => intro i p x hx; simp [gradF] at hx
  | cons y r ih =>
    intro i p x hx
    unfold gradF at hx
    dsimp only at hx
    generalize (if y.u ≠ 0 then min l y.u else l) = e at hx
    split at hx
    · rcases List.mem_cons.1 hx with hx | hx
      · subst hx; exact ⟨y, List.mem_cons_self .., rfl⟩
      · obtain ⟨t, ht, e⟩ := ih _ _ _ hx; exact ⟨t, List.mem_cons_of_mem _ ht, e⟩
    · obtain ⟨t, ht, e⟩ := ih _ _ _ hx; exact ⟨t, List.mem_cons_of_mem _ ht, e⟩
/-- the dearest price bounds the cost -/
theorem cost_le (d : Int) : ∀ (ls : List Ln), (∀ x ∈ ls, 0 < x.b ∧ x.p ≤ d) → costB ls ≤ d * sumB ls := by
  intro ls
  induction ls with
  | nil => intro _; simp [costB, sumB]
  | cons x r ih =>
    intro h
    have h1 := ih fun y hy => h y (List.mem_cons_of_mem _ hy)
    obtain ⟨h2, h3⟩ := h x (List.mem_cons_self ..)
    unfold costB sumB
    have h4 : x.b * x.p ≤ x.b * d := Int.mul_le_mul_of_nonneg_left h3 (by omega)
    rw [Int.mul_add, Int.mul_comm d x.b]
    omega
end Go.Proofs.Ytonacdjaimokeaa.tirm
