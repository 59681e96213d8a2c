/- Tiers: what is split one behind the other is, together, what is split at once. -/
import Derived.Test.YtonacdjaimokeaaTirU
namespace Go.Proofs.Ytonacdjaimokeaa.tirm
set_option linter.unusedVariables false

/-- a group ahead of all -/
theorem MergeOf.front {all out g : List Ln} {h : Ln} (hm : MergeOf all out) (hl : ∀ y ∈ all, ltN h y) (hg : ∀ y ∈ g, lk h y) (hne : g ≠ []) : MergeOf (g ++ all) (⟨h.t, sumB g, h.p⟩ :: out) := by
  have hlk : lk ⟨h.t, sumB g, h.p⟩ h := ⟨rfl, rfl⟩
  have hx : ∀ x ∈ out, ltN h x := fun x hx => by
    obtain ⟨y, hy, h2⟩ := (hm.keys x).1 ⟨x, hx, lk_refl x⟩
    exact lt_lk (hl y hy) (lk_symm h2)
  refine ⟨List.pairwise_cons.2 ⟨fun x h2 => lk_lt hlk (hx x h2), hm.up⟩, fun x => ?_, fun x hx2 => ?_⟩
  · rw [has_cons, has_append, hm.keys]
    have : lk x ⟨h.t, sumB g, h.p⟩ ↔ has x g := by
      constructor
      · intro h2
        obtain ⟨y, hy⟩ := List.exists_mem_of_ne_nil g hne
        exact ⟨y, hy, lk_trans (lk_trans h2 hlk) (hg y hy)⟩
      · rintro ⟨y, hy, h2⟩
        exact lk_trans h2 (lk_trans (lk_symm (hg y hy)) (lk_symm hlk))
    rw [this]
  · rw [sumK_append]
    rcases List.mem_cons.1 hx2 with hx2 | hx2
    · subst hx2
      rw [sumK_none (ls := all) (fun y hy e => lt_not (hl y hy) (lk_trans (lk_symm hlk) e))]
      unfold sumK
      rw [likes_all (fun y hy => lk_trans hlk (hg y hy)), ← sumB_map]
      dsimp only
      omega
    · rw [sumK_none (ls := g) (fun y hy e => lt_not (hx x hx2) (lk_symm (lk_trans e (lk_symm (hg y hy))))), hm.blocks x hx2]
      omega
theorem gradR_t (q l : Int) : ∀ (ts : List Tr) (i v : Int), ∀ x ∈ gradR q l i v ts, i ≤ x.t := by
  intro ts
  induction ts with
  | nil => intro i v x hx; cases hx
  | cons y r ih =>
    intro i v x hx
    unfold gradR at hx
    dsimp only at hx
    generalize (if 0 < y.u then min l y.u else l) = e at hx
    split at hx
    · rcases List.mem_cons.1 hx with rfl | hx
      · exact Int.le_refl _
      · have := ih _ _ x hx; omega
    · have := ih _ _ x hx; omega
theorem gradR_none (q : Int) : ∀ (ts : List Tr) (i v : Int), gradR q q i v ts = [] := by
  intro ts
  induction ts with
  | nil => intro i v; rfl
  | cons y r ih =>
    intro i v
    unfold gradR
    dsimp only
    rw [if_neg (by split <;> omega)]
    exact ih _ _
/-- a tier's own line -/
def hdR (q l i v : Int) (x : Tr) : List Ln :=
  if max q v < (if 0 < x.u then min l x.u else l) then [⟨i, (if 0 < x.u then min l x.u else l) - max q v, x.p⟩] else []
theorem gradR_cons (q l i v : Int) (x : Tr) (r : List Tr) : gradR q l i v (x :: r) = hdR q l i v x ++ gradR q l (i + 1) x.u r := by
  conv => lhs; unfold gradR
  unfold hdR
  dsimp only
  generalize (if 0 < x.u then min l x.u else l) = e
  split <;> rfl
theorem hdR_lk (q l i v : Int) (x : Tr) : ∀ y ∈ hdR q l i v x, lk ⟨i, 0, x.p⟩ y := by
  intro y hy
  unfold hdR at hy
  generalize (if 0 < x.u then min l x.u else l) = e at hy
  split at hy
  · rw [List.mem_singleton] at hy; subst hy; exact ⟨rfl, rfl⟩
  · cases hy
theorem hdR_sum (q l i v : Int) (x : Tr) : sumB (hdR q l i v x) = max 0 ((if 0 < x.u then min l x.u else l) - max q v) := by
  unfold hdR
  generalize (if 0 < x.u then min l x.u else l) = e
  split
  · simp only [sumB]; omega
  · simp only [sumB]; omega
theorem hdR_nil (q l i v : Int) (x : Tr) : hdR q l i v x = [] ↔ (if 0 < x.u then min l x.u else l) ≤ max q v := by
  unfold hdR
  generalize (if 0 < x.u then min l x.u else l) = e
  split
  · constructor
    · intro h; cases h
    · intro h; omega
  · exact ⟨fun _ => by omega, fun _ => rfl⟩
theorem hdR_one {q l i v : Int} {x : Tr} (h : hdR q l i v x ≠ []) : hdR q l i v x = [⟨i, max 0 ((if 0 < x.u then min l x.u else l) - max q v), x.p⟩] := by
  have e := hdR_sum q l i v x
  unfold hdR at h e ⊢
  generalize (if 0 < x.u then min l x.u else l) = e0 at *
  split at h
  · rename_i h2
    rw [if_pos h2]
    simp only [List.cons.injEq, Ln.mk.injEq, and_true, true_and]
    omega
  · exact absurd rfl h
theorem grad_joins (q m l : Int) (h1 : q ≤ m) (h2 : m ≤ l) : ∀ (ts : List Tr) (v i : Int), Tiers v ts → 0 ≤ v → MergeOf (gradR q m i v ts ++ gradR m l i v ts) (gradR q l i v ts) := by
  intro ts
  induction ts with
  | nil => intro v i _ _; exact MergeOf.nil
  | cons x r ih =>
    intro v i ht hv
    obtain ⟨t1, t2, t3⟩ := ht
    have hI : 0 ≤ x.u := by
      by_cases hr : r = []
      · rw [if_pos hr] at t2; omega
      · rw [if_neg hr] at t2; omega
    have hvu : x.u = 0 ∨ v < x.u := by
      by_cases hr : r = []
      · rw [if_pos hr] at t2; omega
      · rw [if_neg hr] at t2; omega
    have hIH := ih x.u (i + 1) t3 hI
    rw [gradR_cons, gradR_cons, gradR_cons]
    have hp : ((hdR q m i v x ++ hdR m l i v x) ++ (gradR q m (i + 1) x.u r ++ gradR m l (i + 1) x.u r)).Perm ((hdR q m i v x ++ gradR q m (i + 1) x.u r) ++ (hdR m l i v x ++ gradR m l (i + 1) x.u r)) := by
      rw [List.append_assoc, List.append_assoc]
      refine List.Perm.append_left _ ?_
      rw [← List.append_assoc, ← List.append_assoc]
      exact List.Perm.append_right _ List.perm_append_comm
    refine MergeOf.perm ?_ hp
    have hsum : sumB (hdR q m i v x ++ hdR m l i v x) = sumB (hdR q l i v x) := by
      rw [sumB_map, List.map_append, List.sum_append, ← sumB_map, ← sumB_map, hdR_sum, hdR_sum, hdR_sum]
      rcases hvu with e | e
      · rw [e]; simp only [Int.lt_irrefl, if_false]; omega
      · have e2 : 0 < x.u := by omega
        simp only [e2, if_true]
        omega
    have hall : ∀ y ∈ gradR q m (i + 1) x.u r ++ gradR m l (i + 1) x.u r, ltN ⟨i, 0, x.p⟩ y := by
      intro y hy
      rcases List.mem_append.1 hy with hy | hy
      · have := gradR_t _ _ _ _ _ y hy; exact .inl (by dsimp only; omega)
      · have := gradR_t _ _ _ _ _ y hy; exact .inl (by dsimp only; omega)
    have hlk : ∀ y ∈ hdR q m i v x ++ hdR m l i v x, lk ⟨i, 0, x.p⟩ y := by
      intro y hy
      rcases List.mem_append.1 hy with hy | hy
      · exact hdR_lk _ _ _ _ _ y hy
      · exact hdR_lk _ _ _ _ _ y hy
    by_cases hn : hdR q m i v x ++ hdR m l i v x = []
    · have e0 : hdR q l i v x = [] := by
        rw [List.append_eq_nil_iff, hdR_nil, hdR_nil] at hn
        rw [hdR_nil]
        rcases hvu with e | e
        · rw [e] at hn ⊢; simp only [Int.lt_irrefl, if_false] at hn ⊢; omega
        · have e2 : 0 < x.u := by omega
          simp only [e2, if_true] at hn ⊢
          omega
      rw [hn, e0]
      exact hIH
    · have e1 : hdR q l i v x ≠ [] := by
        intro e0
        apply hn
        rw [List.append_eq_nil_iff, hdR_nil, hdR_nil]
        rw [hdR_nil] at e0
        rcases hvu with e | e
        · rw [e] at e0 ⊢; simp only [Int.lt_irrefl, if_false] at e0 ⊢; omega
        · have e2 : 0 < x.u := by omega
          simp only [e2, if_true] at e0 ⊢
          omega
      have := hIH.front hall hlk hn
      rw [hsum, hdR_sum] at this
      rw [hdR_one e1]
      exact this
theorem gradF_joins (ts : List Tr) (p a b : Int) (ht : Tiers 0 ts) (hp : 0 ≤ p) (ha : 0 ≤ a) (hb : 0 ≤ b) : MergeOf (gradF (p + a) 0 p ts ++ gradF (p + a + b) 0 (p + a) ts) (gradF (p + a + b) 0 p ts) := by
  rw [grad_same p (p + a) hp (by omega) ts 0 0 p ht (by omega) (by omega), grad_same (p + a) (p + a + b) (by omega) (by omega) ts 0 0 (p + a) ht (by omega) (by omega), grad_same p (p + a + b) hp (by omega) ts 0 0 p ht (by omega) (by omega)]
  exact grad_joins p (p + a) (p + a + b) (by omega) (by omega) ts 0 0 ht (by omega)
theorem gradF_none (ts : List Tr) (p : Int) (ht : Tiers 0 ts) (hp : 0 ≤ p) : gradF p 0 p ts = [] := by
  rw [grad_same p p hp (by omega) ts 0 0 p ht (by omega) (by omega)]
  exact gradR_none p ts 0 0
end Go.Proofs.Ytonacdjaimokeaa.tirm
