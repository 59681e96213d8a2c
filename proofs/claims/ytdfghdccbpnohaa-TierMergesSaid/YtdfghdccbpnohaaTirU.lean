/- Tiers: a later block is in no earlier tier; the blocks of a split are all blocks; what it costs is bounded. Lines together: one of each tier and price, in their order. Tiers: what is split one behind the other is, together, what is split at once. -/
import Derived.Test.YtdfghdccbpnohaaTirM
namespace Go.Proofs.Ytdfghdccbpnohaa.tirm
set_option linter.unusedVariables false

theorem idxF_mono (m n : Int) (h : m ≤ n) : ∀ (ts : List Tr) (l i : Int), Tiers l ts → idxF m i ts ≤ idxF n i ts := by
  intro ts
  induction ts with
  | nil => intro l i _; simp [idxF]
  | cons x r ih =>
    intro l i ht
    by_cases h4 : x.u = 0 ∨ m ≤ x.u
    · have h5 := idxF_in n (x :: r) l i ht (by simp)
      have h6 : idxF m i (x :: r) = i := by unfold idxF; rw [if_pos h4]
      omega
    · have h5 : ¬ (x.u = 0 ∨ n ≤ x.u) := by omega
      obtain ⟨h1, h2, h3⟩ := ht
      unfold idxF
      rw [if_neg h4, if_neg h5]
      first | exact ih _ _ h3 | exact ih _ _ h3.2 | exact ih _ _ (by first | assumption | (split at h3; assumption))

/-- how many blocks -/
def sumB : List Ln → Int
  | [] => 0
  | x :: r => x.b + sumB r
/-- what they cost -/
def costB : List Ln → Int
  | [] => 0
  | x :: r => x.b * x.p + costB r
theorem gradF_pos (l : Int) : ∀ (ts : List Tr) (i p : Int), ∀ x ∈ gradF l i p ts, 0 < x.b := by
  intro ts
  induction ts with
  | nil => intro i p x hx; simp [gradF] at hx
  | cons y r ih =>
    intro i p x hx
    unfold gradF at hx
    dsimp only at hx
    generalize (if y.u ≠ 0 then min l y.u else l) = e at hx
    split at hx
    · rcases List.mem_cons.1 hx with hx | hx
      · subst hx; dsimp only; omega
      · exact ih _ _ _ hx
    · exact ih _ _ _ hx
theorem gradF_all (l : Int) : ∀ (ts : List Tr) (i p v : Int), Tiers v ts → 0 ≤ v → ts ≠ [] → p ≤ l → sumB (gradF l i p ts) = l - p := by
  intro ts
  induction ts with
  | nil => intro i p v _ _ h; exact absurd rfl h
  | cons y r ih =>
    intro i p v ht hv _ hp
    obtain ⟨h1, h2, h3⟩ := ht
    by_cases hr : r = []
    · subst hr
      have hu : y.u = 0 := by simpa using h2
      have he : (if y.u ≠ 0 then min l y.u else l) = l := if_neg (fun f => f hu)
      unfold gradF
      dsimp only
      rw [he]
      by_cases h5 : p < l
      · rw [if_pos h5]; simp [gradF, sumB]
      · rw [if_neg h5]; simp [gradF, sumB]; omega
    · rw [if_neg hr] at h2
      have he : (if y.u ≠ 0 then min l y.u else l) = min l y.u := if_pos (by omega)
      unfold gradF
      dsimp only
      rw [he]
      by_cases h5 : p < min l y.u
      · rw [if_pos h5]
        unfold sumB
        dsimp only
        rw [ih _ _ _ h3 (by omega) hr (by omega)]
        omega
      · rw [if_neg h5]
        exact ih _ _ _ h3 (by omega) hr hp
/-- each price is one of a tier's -/
theorem gradF_price (l : Int) : ∀ (ts : List Tr) (i p : Int), ∀ x ∈ gradF l i p ts, ∃ t ∈ ts, x.p = t.p := by
  intro ts
  induction ts with
  | nil => intro i p x hx; simp [gradF] at hx
  | cons y r ih =>
    intro i p x hx
    unfold gradF at hx
    dsimp only at hx
    generalize (if y.u ≠ 0 then min l y.u else l) = e at hx
    split at hx
    · rcases List.mem_cons.1 hx with hx | hx
      · subst hx; exact ⟨y, List.mem_cons_self .., rfl⟩
      · obtain ⟨t, ht, e⟩ := ih _ _ _ hx; exact ⟨t, List.mem_cons_of_mem _ ht, e⟩
    · obtain ⟨t, ht, e⟩ := ih _ _ _ hx; exact ⟨t, List.mem_cons_of_mem _ ht, e⟩
/-- the dearest price bounds the cost -/
theorem cost_le (d : Int) : ∀ (ls : List Ln), (∀ x ∈ ls, 0 < x.b ∧ x.p ≤ d) → costB ls ≤ d * sumB ls := by
  intro ls
  induction ls with
  | nil => intro _; simp [costB, sumB]
  | cons x r ih =>
    intro h
    have h1 := ih fun y hy => h y (List.mem_cons_of_mem _ hy)
    obtain ⟨h2, h3⟩ := h x (List.mem_cons_self ..)
    unfold costB sumB
    have h4 : x.b * x.p ≤ x.b * d := Int.mul_le_mul_of_nonneg_left h3 (by omega)
    rw [Int.mul_add, Int.mul_comm d x.b]
    omega
end Go.Proofs.Ytdfghdccbpnohaa.tirm

namespace Go.Proofs.Ytdfghdccbpnohaa.tirm
set_option linter.unusedVariables false

/-- of the same tier and price -/
def lk (x y : Ln) : Prop := x.t = y.t ∧ x.p = y.p
instance (x y : Ln) : Decidable (lk x y) := inferInstanceAs (Decidable (_ ∧ _))
/-- ahead of another -/
def ltN (x y : Ln) : Prop := x.t < y.t ∨ x.t = y.t ∧ x.p < y.p
instance (x y : Ln) : Decidable (ltN x y) := inferInstanceAs (Decidable (_ ∨ _))
def likes (x : Ln) (ls : List Ln) : List Int := (ls.filter fun y => decide (lk x y)).map Ln.b
def sumK (x : Ln) (ls : List Ln) : Int := (likes x ls).sum
def has (x : Ln) (ls : List Ln) : Prop := ∃ y ∈ ls, lk x y

theorem lk_refl (x : Ln) : lk x x := ⟨rfl, rfl⟩
theorem lk_symm {x y : Ln} (h : lk x y) : lk y x := ⟨h.1.symm, h.2.symm⟩
theorem lk_trans {x y z : Ln} (h : lk x y) (k : lk y z) : lk x z := ⟨h.1.trans k.1, h.2.trans k.2⟩
theorem lt_not {x y : Ln} (h : ltN x y) : ¬ lk x y := by unfold ltN at h; unfold lk; omega
theorem lt_asymm {x y : Ln} (h : ltN x y) : ¬ ltN y x := by unfold ltN at *; omega
theorem lt_trans {x y z : Ln} (h : ltN x y) (k : ltN y z) : ltN x z := by unfold ltN at *; omega
theorem lt_lk {x y z : Ln} (h : ltN x y) (k : lk y z) : ltN x z := by unfold ltN lk at *; omega
theorem lk_lt {x y z : Ln} (h : lk x y) (k : ltN y z) : ltN x z := by unfold ltN lk at *; omega
theorem lt_of {x y : Ln} (h : ¬ lk x y) (k : ¬ ltN y x) : ltN x y := by unfold ltN lk at *; omega

theorem has_cons (x y : Ln) (ls : List Ln) : has x (y :: ls) ↔ lk x y ∨ has x ls := by
  unfold has; simp
theorem has_append (x : Ln) (a b : List Ln) : has x (a ++ b) ↔ has x a ∨ has x b := by
  unfold has
  constructor
  · rintro ⟨y, hy, h⟩
    rcases List.mem_append.1 hy with hy | hy
    · exact .inl ⟨y, hy, h⟩
    · exact .inr ⟨y, hy, h⟩
  · rintro (⟨y, hy, h⟩ | ⟨y, hy, h⟩)
    · exact ⟨y, List.mem_append.2 (.inl hy), h⟩
    · exact ⟨y, List.mem_append.2 (.inr hy), h⟩
theorem has_lk {x y : Ln} (h : lk x y) (ls : List Ln) : has x ls ↔ has y ls :=
  ⟨fun ⟨z, hz, k⟩ => ⟨z, hz, lk_trans (lk_symm h) k⟩, fun ⟨z, hz, k⟩ => ⟨z, hz, lk_trans h k⟩⟩
theorem has_perm {a b : List Ln} (h : a.Perm b) (x : Ln) : has x a ↔ has x b :=
  ⟨fun ⟨y, hy, k⟩ => ⟨y, h.mem_iff.1 hy, k⟩, fun ⟨y, hy, k⟩ => ⟨y, h.mem_iff.2 hy, k⟩⟩
theorem sum_perm {a b : List Int} (h : a.Perm b) : a.sum = b.sum := by
  induction h with
  | nil => rfl
  | cons x _ ih => rw [List.sum_cons, List.sum_cons, ih]
  | swap x y l => simp only [List.sum_cons]; omega
  | trans _ _ h1 h2 => exact h1.trans h2
theorem sumK_perm {a b : List Ln} (h : a.Perm b) (x : Ln) : sumK x a = sumK x b := sum_perm ((h.filter _).map _)
theorem sumK_lk {x y : Ln} (h : lk x y) (ls : List Ln) : sumK x ls = sumK y ls := by
  unfold sumK likes
  have e : (fun z => decide (lk x z)) = fun z => decide (lk y z) := by
    funext z
    rw [decide_eq_decide]
    exact ⟨fun k => lk_trans (lk_symm h) k, fun k => lk_trans h k⟩
  rw [e]
theorem likes_append (x : Ln) (a b : List Ln) : likes x (a ++ b) = likes x a ++ likes x b := by
  unfold likes; rw [List.filter_append, List.map_append]
theorem sumK_append (x : Ln) (a b : List Ln) : sumK x (a ++ b) = sumK x a + sumK x b := by
  unfold sumK; rw [likes_append, List.sum_append]
theorem likes_none {x : Ln} {ls : List Ln} (h : ∀ y ∈ ls, ¬ lk x y) : likes x ls = [] := by
  unfold likes
  rw [List.filter_eq_nil_iff.2 (fun y hy => by simpa using h y hy)]
  rfl
theorem likes_all {x : Ln} {ls : List Ln} (h : ∀ y ∈ ls, lk x y) : likes x ls = ls.map Ln.b := by
  unfold likes
  rw [List.filter_eq_self.2 (fun y hy => by simpa using h y hy)]
theorem sumK_none {x : Ln} {ls : List Ln} (h : ∀ y ∈ ls, ¬ lk x y) : sumK x ls = 0 := by unfold sumK; rw [likes_none h]; rfl
theorem sumB_map (ls : List Ln) : sumB ls = (ls.map Ln.b).sum := by
  induction ls with
  | nil => rfl
  | cons x r ih => rw [List.map_cons, List.sum_cons, ← ih]; rfl

/-- the lines that come of all of them -/
structure MergeOf (all out : List Ln) : Prop where
  up : out.Pairwise ltN
  keys : ∀ x, has x out ↔ has x all
  blocks : ∀ x ∈ out, x.b = sumK x all
theorem MergeOf.perm {a b out : List Ln} (h : MergeOf a out) (hp : a.Perm b) : MergeOf b out :=
  ⟨h.up, fun x => (h.keys x).trans (has_perm hp x), fun x hx => (h.blocks x hx).trans (sumK_perm hp x)⟩
theorem MergeOf.nil : MergeOf [] [] := ⟨List.Pairwise.nil, fun x => Iff.rfl, fun x hx => by cases hx⟩

theorem uniq_of (f : Ln → Int) (hf : ∀ x y, lk x y → f x = f y) : ∀ (a b : List Ln), a.Pairwise ltN → b.Pairwise ltN → (∀ x, has x a ↔ has x b) → (∀ x ∈ a, x.b = f x) → (∀ x ∈ b, x.b = f x) → a = b := by
  intro a
  induction a with
  | nil =>
    intro b _ _ hk _ _
    cases b with
    | nil => rfl
    | cons y r =>
      obtain ⟨z, hz, _⟩ := (hk y).2 ⟨y, List.mem_cons_self .., lk_refl y⟩
      cases hz
  | cons x r ih =>
    intro b ha hb hk fa fb
    cases b with
    | nil =>
      obtain ⟨z, hz, _⟩ := (hk x).1 ⟨x, List.mem_cons_self .., lk_refl x⟩
      cases hz
    | cons y s =>
      rw [List.pairwise_cons] at ha hb
      have hxy : lk x y := by
        have h1 := (hk x).1 ((has_cons ..).2 (.inl (lk_refl x)))
        have h2 := (hk y).2 ((has_cons ..).2 (.inl (lk_refl y)))
        rw [has_cons] at h1 h2
        rcases h1 with h1 | ⟨z, hz, h1⟩
        · exact h1
        · rcases h2 with h2 | ⟨z2, hz2, h2⟩
          · exact lk_symm h2
          · have k1 := lt_lk (hb.1 z hz) (lk_symm h1)
            have k2 := lt_lk (ha.1 z2 hz2) (lk_symm h2)
            exact absurd k1 (lt_asymm k2)
      have e : x = y := by
        have e1 := fa x (List.mem_cons_self ..)
        have e2 := fb y (List.mem_cons_self ..)
        rw [← hf x y hxy, ← e1] at e2
        obtain ⟨xt, xb, xp⟩ := x
        obtain ⟨yt, yb, yp⟩ := y
        obtain ⟨h1, h2⟩ := hxy
        dsimp only at h1 h2 e2
        rw [h1, h2, e2]
      subst e
      rw [ih s ha.2 hb.2 (fun z => ?_) (fun z hz => fa z (List.mem_cons_of_mem _ hz)) (fun z hz => fb z (List.mem_cons_of_mem _ hz))]
      have := hk z
      rw [has_cons, has_cons] at this
      constructor
      · intro h
        rcases this.1 (.inr h) with h1 | h1
        · obtain ⟨q, hq, h2⟩ := h
          exact absurd (lk_trans (lk_symm h1) h2) (lt_not (ha.1 q hq))
        · exact h1
      · intro h
        rcases this.2 (.inr h) with h1 | h1
        · obtain ⟨q, hq, h2⟩ := h
          exact absurd (lk_trans (lk_symm h1) h2) (lt_not (hb.1 q hq))
        · exact h1
theorem MergeOf.uniq {all a b : List Ln} (h : MergeOf all a) (k : MergeOf all b) : a = b :=
  uniq_of (fun x => sumK x all) (fun x y h => sumK_lk h all) a b h.up k.up (fun x => (h.keys x).trans (k.keys x).symm) h.blocks k.blocks

theorem sum_split (x : Ln) : ∀ (ls : List Ln), sumB ls = sumK x ls + sumB (ls.filter fun y => decide (¬ lk x y)) := by
  intro ls
  induction ls with
  | nil => rfl
  | cons y r ih =>
    have e1 : sumK x (y :: r) = sumK x [y] + sumK x r := sumK_append x [y] r
    by_cases h : lk x y
    · rw [List.filter_cons_of_neg (by simpa using h), e1]
      have e2 : sumK x [y] = y.b := by unfold sumK; rw [likes_all (by simpa using h)]; simp
      rw [e2]
      show y.b + sumB r = _
      rw [ih]; omega
    · rw [List.filter_cons_of_pos (by simpa using h), e1]
      have e2 : sumK x [y] = 0 := sumK_none (by simpa using h)
      rw [e2]
      show y.b + sumB r = 0 + sumK x r + (y.b + sumB _)
      rw [ih]; omega
/-- the blocks are those of all -/
theorem MergeOf.sum : ∀ (out all : List Ln), MergeOf all out → sumB out = sumB all := by
  intro out
  induction out with
  | nil =>
    intro all h
    cases all with
    | nil => rfl
    | cons y r =>
      obtain ⟨z, hz, _⟩ := (h.keys y).2 ⟨y, List.mem_cons_self .., lk_refl y⟩
      cases hz
  | cons x r ih =>
    intro all h
    have hu := h.up
    rw [List.pairwise_cons] at hu
    have hm : MergeOf (all.filter fun y => decide (¬ lk x y)) r := by
      refine ⟨hu.2, fun z => ?_, fun y hy => ?_⟩
      · constructor
        · rintro ⟨q, hq, h2⟩
          obtain ⟨y, hy, h3⟩ := (h.keys z).1 ⟨q, List.mem_cons_of_mem _ hq, h2⟩
          refine ⟨y, List.mem_filter.2 ⟨hy, ?_⟩, h3⟩
          rw [decide_eq_true_eq]
          exact fun e => lt_not (hu.1 q hq) (lk_trans (lk_trans e (lk_symm h3)) h2)
        · rintro ⟨y, hy, h2⟩
          rw [List.mem_filter, decide_eq_true_eq] at hy
          have := (h.keys z).2 ⟨y, hy.1, h2⟩
          rw [has_cons] at this
          exact this.resolve_left (fun e => hy.2 (lk_trans (lk_symm e) h2))
      · rw [h.blocks y (List.mem_cons_of_mem _ hy)]
        unfold sumK likes
        rw [List.filter_filter]
        congr 2
        apply List.filter_congr
        intro q _
        by_cases e : lk y q
        · have : ¬ lk x q := fun e2 => lt_not (hu.1 y hy) (lk_trans e2 (lk_symm e))
          simp [e, this]
        · simp [e]
    rw [sum_split x all, ← ih _ hm, ← h.blocks x (List.mem_cons_self ..)]
    rfl

/-- a group more -/
theorem MergeOf.step {done m g : List Ln} {h : Ln} (hd : MergeOf done m) (hl : ∀ x ∈ done, ltN x h) (hg : ∀ y ∈ g, lk h y) (hh : h ∈ g) : MergeOf (done ++ g) (m ++ [⟨h.t, sumB g, h.p⟩]) := by
  have hx : ∀ x ∈ m, ltN x h := fun x hx => by
    obtain ⟨y, hy, h2⟩ := (hd.keys x).1 ⟨x, hx, lk_refl x⟩
    exact lk_lt h2 (hl y hy)
  have hlk : lk ⟨h.t, sumB g, h.p⟩ h := ⟨rfl, rfl⟩
  refine ⟨?_, fun x => ?_, fun x hx2 => ?_⟩
  · rw [List.pairwise_append]
    refine ⟨hd.up, List.pairwise_singleton .., fun a ha b hb => ?_⟩
    rw [List.mem_singleton] at hb
    subst hb
    exact lt_lk (hx a ha) (lk_symm hlk)
  · rw [has_append, has_append, hd.keys]
    have : has x [(⟨h.t, sumB g, h.p⟩ : Ln)] ↔ has x g := by
      constructor
      · rintro ⟨y, hy, h2⟩
        rw [List.mem_singleton] at hy
        subst hy
        exact ⟨h, hh, lk_trans h2 hlk⟩
      · rintro ⟨y, hy, h2⟩
        exact ⟨_, List.mem_singleton.2 rfl, lk_trans h2 (lk_trans (lk_symm (hg y hy)) (lk_symm hlk))⟩
    rw [this]
  · rw [sumK_append]
    rcases List.mem_append.1 hx2 with hx2 | hx2
    · rw [sumK_none (ls := g) (fun y hy e => lt_not (hx x hx2) (lk_trans e (lk_symm (hg y hy)))), hd.blocks x hx2]
      omega
    · rw [List.mem_singleton] at hx2
      subst hx2
      rw [sumK_none (ls := done) (fun y hy e => lt_not (hl y hy) (lk_symm (lk_trans (lk_symm hlk) e)))]
      unfold sumK
      rw [likes_all (fun y hy => lk_trans hlk (hg y hy)), ← sumB_map]
      dsimp only
      omega
theorem sum_group {done g rest : List Ln} {h : Ln} (hl : ∀ x ∈ done, ltN x h) (hg : ∀ y ∈ g, lk h y) (hr : ∀ y ∈ rest, ltN h y) : sumK h (done ++ (g ++ rest)) = sumB g := by
  rw [sumK_append, sumK_append, sumK_none (ls := done) (fun y hy e => lt_not (hl y hy) (lk_symm e)), sumK_none (ls := rest) (fun y hy e => lt_not (hr y hy) e)]
  unfold sumK
  rw [likes_all hg, ← sumB_map]
  omega

/-- put in at its place -/
theorem ins_up {a b : List Ln} {x : Ln} (h : (a ++ b).Pairwise ltN) (hn : ¬ has x (a ++ b)) (hb : ∀ y ∈ b, ltN x y) (ha : a = [] ∨ ∃ z, a.getLast? = some z ∧ ¬ ltN x z) : (a ++ (x :: b)).Pairwise ltN := by
  rw [List.pairwise_append] at h ⊢
  obtain ⟨h1, h2, h3⟩ := h
  have hax : ∀ y ∈ a, ltN y x := by
    rcases ha with rfl | ⟨z, hz, hxz⟩
    · intro y hy; cases hy
    · obtain ⟨a0, rfl⟩ : ∃ a0, a = a0 ++ [z] := by
        rw [List.getLast?_eq_some_iff] at hz
        exact hz
      have hzx : ltN z x := lt_of (fun e => hn ⟨z, by simp, lk_symm e⟩) hxz
      intro y hy
      rw [List.mem_append, List.mem_singleton] at hy
      rcases hy with hy | rfl
      · rw [List.pairwise_append] at h1
        exact lt_trans (h1.2.2 y hy z (by simp)) hzx
      · exact hzx
  refine ⟨h1, List.pairwise_cons.2 ⟨hb, h2⟩, fun y hy z hz => ?_⟩
  rcases List.mem_cons.1 hz with rfl | hz
  · exact hax y hy
  · exact h3 y hy z hz
end Go.Proofs.Ytdfghdccbpnohaa.tirm

namespace Go.Proofs.Ytdfghdccbpnohaa.tirm
set_option linter.unusedVariables false

/-- a group ahead of all -/
theorem MergeOf.front {all out g : List Ln} {h : Ln} (hm : MergeOf all out) (hl : ∀ y ∈ all, ltN h y) (hg : ∀ y ∈ g, lk h y) (hne : g ≠ []) : MergeOf (g ++ all) (⟨h.t, sumB g, h.p⟩ :: out) := by
  have hlk : lk ⟨h.t, sumB g, h.p⟩ h := ⟨rfl, rfl⟩
  have hx : ∀ x ∈ out, ltN h x := fun x hx => by
    obtain ⟨y, hy, h2⟩ := (hm.keys x).1 ⟨x, hx, lk_refl x⟩
    exact lt_lk (hl y hy) (lk_symm h2)
  refine ⟨List.pairwise_cons.2 ⟨fun x h2 => lk_lt hlk (hx x h2), hm.up⟩, fun x => ?_, fun x hx2 => ?_⟩
  · rw [has_cons, has_append, hm.keys]
    have : lk x ⟨h.t, sumB g, h.p⟩ ↔ has x g := by
      constructor
      · intro h2
        obtain ⟨y, hy⟩ := List.exists_mem_of_ne_nil g hne
        exact ⟨y, hy, lk_trans (lk_trans h2 hlk) (hg y hy)⟩
      · rintro ⟨y, hy, h2⟩
        exact lk_trans h2 (lk_trans (lk_symm (hg y hy)) (lk_symm hlk))
    rw [this]
  · rw [sumK_append]
    rcases List.mem_cons.1 hx2 with hx2 | hx2
    · subst hx2
      rw [sumK_none (ls := all) (fun y hy e => lt_not (hl y hy) (lk_trans (lk_symm hlk) e))]
      unfold sumK
      rw [likes_all (fun y hy => lk_trans hlk (hg y hy)), ← sumB_map]
      dsimp only
      omega
    · rw [sumK_none (ls := g) (fun y hy e => lt_not (hx x hx2) (lk_symm (lk_trans e (lk_symm (hg y hy))))), hm.blocks x hx2]
      omega
theorem gradR_t (q l : Int) : ∀ (ts : List Tr) (i v : Int), ∀ x ∈ gradR q l i v ts, i ≤ x.t := by
  intro ts
  induction ts with
  | nil => intro i v x hx; cases hx
  | cons y r ih =>
    intro i v x hx
    unfold gradR at hx
    dsimp only at hx
    generalize (if 0 < y.u then min l y.u else l) = e at hx
    split at hx
    · rcases List.mem_cons.1 hx with rfl | hx
      · exact Int.le_refl _
      · have := ih _ _ x hx; omega
    · have := ih _ _ x hx; omega
theorem gradR_none (q : Int) : ∀ (ts : List Tr) (i v : Int), gradR q q i v ts = [] := by
  intro ts
  induction ts with
  | nil => intro i v; rfl
  | cons y r ih =>
    intro i v
    unfold gradR
    dsimp only
    rw [if_neg (by split <;> omega)]
    exact ih _ _
/-- a tier's own line -/
def hdR (q l i v : Int) (x : Tr) : List Ln :=
  if max q v < (if 0 < x.u then min l x.u else l) then [⟨i, (if 0 < x.u then min l x.u else l) - max q v, x.p⟩] else []
theorem gradR_cons (q l i v : Int) (x : Tr) (r : List Tr) : gradR q l i v (x :: r) = hdR q l i v x ++ gradR q l (i + 1) x.u r := by
  conv => lhs; unfold gradR
  unfold hdR
  dsimp only
  generalize (if 0 < x.u then min l x.u else l) = e
  split <;> rfl
theorem hdR_lk (q l i v : Int) (x : Tr) : ∀ y ∈ hdR q l i v x, lk ⟨i, 0, x.p⟩ y := by
  intro y hy
  unfold hdR at hy
  generalize (if 0 < x.u then min l x.u else l) = e at hy
  split at hy
  · rw [List.mem_singleton] at hy; subst hy; exact ⟨rfl, rfl⟩
  · cases hy
theorem hdR_sum (q l i v : Int) (x : Tr) : sumB (hdR q l i v x) = max 0 ((if 0 < x.u then min l x.u else l) - max q v) := by
  unfold hdR
  generalize (if 0 < x.u then min l x.u else l) = e
  split
  · simp only [sumB]; omega
  · simp only [sumB]; omega
theorem hdR_nil (q l i v : Int) (x : Tr) : hdR q l i v x = [] ↔ (if 0 < x.u then min l x.u else l) ≤ max q v := by
  unfold hdR
  generalize (if 0 < x.u then min l x.u else l) = e
  split
  · constructor
    · intro h; cases h
    · intro h; omega
  · exact ⟨fun _ => by omega, fun _ => rfl⟩
theorem hdR_one {q l i v : Int} {x : Tr} (h : hdR q l i v x ≠ []) : hdR q l i v x = [⟨i, max 0 ((if 0 < x.u then min l x.u else l) - max q v), x.p⟩] := by
  have e := hdR_sum q l i v x
  unfold hdR at h e ⊢
  generalize (if 0 < x.u then min l x.u else l) = e0 at *
  split at h
  · rename_i h2
    rw [if_pos h2]
    simp only [List.cons.injEq, Ln.mk.injEq, and_true, true_and]
    omega
  · exact absurd rfl h
theorem grad_joins (q m l : Int) (h1 : q ≤ m) (h2 : m ≤ l) : ∀ (ts : List Tr) (v i : Int), Tiers v ts → 0 ≤ v → MergeOf (gradR q m i v ts ++ gradR m l i v ts) (gradR q l i v ts) := by
  intro ts
  induction ts with
  | nil => intro v i _ _; exact MergeOf.nil
  | cons x r ih =>
    intro v i ht hv
    obtain ⟨t1, t2, t3⟩ := ht
    have hI : 0 ≤ x.u := by
      by_cases hr : r = []
      · rw [if_pos hr] at t2; omega
      · rw [if_neg hr] at t2; omega
    have hvu : x.u = 0 ∨ v < x.u := by
      by_cases hr : r = []
      · rw [if_pos hr] at t2; omega
      · rw [if_neg hr] at t2; omega
    have hIH := ih x.u (i + 1) t3 hI
    rw [gradR_cons, gradR_cons, gradR_cons]
    have hp : ((hdR q m i v x ++ hdR m l i v x) ++ (gradR q m (i + 1) x.u r ++ gradR m l (i + 1) x.u r)).Perm ((hdR q m i v x ++ gradR q m (i + 1) x.u r) ++ (hdR m l i v x ++ gradR m l (i + 1) x.u r)) := by
      rw [List.append_assoc, List.append_assoc]
      refine List.Perm.append_left _ ?_
      rw [← List.append_assoc, ← List.append_assoc]
      exact List.Perm.append_right _ List.perm_append_comm
    refine MergeOf.perm ?_ hp
    have hsum : sumB (hdR q m i v x ++ hdR m l i v x) = sumB (hdR q l i v x) := by
      rw [sumB_map, List.map_append, List.sum_append, ← sumB_map, ← sumB_map, hdR_sum, hdR_sum, hdR_sum]
      rcases hvu with e | e
      · rw [e]; simp only [Int.lt_irrefl, if_false]; omega
      · have e2 : 0 < x.u := by omega
        simp only [e2, if_true]
        omega
    have hall : ∀ y ∈ gradR q m (i + 1) x.u r ++ gradR m l (i + 1) x.u r, ltN ⟨i, 0, x.p⟩ y := by
      intro y hy
      rcases List.mem_append.1 hy with hy | hy
      · have := gradR_t _ _ _ _ _ y hy; exact .inl (by dsimp only; omega)
      · have := gradR_t _ _ _ _ _ y hy; exact .inl (by dsimp only; omega)
    have hlk : ∀ y ∈ hdR q m i v x ++ hdR m l i v x, lk ⟨i, 0, x.p⟩ y := by
      intro y hy
      rcases List.mem_append.1 hy with hy | hy
      · exact hdR_lk _ _ _ _ _ y hy
      · exact hdR_lk _ _ _ _ _ y hy
    by_cases hn : hdR q m i v x ++ hdR m l i v x = []
    · have e0 : hdR q l i v x = [] := by
        rw [List.append_eq_nil_iff, hdR_nil, hdR_nil] at hn
        rw [hdR_nil]
        rcases hvu with e | e
        · rw [e] at hn ⊢; simp only [Int.lt_irrefl, if_false] at hn ⊢; omega
        · have e2 : 0 < x.u := by omega
          simp only [e2, if_true] at hn ⊢
          omega
      rw [hn, e0]
      exact hIH
    · have e1 : hdR q l i v x ≠ [] := by
        intro e0
        apply hn
        rw [List.append_eq_nil_iff, hdR_nil, hdR_nil]
        rw [hdR_nil] at e0
        rcases hvu with e | e
        · rw [e] at e0 ⊢; simp only [Int.lt_irrefl, if_false] at e0 ⊢; omega
        · have e2 : 0 < x.u := by omega
          simp only [e2, if_true] at e0 ⊢
          omega
      have := hIH.front hall hlk hn
      rw [hsum, hdR_sum] at this
      rw [hdR_one e1]
      exact this
theorem gradF_joins (ts : List Tr) (p a b : Int) (ht : Tiers 0 ts) (hp : 0 ≤ p) (ha : 0 ≤ a) (hb : 0 ≤ b) : MergeOf (gradF (p + a) 0 p ts ++ gradF (p + a + b) 0 (p + a) ts) (gradF (p + a + b) 0 p ts) := by
  rw [grad_same p (p + a) hp (by omega) ts 0 0 p ht (by omega) (by omega), grad_same (p + a) (p + a + b) (by omega) (by omega) ts 0 0 (p + a) ht (by omega) (by omega), grad_same p (p + a + b) hp (by omega) ts 0 0 p ht (by omega) (by omega)]
  exact grad_joins p (p + a) (p + a + b) (by omega) (by omega) ts 0 0 ht (by omega)
theorem gradF_none (ts : List Tr) (p : Int) (ht : Tiers 0 ts) (hp : 0 ≤ p) : gradF p 0 p ts = [] := by
  rw [grad_same p p hp (by omega) ts 0 0 p ht (by omega) (by omega)]
  exact gradR_none p ts 0 0
end Go.Proofs.Ytdfghdccbpnohaa.tirm

