/- Tiers: what a split's lines are, and what they cost. -/
import Derived.Test.YtfdaokjigjpomaaTirS
import Derived.Test.YtfdaokjigjpomaaTirJ
import Derived.Test.YtfdaokjigjpomaaTirU
namespace Go.Proofs.Ytfdaokjigjpomaa.tirw
open Go.RowKit mem tirm intm bigm bigw
set_option linter.unusedVariables false

/-- the dearest price -/
def dearF : Int → List Tr → Int
  | d, [] => d
  | d, x :: r => dearF (max d x.p) r
theorem dearF_ge : ∀ (ts : List Tr) (d : Int), d ≤ dearF d ts ∧ ∀ t ∈ ts, t.p ≤ dearF d ts := by
  intro ts
  induction ts with
  | nil => intro d; exact ⟨Int.le_refl _, fun t h => by cases h⟩
  | cons x r ih =>
    intro d
    obtain ⟨h1, h2⟩ := ih (max d x.p)
    refine ⟨?_, fun t ht => ?_⟩
    · show d ≤ dearF (max d x.p) r
      omega
    · show t.p ≤ dearF (max d x.p) r
      rcases List.mem_cons.1 ht with rfl | ht
      · omega
      · exact h2 t ht
theorem dearF_in (ts : List Tr) (b : Int) : ∀ (d : Int), (∀ t ∈ ts, t.p ≤ b) → d ≤ b → dearF d ts ≤ b := by
  induction ts with
  | nil => intro d _ h; exact h
  | cons x r ih =>
    intro d h hd
    have := h x (List.mem_cons_self ..)
    exact ih (max d x.p) (fun t ht => h t (List.mem_cons_of_mem _ ht)) (by omega)
theorem Tiers_p : ∀ (ts : List Tr) (l : Int), Tiers l ts → ∀ t ∈ ts, 0 ≤ t.p ∧ t.p ≤ 1048576 := by
  intro ts
  induction ts with
  | nil => intro l _ t h; cases h
  | cons x r ih =>
    intro l h t ht
    obtain ⟨h1, h2, h3⟩ := h
    rcases List.mem_cons.1 ht with rfl | ht
    · exact h1
    · exact ih _ h3 t ht
theorem sumB_ge : ∀ (ls : List Ln), (∀ x ∈ ls, 0 < x.b) → 0 ≤ sumB ls ∧ ∀ x ∈ ls, x.b ≤ sumB ls := by
  intro ls
  induction ls with
  | nil => intro _; exact ⟨Int.le_refl _, fun x h => by cases h⟩
  | cons y r ih =>
    intro h
    obtain ⟨h1, h2⟩ := ih fun x hx => h x (List.mem_cons_of_mem _ hx)
    have h3 := h y (List.mem_cons_self ..)
    refine ⟨?_, fun x hx => ?_⟩
    · show 0 ≤ y.b + sumB r
      omega
    · show x.b ≤ y.b + sumB r
      rcases List.mem_cons.1 hx with rfl | hx
      · omega
      · have := h2 x hx; omega
/-- the lines of a split -/
theorem spl_facts {G M B : Int} {ts : List Tr} {p n : Int} (hc : tchk G M B ts = 0) (ho : ¬ outB p n) :
    (∀ x ∈ splL G M B ts p n, (0 ≤ x.t ∧ x.t < 6) ∧ (0 < x.b ∧ x.b ≤ n) ∧ (0 ≤ x.p ∧ x.p ≤ 1048576) ∧ ∃ t ∈ ts, x.p = t.p) ∧ sumB (splL G M B ts p n) = n := by
  obtain ⟨hM0, hM, hB0, hl0, hts⟩ := (tchk_ok G M B ts).1 hc
  have hb : 0 ≤ p ∧ p ≤ 1099511627776 ∧ 0 ≤ n ∧ n ≤ 1073741824 := by unfold outB at ho; omega
  have hne : ts ≠ [] := by intro e; rw [e] at hl0; simp at hl0
  have hpr := Tiers_p ts 0 hts
  by_cases hn : n = 0
  · have e : splL G M B ts p n = [] := by unfold splL; rw [if_pos (.inr (.inr hn))]
    rw [e, hn]
    exact ⟨fun x h => (by cases h), rfl⟩
  · have e1 : ¬ (tchk G M B ts ≠ 0 ∨ outB p n ∨ n = 0) := fun e => e.elim (fun e => e hc) (fun e => e.elim ho hn)
    unfold splL
    rw [if_neg e1]
    by_cases h2 : M = 2
    · rw [if_pos h2]
      have hix := idxF_in (p + n) ts 0 0 hts hne
      refine ⟨fun x hx => ?_, by simp [sumB]⟩
      rw [List.mem_singleton] at hx
      subst hx
      have hm := getT_mem ts (idxF (p + n) 0 ts).toNat (by omega)
      exact ⟨by dsimp only; omega, by dsimp only; omega, hpr _ hm, ⟨_, hm, rfl⟩⟩
    · rw [if_neg h2]
      have hs := gradF_all (p + n) ts 0 p 0 hts (by omega) hne (by omega)
      have hs2 : sumB (gradF (p + n) 0 p ts) = n := by rw [hs]; omega
      have hp := gradF_pos (p + n) ts 0 p
      have hge := (sumB_ge _ hp).2
      have hpp := gradF_price (p + n) ts 0 p
      have htt : ∀ (l i q : Int) (t : List Tr), ∀ x ∈ gradF l i q t, i ≤ x.t ∧ x.t < i + t.length := by
        intro l i q t
        induction t generalizing i q with
        | nil => intro x hx; cases hx
        | cons y r ih =>
          intro x hx
          unfold gradF at hx
          dsimp only at hx
          generalize (if y.u ≠ 0 then min l y.u else l) = e at hx
          rw [List.length_cons]
          split at hx
          · rcases List.mem_cons.1 hx with rfl | hx
            · dsimp only; omega
            · have := ih _ _ x hx; omega
          · have := ih _ _ x hx; omega
      refine ⟨fun x hx => ?_, hs2⟩
      obtain ⟨t, ht, e⟩ := hpp x hx
      have hq := hpr t ht
      have h3 := htt _ _ _ _ x hx
      have h4 := hp x hx
      have h5 := hge x hx
      exact ⟨by omega, ⟨h4, by omega⟩, by rw [e]; exact hq, ⟨t, ht, e⟩⟩
theorem spl_err {G M B : Int} {ts : List Tr} {p n : Int} (hc : tchk G M B ts = 0) (ho : ¬ outB p n) : splE G M B ts p n = 0 := by
  unfold splE
  rw [if_neg (fun e => e.elim (fun e => e hc) ho)]
theorem spl_ints {G M B : Int} {ts : List Tr} {p n : Int} (hc : tchk G M B ts = 0) (ho : ¬ outB p n) : LnsI (splL G M B ts p n) := by
  intro x hx
  have hb : n ≤ 1073741824 := by unfold outB at ho; omega
  obtain ⟨h1, h2, h3, _⟩ := (spl_facts hc ho).1 x hx
  unfold InI
  omega
theorem spl_len {G M B : Int} {ts : List Tr} {p n : Int} (h6 : ts.length ≤ 100) : (splL G M B ts p n).length ≤ 1000 := by
  have hg : ∀ (l i q : Int) (t : List Tr), (gradF l i q t).length ≤ t.length := by
    intro l i q t
    induction t generalizing i q with
    | nil => simp [gradF]
    | cons x r ih =>
      unfold gradF
      dsimp only
      split
      all_goals split
      all_goals simp only [List.length_cons]
      all_goals first | exact Nat.succ_le_succ (ih _ _) | exact Nat.le_succ_of_le (ih _ _)
  unfold splL
  split
  · simp
  · split
    · simp
    · have := hg (p + n) 0 p ts
      omega
/-- what it costs: an int, at most that many at the dearest price -/
theorem spl_cost {G M B : Int} {ts : List Tr} {p n : Int} (hc : tchk G M B ts = 0) (ho : ¬ outB p n) :
    costOk (splL G M B ts p n) = true ∧ costN (splL G M B ts p n) = costB (splL G M B ts p n) ∧ 0 ≤ costB (splL G M B ts p n) ∧ costB (splL G M B ts p n) ≤ n * dearF 0 ts ∧ (0 ≤ dearF 0 ts ∧ dearF 0 ts ≤ 1048576) := by
  obtain ⟨h1, h2⟩ := spl_facts hc ho
  obtain ⟨_, _, _, _, hts⟩ := (tchk_ok G M B ts).1 hc
  have hb : 0 ≤ n ∧ n ≤ 1073741824 := by unfold outB at ho; omega
  have hd := dearF_ge ts 0
  have hd2 := dearF_in ts 1048576 0 (fun t ht => (Tiers_p ts 0 hts t ht).2) (by omega)
  generalize splL G M B ts p n = L at *
  have hle := cost_le (dearF 0 ts) L (fun x hx => by
    obtain ⟨_, h4, _, t, ht, e⟩ := h1 x hx
    exact ⟨h4.1, by rw [e]; exact hd.2 t ht⟩)
  have h0 : ∀ (l : List Ln), (∀ x ∈ l, 0 < x.b ∧ 0 ≤ x.p) → 0 ≤ costB l := by
    intro l
    induction l with
    | nil => intro _; exact Int.le_refl _
    | cons y r ih =>
      intro h
      have h3 := ih fun x hx => h x (List.mem_cons_of_mem _ hx)
      obtain ⟨h4, h5⟩ := h y (List.mem_cons_self ..)
      have h6 : 0 ≤ y.b * y.p := Int.mul_nonneg (by omega) h5
      show 0 ≤ y.b * y.p + costB r
      omega
  have hpos := h0 L (fun x hx => ⟨(h1 x hx).2.1.1, (h1 x hx).2.2.1.1⟩)
  rw [h2, Int.mul_comm] at hle
  have hbig : n * dearF 0 ts ≤ 1073741824 * 1048576 := Int.mul_le_mul hb.2 hd2 hd.1 (by omega)
  have hall : ∀ x ∈ L, isInt (x.b * x.p) = true := fun x hx => by
    obtain ⟨_, h4, h5, _⟩ := h1 x hx
    have h6 : x.b * x.p ≤ 1073741824 * 1048576 := Int.mul_le_mul (by omega) h5.2 h5.1 (by omega)
    have h7 : 0 ≤ x.b * x.p := Int.mul_nonneg (by omega) h5.1
    rw [isInt_iff]
    omega
  obtain ⟨e1, e2⟩ := cost_all hall
  have e3 : isInt (costB L) = true := by rw [isInt_iff]; omega
  refine ⟨by rw [e2, e3], ?_, hpos, hle, hd.1, hd2⟩
  rw [e1]
  unfold intOr
  rw [e3]
  rfl
end Go.Proofs.Ytfdaokjigjpomaa.tirw
