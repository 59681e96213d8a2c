/- A region that draws its order: a load of a cell that the region's own last store writes may be taken first, as what writes waits for it. -/
import Derived.Deep.RegionHeld3
namespace Go.Proofs.Ytcbpgplmphgcgaa.late
open Go
set_option linter.unusedVariables false
section
variable {P : Program} {ops : Array Oper} {Q : Exit → Act → World → Prop} {md : Region.Mode} {S : World → Prop} {L : Nat → Bool}

/-- in whatever order it goes on; behind each operation that isn't a late one S holds -/
def Late (P : Program) (md : Region.Mode) (ops : Array Oper) (Q : Exit → Act → World → Prop) (S : World → Prop) (L : Nat → Bool) : Nat → Array Bool → Act → World → Prop
  | 0, d, a, w => Region.ready md ops d = [] ∧ Q .normal a w
  | n + 1, d, a, w =>
    (Region.ready md ops d = [] → Q .normal a w) ∧
    ∀ i, i ∈ Region.ready md ops d → wpOp P ops Q i (fun b u => (L i = false → S u) ∧ Late P md ops Q S L n (d.setIfInBounds i true) b u) a w

theorem Late.any : ∀ (n : Nat) (d : Array Bool) (a : Act) (w : World), Late P md ops Q S L n d a w → wpAny P md ops Q n d a w
  | 0, _, _, _, h => h
  | n + 1, d, a, w, h => ⟨h.1, fun i hi => wpOp_mono (fun b u hb => Late.any n _ b u hb.2) (h.2 i hi)⟩

/-- the operations of B wait, each for one of B or for number i -/
def waits (md : Region.Mode) (ops : Array Oper) (L B : Nat → Bool) (i : Nat) (d : Array Bool) : Bool :=
  (List.range ops.size).all fun j => (!L j || B j || d.getD j true) && (!B j || (!(d.getD j true) && match ops[j]? with
    | some o => o.after.any fun e => Region.binds md e && (e.on == i || B e.on)
    | none => false))

theorem getD_unlisted {d : Array Bool} {j : Nat} (h : d.getD j true = false) : d.getD j false = false := by
  by_cases hj : j < d.size
  · simpa [Array.getD, hj] using h
  · simp [Array.getD, hj]

theorem not_of_ready {B : Nat → Bool} {i j : Nat} {d : Array Bool} (hb : waits md ops L B i d = true) (hin : ∀ k, B k = true → k < ops.size) (hi : d.getD i true = false)
    (hj : j ∈ Region.ready md ops d) : B j = false := by
  by_cases h : B j = true
  · exfalso
    obtain ⟨h0, o, ho, hall⟩ := mem_ready.1 hj
    have hjs := hin j h
    have h1 := List.all_eq_true.1 hb j (List.mem_range.2 hjs)
    rw [h, ho] at h1
    simp only [Bool.not_true, Bool.false_or, Bool.and_eq_true, Array.any_eq_true] at h1
    obtain ⟨_, _, x, hx, h2, h3⟩ := h1
    have h4 := hall o.after[x] (Array.getElem_mem hx) h2
    simp only [Bool.or_eq_true, beq_iff_eq] at h3
    rcases h3 with h3 | h3
    · rw [h3, getD_unlisted hi] at h4; cases h4
    · have h5 := List.all_eq_true.1 hb _ (List.mem_range.2 (hin _ h3))
      rw [h3] at h5
      simp only [Bool.not_true, Bool.false_or, Bool.and_eq_true, Bool.not_eq_true'] at h5
      rw [getD_unlisted h5.2.1] at h4; cases h4
  · simpa using h

theorem first {B : Nat → Bool} {i : Nat} {oi : Oper} {v : Value} (hi : ops[i]? = some oi) (hsel : ∀ (j : Nat) (o : Oper) cs b, ops[j]? = some o → o.op ≠ .select cs b)
    (hQ : ∀ c a w, Q (.panic c) (a.put oi.dst v) w → Q (.panic c) a w) (hin : ∀ k, B k = true → k < ops.size) :
    ∀ (n : Nat) (d : Array Bool) (a : Act) (w : World), waits md ops L B i d = true →
      (∀ j oj, ops[j]? = some oj → j ≠ i → d.getD j true = false → (∀ e ∈ oj.after, Region.binds md e = true → e.on ≠ i) → oi.apart ops oj = true) →
      i ∈ Region.ready md ops d → YieldsIf P ops S oi v a → S w →
      Late P md ops Q S L n (d.setIfInBounds i true) (a.put oi.dst v) w → Late P md ops Q S L (n + 1) d a w := by
  intro n
  induction n with
  | zero =>
    intro d a w hb hfree hr hy hS H
    have hiu := (mem_ready.1 hr).1
    refine ⟨fun h => (by rw [h] at hr; cases hr), fun j hj => ?_⟩
    by_cases hji : j = i
    · subst hji; exact hy.wpOp hi hS ⟨fun _ => hS, H⟩
    · have := ready_mono hj hji
      rw [H.1] at this
      cases this
  | succ n ih =>
    intro d a w hb hfree hr hy hS H
    have hiu := (mem_ready.1 hr).1
    refine ⟨fun h => (by rw [h] at hr; cases hr), fun j hj => ?_⟩
    by_cases hji : j = i
    · subst hji; exact hy.wpOp hi hS ⟨fun _ => hS, H⟩
    · have hBj := not_of_ready hb hin hiu hj
      obtain ⟨hjun, oj, hoj, hall⟩ := mem_ready.1 hj
      have hjs : j < ops.size := (Array.getElem?_eq_some_iff.1 hoj).1
      have hLj : L j = false := by
        have h1 := List.all_eq_true.1 hb j (List.mem_range.2 hjs)
        rw [hBj, hjun] at h1
        simp at h1
        exact h1
      have hnot : ∀ e ∈ oj.after, Region.binds md e = true → e.on ≠ i := fun e he hbd heq => by
        have h1 := hall e he hbd
        rw [heq, getD_unlisted hiu] at h1
        cases h1
      have h2 := wpOp_putIf hoj (hfree j oj hoj hji hjun hnot) (fun cs b => hsel i oi cs b hi) (fun cs b => hsel j oj cs b hoj) hQ hy (H.2 j (ready_mono hj hji))
      have hfree' : ∀ k ok, ops[k]? = some ok → k ≠ i → (d.setIfInBounds j true).getD k true = false →
          (∀ e ∈ ok.after, Region.binds md e = true → e.on ≠ i) → oi.apart ops ok = true := fun k ok hk hki hun hno => by
        refine hfree k ok hk hki ?_ hno
        by_cases hjk : j = k
        · subst hjk; exact hjun
        · rw [getD_set_ne true hjk] at hun; exact hun
      have hb' : waits md ops L B i (d.setIfInBounds j true) = true := by
        refine List.all_eq_true.2 fun k hk => ?_
        have h1 := List.all_eq_true.1 hb k hk
        by_cases hkj : j = k
        · subst hkj
          rw [hBj] at h1 ⊢
          simp
        · rw [getD_set_ne true hkj]; exact h1
      refine wpOp_mono (fun b u h3 => ⟨h3.2.1, ih (d.setIfInBounds j true) b u hb' hfree' (ready_mono hr (Ne.symm hji)) h3.1 (h3.2.1 hLj) ?_⟩) h2
      rw [Array.setIfInBounds_comm _ _ hji]
      exact h3.2.2

/-- number i is taken first; Bs: those that wait for it, with all late ones -/
theorem take {i : Nat} (Bs : List Nat) {oi : Oper} {v : Value} {n : Nat} {d : Array Bool} {a : Act} {w : World} (hi : ops[i]? = some oi)
    (hs : Region.noSelect ops = true) (hf : Region.free md ops d i = true) (hr : (Region.ready md ops d).contains i = true)
    (hB : (waits md ops L (fun j => Bs.contains j) i d && Bs.all fun j => decide (j < ops.size)) = true)
    (hQ : ∀ c a w, Q (.panic c) (a.put oi.dst v) w → Q (.panic c) a w) (hy : YieldsIf P ops S oi v a) (hS : S w)
    (h : Late P md ops Q S L n (d.setIfInBounds i true) (a.put oi.dst v) w) : Late P md ops Q S L (n + 1) d a w := by
  rw [Bool.and_eq_true] at hB
  refine first (B := fun j => Bs.contains j) hi (Region.noSelect_spec hs) hQ (fun k hk => ?_) n d a w hB.1 (Region.free_spec hi hf) (by simpa using hr) hy hS h
  have := List.all_eq_true.1 hB.2 k (by simpa using hk)
  simpa using this

/-- each of those that may come up next -/
def Each (P : Program) (md : Region.Mode) (ops : Array Oper) (Q : Exit → Act → World → Prop) (S : World → Prop) (L : Nat → Bool) (n : Nat) (d : Array Bool) (a : Act) (w : World) (rs : List Nat) : Prop :=
  ∀ i, i ∈ rs → wpOp P ops Q i (fun b u => (L i = false → S u) ∧ Late P md ops Q S L n (d.setIfInBounds i true) b u) a w
theorem Each.nil {n : Nat} {d : Array Bool} {a : Act} {w : World} : Each P md ops Q S L n d a w [] := fun _ h => by cases h
theorem Each.cons {n : Nat} {d : Array Bool} {a : Act} {w : World} {i : Nat} {o : Oper} {rs : List Nat} (ho : ops[i]? = some o)
    (h : ∀ K : Act → World → Prop, Shut (∀ b u, (L i = false → S u) → ((L i = false → S u) → Late P md ops Q S L n (d.setIfInBounds i true) b u) → K b u) → if Region.wanted o (yielded ops a.tmps) = true then Oper.wp P o a w K Q else K (a.put o.dst undef) w)
    (hs : Each P md ops Q S L n d a w rs) : Each P md ops Q S L n d a w (i :: rs) := fun j hj => by
  rcases List.mem_cons.1 hj with rfl | hj
  · exact wpOp_step ho (fun K hK => h K (fun b u hS hW => hK b u ⟨hS, hW hS⟩))
  · exact hs j hj
theorem ready {rs : List Nat} {n : Nat} {d : Array Bool} {a : Act} {w : World} (hr : Region.ready md ops d = rs) (hne : rs ≠ [])
    (h : Each P md ops Q S L n d a w rs) : Late P md ops Q S L (n + 1) d a w :=
  ⟨fun h0 => absurd (hr ▸ h0) hne, fun i hi => h i (hr ▸ hi)⟩
theorem done {d : Array Bool} {a : Act} {w : World} (hr : Region.ready md ops d = []) (h : Q .normal a w) : ∀ n, Late P md ops Q S L n d a w
  | 0 => ⟨hr, h⟩
  | _ + 1 => ⟨fun _ => h, fun i hi => by rw [hr] at hi; cases hi⟩
/-- the beginning: L says which are late -/
theorem region (S : World → Prop) (L : Nat → Bool) {id : Nat} {a : Act} {w : World} (hm : P.follows .mixedOrders = true) (hS : S w.drew)
    (h : S w.drew → Late P .any ops Q S L ops.size (Array.replicate ops.size false) a w.drew) : (Code.region id ops true).wp P Q a w :=
  wp_region_any hm (Late.any _ _ _ _ (h hS))
end
end Go.Proofs.Ytcbpgplmphgcgaa.late
