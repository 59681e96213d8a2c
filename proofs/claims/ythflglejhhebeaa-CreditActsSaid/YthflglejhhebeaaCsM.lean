/- Sessions with grants, as mathematics: which are right, and what a table of them does. -/
namespace Go.Proofs.Ythflglejhhebeaa.cs
set_option linter.unusedVariables false

structure Gr where
  g : Int
  u : Int
  a : Int
  f : Bool
deriving Inhabited, DecidableEq
structure Sx where
  i : Int
  nd : Int
  num : Int
  dl : Int
  gs : List Gr
deriving Inhabited, DecidableEq
/-- a grant that may be one -/
def grOk (x : Gr) : Prop := (1 ≤ x.g ∧ x.g ≤ 8) ∧ (0 ≤ x.u ∧ x.u ≤ 1073741824) ∧ 0 ≤ x.a ∧ x.a ≤ 9007199254740992
instance (x : Gr) : Decidable (grOk x) := by unfold grOk; infer_instance
def goodF : List Gr → List Gr → Bool
  | _, [] => true
  | A, x :: r => if grOk x then (if A.any (fun y => decide (y.g = x.g)) then false else goodF (A ++ [x]) r) else false
def grsB (l : List Gr) : Bool := decide (l.length ≤ 4) && goodF [] l
def numOk (n : Int) : Prop := 0 ≤ n ∧ n ≤ 4611686018427387904
instance (n : Int) : Decidable (numOk n) := by unfold numOk; infer_instance
def rightB (s : Sx) : Bool := decide (1 ≤ s.i) && decide (numOk s.i) && decide (1 ≤ s.nd) && decide (s.nd ≤ 32) && decide (numOk s.num) && decide (numOk s.dl) && grsB s.gs
theorem goodF_step {A l : List Gr} {k : Nat} (h : k < l.length) : goodF A (l.drop k) = if grOk (l.getD k default) then (if A.any (fun y => decide (y.g = (l.getD k default).g)) then false else goodF (A ++ [l.getD k default]) (l.drop (k + 1))) else false := by
  have e : l.drop k = l.getD k default :: l.drop (k + 1) := by rw [List.drop_eq_getElem_cons h]; simp [List.getD, h]
  rw [e]; rfl
theorem rightB_iff (s : Sx) : rightB s = true ↔ (1 ≤ s.i ∧ numOk s.i ∧ 1 ≤ s.nd ∧ s.nd ≤ 32 ∧ numOk s.num ∧ numOk s.dl ∧ grsB s.gs = true) := by
  unfold rightB
  simp only [Bool.and_eq_true, decide_eq_true_eq]
  constructor
  · rintro ⟨⟨⟨⟨⟨⟨h1, h2⟩, h3⟩, h4⟩, h5⟩, h6⟩, h7⟩; exact ⟨h1, h2, h3, h4, h5, h6, h7⟩
  · rintro ⟨h1, h2, h3, h4, h5, h6, h7⟩; exact ⟨⟨⟨⟨⟨⟨h1, h2⟩, h3⟩, h4⟩, h5⟩, h6⟩, h7⟩
theorem goodF_ok : ∀ (l A : List Gr), goodF A l = true → ∀ x ∈ l, grOk x := by
  intro l
  induction l with
  | nil => intro A _ x hx; cases hx
  | cons y r ih =>
    intro A h x hx
    unfold goodF at h
    by_cases h1 : grOk y
    · rw [if_pos h1] at h
      by_cases h2 : A.any (fun z => decide (z.g = y.g)) = true
      · rw [if_pos h2] at h; cases h
      · rw [if_neg h2] at h
        rcases List.mem_cons.1 hx with rfl | hx
        · exact h1
        · exact ih _ h x hx
    · rw [if_neg h1] at h; cases h
theorem grsB_len {l : List Gr} (h : grsB l = true) : l.length ≤ 4 := by
  unfold grsB at h
  simp only [Bool.and_eq_true, decide_eq_true_eq] at h
  exact h.1
theorem grsB_ok {l : List Gr} (h : grsB l = true) : ∀ x ∈ l, grOk x := by
  unfold grsB at h
  simp only [Bool.and_eq_true, decide_eq_true_eq] at h
  exact goodF_ok _ _ h.2
/-- the place of an Id; -1 -/
def sIdx (g : Int) : Int → List Sx → Int
  | _, [] => -1
  | s, x :: r => if x.i = g then s else sIdx g (s + 1) r
theorem sIdx_step {ps : List Sx} {k : Nat} (g : Int) (h : k < ps.length) : sIdx g k (ps.drop k) = if (ps.getD k default).i = g then (k : Int) else sIdx g ((k + 1 : Nat) : Int) (ps.drop (k + 1)) := by
  have e : ps.drop k = ps.getD k default :: ps.drop (k + 1) := by rw [List.drop_eq_getElem_cons h]; simp [List.getD, h]
  rw [e]
  show (if _ then _ else _) = _
  rw [show ((k : Int) + 1) = ((k + 1 : Nat) : Int) by omega]
theorem sIdx_cases (g : Int) : ∀ (l : List Sx) (s : Nat), (sIdx g s l = -1 ∧ ∀ x ∈ l, x.i ≠ g) ∨ ∃ k : Nat, k < l.length ∧ sIdx g s l = ((s + k : Nat) : Int) ∧ (l.getD k default).i = g := by
  intro l
  induction l with
  | nil => intro s; exact .inl ⟨rfl, fun x hx => by cases hx⟩
  | cons p r ih =>
    intro s
    unfold sIdx
    by_cases h : p.i = g
    · rw [if_pos h]; exact .inr ⟨0, by simp, by simp, h⟩
    · rw [if_neg h]
      have e : ((s : Int) + 1) = ((s + 1 : Nat) : Int) := by omega
      rw [e]
      rcases ih (s + 1) with ⟨h1, h2⟩ | ⟨k, h1, h2, h3⟩
      · exact .inl ⟨h1, fun x hx => (List.mem_cons.1 hx).elim (fun e => by subst e; exact h) (fun hx => h2 x hx)⟩
      · exact .inr ⟨k + 1, by simpa using h1, by rw [h2]; omega, by simpa [List.getD] using h3⟩
theorem sIdx_map (g : Int) : ∀ (l m : List Sx) (s : Int), l.map Sx.i = m.map Sx.i → sIdx g s l = sIdx g s m := by
  intro l
  induction l with
  | nil => intro m s h; cases m with
    | nil => rfl
    | cons x r => cases h
  | cons p r ih =>
    intro m s h
    cases m with
    | nil => cases h
    | cons x t =>
      rw [List.map_cons, List.map_cons] at h
      injection h with h1 h2
      unfold sIdx
      rw [h1, ih t (s + 1) h2]
/-- what a table answers, and becomes -/
def addE (pl last : Int) (L : List Sx) (s : Sx) : Int := if rightB s then (if s.i ≤ last then 13 else if pl ≤ (L.length : Int) then 10 else 0) else 1
def addL (pl last : Int) (L : List Sx) (s : Sx) : List Sx := if addE pl last L s = 0 then L ++ [s] else L
def addK (pl last : Int) (L : List Sx) (s : Sx) : Int := if addE pl last L s = 0 then s.i else last
def setE (L : List Sx) (s : Sx) : Int := if rightB s then (if sIdx s.i 0 L < 0 then 7 else 0) else 1
def setL (L : List Sx) (s : Sx) : List Sx := if setE L s = 0 then L.set (sIdx s.i 0 L).toNat s else L
def endE (L : List Sx) (g : Int) : Int := if sIdx g 0 L < 0 then 7 else 0
def endL (L : List Sx) (g : Int) : List Sx := if endE L g = 0 then L.eraseIdx (sIdx g 0 L).toNat else L
def stepE (L : List Sx) (g n : Int) : Int := if sIdx g 0 L < 0 then 7 else if n ≠ (L.getD (sIdx g 0 L).toNat default).num + 1 then 15 else 0
/-- all that a table ever has is right -/
structure TOk (pl last : Int) (L : List Sx) : Prop where
  p1 : 1 ≤ pl ∧ pl ≤ 16
  ln : (L.length : Int) ≤ pl
  la : 0 ≤ last ∧ last ≤ 4611686018427387904
  rt : ∀ x ∈ L, rightB x = true ∧ x.i ≤ last
  ri : (L.map Sx.i).Pairwise (· < ·)
theorem TOk.new {pl : Int} (h : 1 ≤ pl ∧ pl ≤ 16) : TOk pl 0 [] := ⟨h, by simp; omega, by omega, fun x hx => (by cases hx), by simp⟩
theorem TOk.add {pl last : Int} {L : List Sx} (h : TOk pl last L) (s : Sx) : TOk pl (addK pl last L s) (addL pl last L s) := by
  unfold addK addL
  by_cases e : addE pl last L s = 0
  · rw [if_pos e, if_pos e]
    unfold addE at e
    by_cases h1 : rightB s = true
    · rw [if_pos h1] at e
      by_cases h2 : s.i ≤ last
      · rw [if_pos h2] at e; cases e
      · rw [if_neg h2] at e
        by_cases h3 : pl ≤ (L.length : Int)
        · rw [if_pos h3] at e; cases e
        · have hr := (rightB_iff s).1 h1
          have hn := hr.2.1
          unfold numOk at hn
          refine ⟨h.p1, by rw [List.length_append, List.length_singleton]; omega, by have := h.la; omega, fun x hx => ?_, ?_⟩
          · rcases List.mem_append.1 hx with hx | hx
            · have := h.rt x hx; exact ⟨this.1, by omega⟩
            · rw [List.mem_singleton] at hx; subst hx; exact ⟨h1, Int.le_refl _⟩
          · rw [List.map_append, List.pairwise_append]
            refine ⟨h.ri, by simp, fun a ha b hb => ?_⟩
            obtain ⟨x, hx, rfl⟩ := List.mem_map.1 ha
            have h5 := (h.rt x hx).2
            have h6 : b = s.i := by simpa using hb
            omega
    · rw [if_neg h1] at e; cases e
  · rw [if_neg e, if_neg e]; exact h
theorem getD_memS {l : List Sx} {k : Nat} (h : k < l.length) : l.getD k default ∈ l := by
  have : l.getD k default = l[k] := by simp [List.getD, h]
  rw [this]; exact List.getElem_mem h
theorem TOk.set {pl last : Int} {L : List Sx} (h : TOk pl last L) (s : Sx) : TOk pl last (setL L s) := by
  unfold setL
  by_cases e : setE L s = 0
  · rw [if_pos e]
    unfold setE at e
    by_cases h1 : rightB s = true
    · rw [if_pos h1] at e
      rcases sIdx_cases s.i L 0 with ⟨h2, h3⟩ | ⟨k, h2, h3, h4⟩
      · rw [show ((0 : Nat) : Int) = 0 from rfl] at h2; rw [h2] at e; cases e
      · refine ⟨h.p1, by rw [List.length_set]; exact h.ln, h.la, fun x hx => ?_, ?_⟩
        · rcases List.mem_or_eq_of_mem_set hx with hx | hx
          · exact h.rt x hx
          · subst hx
            have := h.rt _ (getD_memS h2)
            rw [h4] at this
            exact ⟨h1, this.2⟩
        · rw [show ((0 : Nat) : Int) = 0 from rfl, Nat.zero_add] at h3
          rw [h3, Int.toNat_natCast, List.map_set]
          have e : (L.map Sx.i).set k s.i = L.map Sx.i := by
            apply List.ext_getElem
            · simp
            · intro j h5 h6
              rw [List.getElem_set]
              split
              · rename_i e5
                subst e5
                rw [← h4]
                simp [List.getD, h2]
              · rfl
          rw [e]; exact h.ri
    · rw [if_neg h1] at e; cases e
  · rw [if_neg e]; exact h
theorem TOk.fin {pl last : Int} {L : List Sx} (h : TOk pl last L) (g : Int) : TOk pl last (endL L g) := by
  unfold endL
  by_cases e : endE L g = 0
  · rw [if_pos e]
    refine ⟨h.p1, ?_, h.la, fun x hx => h.rt x (List.mem_of_mem_eraseIdx hx), h.ri.sublist ((List.eraseIdx_sublist _ _).map _)⟩
    have := h.ln
    have h2 : (L.eraseIdx (sIdx g 0 L).toNat).length ≤ L.length := (List.eraseIdx_sublist _ _).length_le
    omega
  · rw [if_neg e]; exact h
theorem sIdx_at (g : Int) : ∀ (l : List Sx) (s k : Nat), k < l.length → (l.getD k default).i = g → (∀ j, j < k → (l.getD j default).i ≠ g) → sIdx g s l = ((s + k : Nat) : Int) := by
  intro l
  induction l with
  | nil => intro s k h; simp at h
  | cons x r ih =>
    intro s k hk he hn
    unfold sIdx
    cases k with
    | zero => rw [if_pos (by simpa [List.getD] using he)]; simp
    | succ k =>
      have h0 := hn 0 (by omega)
      rw [if_neg (by simpa [List.getD] using h0)]
      have e : ((s : Int) + 1) = ((s + 1 : Nat) : Int) := by omega
      rw [e, ih (s + 1) k (by simpa using hk) (by simpa [List.getD] using he) (fun j hj => by have := hn (j + 1) (by omega); simpa [List.getD] using this)]
      omega
theorem TOk.idx {pl last : Int} {L : List Sx} (h : TOk pl last L) {k : Nat} (hk : k < L.length) : sIdx (L.getD k default).i 0 L = (k : Int) := by
  have := sIdx_at (L.getD k default).i L 0 k hk rfl (fun j hj e => by
    have h1 := List.pairwise_iff_getElem.1 h.ri j k (by rw [List.length_map]; omega) (by rw [List.length_map]; exact hk) hj
    simp only [List.getElem_map] at h1
    have e1 : L.getD j default = L[j] := by simp [List.getD, show j < L.length by omega]
    have e2 : L.getD k default = L[k] := by simp [List.getD, hk]
    rw [e1, e2] at e
    omega)
  rw [Nat.zero_add] at this
  exact this
/-- all grants of a node's sessions -/
def gOf (L : List Sx) (n : Int) : List Gr := L.flatMap (fun x => if x.nd = n then x.gs else [])
theorem gOf_step {L : List Sx} {k : Nat} (n : Int) (h : k < L.length) : gOf (L.take (k + 1)) n = gOf (L.take k) n ++ (if (L.getD k default).nd = n then (L.getD k default).gs else []) := by
  unfold gOf
  have e : L.take (k + 1) = L.take k ++ [L.getD k default] := by rw [List.take_succ_eq_append_getElem h]; simp [List.getD, h]
  rw [e, List.flatMap_append]
  simp
theorem gOf_mem {L : List Sx} {n : Int} {y : Gr} (h : y ∈ gOf L n) : ∃ x ∈ L, y ∈ x.gs := by
  unfold gOf at h
  obtain ⟨x, hx, hy⟩ := List.mem_flatMap.1 h
  by_cases e : x.nd = n
  · rw [if_pos e] at hy; exact ⟨x, hx, hy⟩
  · rw [if_neg e] at hy; cases hy
theorem gOf_len (L : List Sx) (n : Int) (h : ∀ x ∈ L, x.gs.length ≤ 4) : (gOf L n).length ≤ 4 * L.length := by
  induction L with
  | nil => simp [gOf]
  | cons x r ih =>
    have h1 := ih (fun y hy => h y (List.mem_cons_of_mem _ hy))
    have h2 := h x (List.mem_cons_self ..)
    have e : gOf (x :: r) n = (if x.nd = n then x.gs else []) ++ gOf r n := rfl
    rw [e, List.length_append, List.length_cons]
    split <;> simp <;> omega
end Go.Proofs.Ythflglejhhebeaa.cs
