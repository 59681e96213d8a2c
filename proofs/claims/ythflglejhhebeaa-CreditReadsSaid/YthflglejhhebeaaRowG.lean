/- Rows of any structs: an encoder of so many cells; a row of the call's own, a row that is read, an append, a store of one. -/
import Derived.Test.YthflglejhhebeaaMem
import Derived.Test.YthflglejhhebeaaStepApp
namespace Go.Proofs.Ythflglejhhebeaa.rwg
open Go.RowKit mem
set_option linter.unusedVariables false

structure Enc (α : Type) where
  t : TypeId
  z : Nat
  enc : α → List Value
  len : ∀ x, (enc x).length = z
  one : ∀ x, ∀ u ∈ enc x, u.oneCell' = true
section
variable {α : Type} (E : Enc α)
def gv (l : List α) : List Value := l.flatMap E.enc
theorem gv_nil : gv E [] = [] := rfl
theorem gv_cons (x : α) (r : List α) : gv E (x :: r) = E.enc x ++ gv E r := by simp [gv]
theorem gv_append (a b : List α) : gv E (a ++ b) = gv E a ++ gv E b := by simp [gv]
theorem gv_single (x : α) : gv E [x] = E.enc x := by simp [gv]
theorem gv_length (l : List α) : (gv E l).length = l.length * E.z := by
  induction l with
  | nil => simp [gv]
  | cons x r ih => rw [gv_cons, List.length_append, ih, E.len, List.length_cons, Nat.succ_mul]; omega
theorem gv_one (l : List α) : ∀ u ∈ gv E l, u.oneCell' = true := by
  intro u hu
  simp only [gv, List.mem_flatMap] at hu
  obtain ⟨x, _, hx⟩ := hu
  exact E.one x u hx
theorem gv_take : ∀ (l : List α) (k : Nat), (gv E l).take (k * E.z) = gv E (l.take k) := by
  intro l
  induction l with
  | nil => intro k; simp [gv]
  | cons x r ih =>
    intro k
    cases k with
    | zero => simp [gv]
    | succ k =>
      rw [Nat.succ_mul, List.take_succ_cons, gv_cons, gv_cons, ← ih k, Nat.add_comm, List.take_append, E.len, List.take_of_length_le (by rw [E.len]; omega)]
      congr 2
      omega
theorem gv_drop : ∀ (l : List α) (k : Nat), (gv E l).drop (k * E.z) = gv E (l.drop k) := by
  intro l
  induction l with
  | nil => intro k; simp [gv]
  | cons x r ih =>
    intro k
    cases k with
    | zero => simp [gv]
    | succ k =>
      rw [Nat.succ_mul, List.drop_succ_cons, gv_cons, ← ih k, Nat.add_comm, List.drop_append, E.len, List.drop_eq_nil_of_le (by rw [E.len]; omega), List.nil_append]
      congr 1
      omega
theorem drop_getG [Inhabited α] (l : List α) (k : Nat) (h : k < l.length) : l.drop k = l.getD k default :: l.drop (k + 1) := by
  rw [List.drop_eq_getElem_cons h]; simp [List.getD, h]
theorem take_getG [Inhabited α] (l : List α) (k : Nat) (h : k < l.length) : l.take (k + 1) = l.take k ++ [l.getD k default] := by
  rw [List.take_succ_eq_append_getElem h]; simp [List.getD, h]
theorem gv_get [Inhabited α] (l : List α) (i c : Nat) (hi : i < l.length) (hc : c < E.z) : (gv E l)[i * E.z + c]? = (E.enc (l.getD i default))[c]? := by
  rw [← List.getElem?_drop, gv_drop, drop_getG l i hi, gv_cons, List.getElem?_append_left (by rw [E.len]; exact hc)]
theorem enc_lt {x : α} {c : Nat} {v : Value} (h : (E.enc x)[c]? = some v) : c < E.z := by
  rw [← E.len x]
  exact (List.getElem?_eq_some_iff.1 h).1
def OwnR (w : World) (v : Value) (l : List α) : Prop := w.ownsRow 0 E.t E.z v l.length (gv E l)
theorem OwnR.nil (w : World) : OwnR E w (.slice none 0 0) [] := World.ownsRow_nil _ _ _ _
variable {E}
theorem OwnR.only {S : Nat → Prop} {w w' : World} {v : Value} {l : List α} (h : OwnR E w v l) (ho : Only S w w') (hs : ∀ k, v.ownBlock = some k → ¬ S k) : OwnR E w' v l := owns_only ho h hs
theorem OwnR.quiet {w w' : World} {v : Value} {l : List α} (h : OwnR E w v l) (ho : Only (fun _ => False) w w') : OwnR E w' v l := h.only ho (fun _ _ f => f)
theorem OwnR.lt {w : World} {v : Value} {l : List α} (h : OwnR E w v l) {q : Nat} (hq : v.ownBlock = some q) : q < w.heap.size := by
  rcases h.2 with ⟨hv, hn⟩ | ⟨g, cap, cur, hv, hg, hh, _⟩
  · rw [hv] at hq; simp [Value.ownBlock] at hq
  · rw [hv] at hq
    have e : g = q := by simpa [Value.ownBlock] using hq
    rw [← e]; exact heap_lt hh
/-- the cells of a row -/
def CellsR [Inhabited α] (E : Enc α) (w : World) (b off : Nat) (l : List α) : Prop := ∀ k, k < l.length → ∀ (c : Nat) (v : Value), (E.enc (l.getD k default))[c]? = some v → w.cell? ⟨b, off + k * E.z + c, none⟩ = some v
theorem CellsR.only [Inhabited α] {S : Nat → Prop} {w w' : World} {b off : Nat} {l : List α} (h : CellsR E w b off l) (ho : Only S w w') (hs : ¬ S b) : CellsR E w' b off l := fun k hk c v hv => ho.cell' (h k hk c v hv) hs
theorem OwnR.cells [Inhabited α] {w : World} {g n cap : Nat} {l : List α} (h : OwnR E w (.slice (some ⟨g, 0, none⟩) n cap) l) : CellsR E w g 0 l := fun k hk c v hv => by
  have hn : l.length = n := by
    rcases h.2 with ⟨hv, _⟩ | ⟨g', cap', cur, hv, _⟩
    · cases hv
    · injection hv with _ e _; exact e.symm
  have hc := enc_lt E hv
  have hlt : k * E.z + c < l.length * E.z := by
    have : (k + 1) * E.z ≤ l.length * E.z := Nat.mul_le_mul_right _ (by omega)
    rw [Nat.succ_mul] at this
    omega
  have h1 : w.ownsRow 0 E.t E.z (.slice (some ⟨g, 0, none⟩) n cap) n (gv E l) := by
    have := h; unfold OwnR at this; rwa [hn] at this
  rw [Nat.zero_add, h1.cellAt (k * E.z + c) (by rw [← hn]; exact hlt), gv_get E l k c hk hc]
  exact hv
theorem OwnR.form [Inhabited α] {w : World} {v : Value} {l : List α} (h : OwnR E w v l) : (v = .slice none 0 0 ∧ l = []) ∨ ∃ g cap, v = .slice (some ⟨g, 0, none⟩) l.length cap ∧ g < w.heap.size ∧ l.length ≤ cap ∧ cap ≤ maxLen ∧ CellsR E w g 0 l := by
  have h0 := h
  rcases h.2 with ⟨hv, hn⟩ | ⟨g, cap, cur, hv, hg, hh, hc, hm, _⟩
  · exact .inl ⟨hv, List.eq_nil_of_length_eq_zero hn⟩
  · refine .inr ⟨g, cap, hv, heap_lt hh, hc, hm, ?_⟩
    rw [hv] at h0
    exact h0.cells
/-- a row that is read, nil or not -/
def ReadsR [Inhabited α] (E : Enc α) (w : World) (a : Option Addr) (len : Nat) (l : List α) : Prop := l.length = len ∧ (len = 0 ∨ ∃ b off, a = some ⟨b, off, none⟩ ∧ CellsR E w b off l)
theorem ReadsR.only [Inhabited α] {S : Nat → Prop} {w w' : World} {a : Option Addr} {len : Nat} {l : List α} (h : ReadsR E w a len l) (ho : Only S w w') (hs : ∀ x, a = some x → ¬ S x.block) : ReadsR E w' a len l :=
  ⟨h.1, h.2.imp (fun x => x) fun ⟨b, off, e, hc⟩ => ⟨b, off, e, hc.only ho (hs _ e)⟩⟩
theorem ReadsR.quiet [Inhabited α] {w w' : World} {a : Option Addr} {len : Nat} {l : List α} (h : ReadsR E w a len l) (ho : Only (fun _ => False) w w') : ReadsR E w' a len l := h.only ho (fun _ _ f => f)
theorem ReadsR.nil [Inhabited α] (E : Enc α) (w : World) (a : Option Addr) : ReadsR E w a 0 ([] : List α) := ⟨rfl, .inl rfl⟩
theorem ReadsR.take [Inhabited α] {w : World} {a : Option Addr} {len : Nat} {l : List α} (h : ReadsR E w a len l) (n : Nat) (hn : n ≤ len) : ReadsR E w a n (l.take n) := by
  have hl := h.1
  refine ⟨by rw [List.length_take]; omega, ?_⟩
  rcases h.2 with e | ⟨b, off, e, hc⟩
  · left; omega
  · refine .inr ⟨b, off, e, fun k hk c v hv => ?_⟩
    rw [List.length_take] at hk
    refine hc k (by omega) c v ?_
    rw [← hv]
    congr 2
    simp [List.getD, show k < n by omega]
theorem ReadsR.drop [Inhabited α] {w : World} {b off : Nat} {len : Nat} {l : List α} (h : ReadsR E w (some ⟨b, off, none⟩) len l) (n : Nat) (hn : n ≤ len) : ReadsR E w (some ⟨b, off + n * E.z, none⟩) (len - n) (l.drop n) := by
  have hl := h.1
  refine ⟨by rw [List.length_drop]; omega, ?_⟩
  rcases h.2 with e | ⟨b', off', e, hc⟩
  · left; omega
  · injection e with e
    injection e with e1 e2
    subst e1 e2
    refine .inr ⟨b, _, rfl, fun k hk c v hv => ?_⟩
    rw [List.length_drop] at hk
    have := hc (n + k) (by omega) c v (by
      rw [← hv]
      congr 2
      simp [List.getD, List.getElem?_drop])
    rw [Nat.add_mul] at this
    rw [show off + n * E.z + k * E.z + c = off + (n * E.z + k * E.z) + c by omega]
    exact this
theorem OwnR.reads [Inhabited α] {w : World} {v : Value} {l : List α} (h : OwnR E w v l) : ∃ a cap, v = .slice a l.length cap ∧ l.length ≤ cap ∧ cap ≤ maxLen ∧ (a = none → cap = 0) ∧ ReadsR E w a l.length l ∧ ∀ y, a = some y → v.ownBlock = some y.block := by
  rcases h.form with ⟨rfl, rfl⟩ | ⟨g, cap, rfl, hg, hc, hm, hk⟩
  · exact ⟨none, 0, rfl, Nat.le_refl _, Nat.zero_le _, fun _ => rfl, ReadsR.nil _ _ _, fun y e => (by cases e)⟩
  · exact ⟨_, cap, rfl, hc, hm, fun e => (by cases e), ⟨rfl, .inr ⟨g, 0, rfl, hk⟩⟩, fun y e => (by cases e; rfl)⟩
/-- a new block's cells -/
theorem news_one (E : Enc α) {w : World} {g : Nat} {x : α} {cs : Array Value} {t : TypeId} (hg : g = w.heap.size) (hc : cs.toList = E.enc x) : ∀ j u, (E.enc x)[j]? = some u → (w.alloc (.cells cs t)).cell? ⟨g, j, none⟩ = some u := fun j u hu => by
  rw [hg, Go.Joins.cell_of_block (cs := cs) (t := t) (fr := (0, 0)) (by rw [heap_alloc, if_pos rfl])]
  rw [← hu, ← hc]
  simp
theorem gv_set : ∀ (l : List α) (i : Nat) (x : α), i < l.length → ((gv E l).take (i * E.z)) ++ E.enc x ++ (gv E l).drop ((i + 1) * E.z) = gv E (l.set i x) := by
  intro l i x hi
  rw [gv_take, gv_drop, List.set_eq_take_append_cons_drop, if_pos hi, gv_append, gv_cons, List.append_assoc]
/-- cells of a row, one behind the other, stored -/
def putsR (g : Nat) : Nat → List Value → World → World
  | _, [], w => w
  | o, v :: vs, w => putsR g (o + 1) vs (w.setCell ⟨g, o, none⟩ v)
theorem putsR_only (g : Nat) : ∀ (vs : List Value) (o : Nat) (w : World), Only (fun q => q = g) w (putsR g o vs w) := by
  intro vs
  induction vs with
  | nil => intro o w; exact Only.refl _ _
  | cons v vs ih => intro o w; exact ((Only.refl (fun q => q = g) w).setCell (p := ⟨g, o, none⟩) (.inl rfl) v).trans (ih (o + 1) _)
theorem addr_ne {g i j : Nat} (h : i ≠ j) : (⟨g, i, none⟩ : Addr) ≠ ⟨g, j, none⟩ := fun e => h (by injection e)
theorem putsR_lo (g : Nat) : ∀ (vs : List Value) (o : Nat) (w : World) (j : Nat), j < o → (putsR g o vs w).cell? ⟨g, j, none⟩ = w.cell? ⟨g, j, none⟩ := by
  intro vs
  induction vs with
  | nil => intro o w j hj; rfl
  | cons v vs ih =>
    intro o w j hj
    show (putsR g (o + 1) vs (w.setCell ⟨g, o, none⟩ v)).cell? _ = _
    rw [ih (o + 1) _ j (by omega), cell_other (addr_ne (by omega))]
theorem putsR_cell (g : Nat) : ∀ (vs : List Value) (o : Nat) (w : World), (∀ k, k < vs.length → ∃ u, w.cell? ⟨g, o + k, none⟩ = some u) → ∀ (k : Nat) (v : Value), vs[k]? = some v → (putsR g o vs w).cell? ⟨g, o + k, none⟩ = some v := by
  intro vs
  induction vs with
  | nil => intro o w h k v hv; cases hv
  | cons x vs ih =>
    intro o w h k v hv
    show (putsR g (o + 1) vs (w.setCell ⟨g, o, none⟩ x)).cell? _ = _
    cases k with
    | zero =>
      obtain ⟨u, hu⟩ := h 0 (by simp)
      rw [putsR_lo g vs (o + 1) _ (o + 0) (by omega)]
      have e : x = v := by simpa using hv
      rw [← e]
      exact cell_same hu
    | succ k =>
      have e : o + (k + 1) = o + 1 + k := by omega
      rw [e]
      refine ih (o + 1) _ (fun j hj => ?_) k v (by simpa using hv)
      obtain ⟨u, hu⟩ := h (j + 1) (by simpa using hj)
      refine ⟨u, ?_⟩
      rw [cell_other (addr_ne (by omega)), show o + 1 + j = o + (j + 1) by omega]
      exact hu
theorem set_take_drop (xs : List Value) (o : Nat) (v : Value) (vs : List Value) (h : o + vs.length < xs.length) : (xs.set o v).take (o + 1) ++ vs ++ (xs.set o v).drop (o + 1 + vs.length) = xs.take o ++ (v :: vs) ++ xs.drop (o + (vs.length + 1)) := by
  have ho : o < xs.length := by omega
  have h1 : (xs.set o v).take (o + 1) = xs.take o ++ [v] := by
    rw [List.take_succ_eq_append_getElem (by rw [List.length_set]; exact ho), List.getElem_set_self, List.take_set_of_le (Nat.le_refl _)]
  have h2 : (xs.set o v).drop (o + 1 + vs.length) = xs.drop (o + (vs.length + 1)) := by
    rw [List.drop_set_of_lt (by omega)]
    congr 1
    omega
  rw [h1, h2]
  simp
theorem putsR_own {base size n cap g : Nat} {e : TypeId} : ∀ (vs : List Value) (o : Nat) (w : World) (xs : List Value), o + vs.length ≤ xs.length → w.ownsRow base e size (.slice (some ⟨g, 0, none⟩) n cap) n xs → (putsR g o vs w).ownsRow base e size (.slice (some ⟨g, 0, none⟩) n cap) n (xs.take o ++ vs ++ xs.drop (o + vs.length)) := by
  intro vs
  induction vs with
  | nil => intro o w xs hl h; simpa [putsR] using h
  | cons v vs ih =>
    intro o w xs hl h
    rw [List.length_cons] at hl ⊢
    have h1 := (h.stored o v).1
    have h2 := ih (o + 1) (w.setCell ⟨g, o, none⟩ v) (xs.set o v) (by rw [List.length_set]; omega) h1
    rw [set_take_drop xs o v vs (by omega)] at h2
    exact h2
theorem OwnR.put {w : World} {g cap : Nat} {l : List α} (h : OwnR E w (.slice (some ⟨g, 0, none⟩) l.length cap) l) (i : Nat) (x : α) (hi : i < l.length) : OwnR E (putsR g (i * E.z) (E.enc x) w) (.slice (some ⟨g, 0, none⟩) l.length cap) (l.set i x) ∧ Only (fun q => q = g) w (putsR g (i * E.z) (E.enc x) w) := by
  refine ⟨?_, putsR_only _ _ _ _⟩
  unfold OwnR at h ⊢
  rw [List.length_set, ← gv_set l i x hi]
  have hb : (i + 1) * E.z ≤ l.length * E.z := Nat.mul_le_mul_right _ (by omega)
  rw [Nat.succ_mul] at hb
  have := putsR_own (E.enc x) (i * E.z) w (gv E l) (by rw [gv_length, E.len]; exact hb) h
  rw [E.len] at this
  rw [Nat.succ_mul]
  exact this
theorem OwnR.frozen {w : World} {g n cap : Nat} {l : List α} (h : OwnR E w (.slice (some ⟨g, 0, none⟩) n cap) l) (o : Nat) : w.frozen? ⟨g, o, none⟩ = false := by
  rcases h.2 with ⟨hv, _⟩ | ⟨g', cap', cur, hv, _, hg, _⟩
  · cases hv
  · injection hv with e _ _
    injection e with e
    injection e with e
    subst e
    unfold World.frozen?
    dsimp only
    rw [hg]
    simp
/-- an append of one, in a walk's law's form -/
theorem OwnR.app {w : World} {v : Value} {l : List α} {x : α} {n : Nat} (h : w.ownsRow 0 E.t E.z v (n + 1) (gv E l ++ E.enc x)) (hn : l.length = n) : OwnR E w v (l ++ [x]) := by
  unfold OwnR
  rw [List.length_append, gv_append, gv_single, hn]
  exact h
theorem OwnR.app_list {w : World} {v : Value} {l l2 : List α} {n m : Nat} (h : w.ownsRow 0 E.t E.z v (n + m) (gv E l ++ gv E l2)) (hn : l.length = n) (hm : l2.length = m) : OwnR E w v (l ++ l2) := by
  unfold OwnR
  rw [List.length_append, gv_append, hn, hm]
  exact h
theorem ReadsR.news [Inhabited α] {w : World} {x : Addr} {len : Nat} {l : List α} (h : ReadsR E w (some x) len l) : ∀ j u, (gv E l)[j]? = some u → w.cell? (x.add j) = some u := by
  intro j u hu
  have hj : j < l.length * E.z := by rw [← gv_length]; exact (List.getElem?_eq_some_iff.1 hu).1
  have hz : 0 < E.z := by
    rcases Nat.eq_zero_or_pos E.z with e | e
    · rw [e, Nat.mul_zero] at hj; omega
    · exact e
  have hk : j / E.z < l.length := (Nat.div_lt_iff_lt_mul hz).2 hj
  have hc : j % E.z < E.z := Nat.mod_lt _ hz
  have hjj : j / E.z * E.z + j % E.z = j := Nat.div_add_mod' j E.z
  rcases h.2 with e | ⟨b, off, e, hcl⟩
  · rw [h.1, e] at hk; exact absurd hk (Nat.not_lt_zero _)
  · injection e with e
    subst e
    rw [add_none]
    have h1 := gv_get E l (j / E.z) (j % E.z) hk hc
    rw [hjj, hu] at h1
    have h2 := hcl (j / E.z) hk (j % E.z) u h1.symm
    rw [Nat.add_assoc, hjj] at h2
    exact h2
end
end Go.Proofs.Ythflglejhhebeaa.rwg
