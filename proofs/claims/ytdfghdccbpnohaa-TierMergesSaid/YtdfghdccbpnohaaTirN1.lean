/- Lines: the document's Merge: its lists. -/
import Derived.Test.YtdfghdccbpnohaaTirMd
import Derived.Test.YtdfghdccbpnohaaTirI
import Derived.Test.YtdfghdccbpnohaaTirE
namespace Go.Proofs.Ytdfghdccbpnohaa.tirw
open Go.RowKit mem tirm intm bigm bigw
set_option linter.unusedVariables false

/-- is none of the first k like it? -/
def fB (x : Ln) (S : List Ln) (k : Nat) : Bool := !((S.take k).any fun y => decide (lk y x))
theorem fB_succ (x : Ln) (S : List Ln) (k : Nat) (h : k < S.length) : fB x S (k + 1) = (fB x S k && !decide (lk (S.getD k default) x)) := by
  unfold fB
  rw [List.take_succ_eq_append_getElem h, List.any_append]
  simp [List.getD, h]
theorem fB_iff (x : Ln) (S : List Ln) (k : Nat) : fB x S k = true ↔ ¬ has x (S.take k) := by
  unfold fB has
  rw [Bool.not_eq_true', List.any_eq_false]
  constructor
  · rintro h ⟨y, hy, k⟩
    exact h y hy (by simpa using lk_symm k)
  · intro h y hy k
    exact h ⟨y, hy, lk_symm (by simpa using k)⟩
theorem likes_succ (x : Ln) (S : List Ln) (k : Nat) (h : k < S.length) : likes x (S.take (k + 1)) = likes x (S.take k) ++ (if lk x (S.getD k default) then [(S.getD k default).b] else []) := by
  rw [List.take_succ_eq_append_getElem h, likes_append]
  have e : S.getD k default = S[k] := by simp [List.getD, h]
  rw [e]
  congr 1
  unfold likes
  by_cases hl : lk x S[k]
  · rw [if_pos hl]; simp [hl]
  · rw [if_neg hl]; simp [hl]
theorem has_take_succ (x : Ln) (S : List Ln) (k : Nat) (h : k < S.length) : has x (S.take (k + 1)) ↔ has x (S.take k) ∨ lk x (S.getD k default) := by
  rw [List.take_succ_eq_append_getElem h, has_append, has_cons]
  have e : S.getD k default = S[k] := by simp [List.getD, h]
  rw [e]
  constructor
  · rintro (h1 | h1 | ⟨y, hy, _⟩)
    · exact .inl h1
    · exact .inr h1
    · cases hy
  · rintro (h1 | h1)
    · exact .inl h1
    · exact .inr (.inl h1)

/-- the lines so far: of the keys of the first k, with all their blocks -/
structure UptoOf (S : List Ln) (k : Nat) (M : List Ln) : Prop where
  up : M.Pairwise ltN
  keys : ∀ x, has x M ↔ has x (S.take k)
  blocks : ∀ x ∈ M, x.b = sumK x S
  ints : ∀ x ∈ M, isInt x.b = true
theorem UptoOf.nil (S : List Ln) : UptoOf S 0 [] := ⟨List.Pairwise.nil, fun x => by rw [List.take_zero], (fun x h => by cases h), (fun x h => by cases h)⟩
theorem UptoOf.merge {S M : List Ln} (h : UptoOf S S.length M) : MergeOf S M := ⟨h.up, fun x => by rw [h.keys, List.take_length], h.blocks⟩
theorem UptoOf.skip {S M : List Ln} {k : Nat} (h : UptoOf S k M) (hk : k < S.length) (hf : fB (S.getD k default) S k = false) : UptoOf S (k + 1) M := by
  refine ⟨h.up, fun x => ?_, h.blocks, h.ints⟩
  rw [h.keys, has_take_succ x S k hk]
  constructor
  · exact .inl
  · rintro (h1 | h1)
    · exact h1
    · have : has (S.getD k default) (S.take k) := by
        by_cases e : has (S.getD k default) (S.take k)
        · exact e
        · rw [(fB_iff _ _ _).2 e] at hf; cases hf
      exact (has_lk h1 _).2 this
theorem UptoOf.put {S A B : List Ln} {k : Nat} {x : Ln} (h : UptoOf S k (A ++ B)) (hk : k < S.length) (hx : lk x (S.getD k default)) (hf : fB (S.getD k default) S k = true) (hb : x.b = sumK (S.getD k default) S) (hi : isInt x.b = true)
    (hB : ∀ y ∈ B, ltN x y) (hA : A = [] ∨ ∃ z, A.getLast? = some z ∧ ¬ ltN x z) : UptoOf S (k + 1) (A ++ x :: B) := by
  have hn : ¬ has x (A ++ B) := by
    rw [h.keys]
    exact fun e => (fB_iff _ _ _).1 hf ((has_lk hx _).1 e)
  refine ⟨ins_up h.up hn hB hA, fun y => ?_, fun y hy => ?_, fun y hy => ?_⟩
  · rw [has_take_succ y S k hk, ← h.keys, has_append, has_append, has_cons]
    constructor
    · rintro (h1 | h1 | h1)
      · exact .inl (.inl h1)
      · exact .inr (lk_trans h1 hx)
      · exact .inl (.inr h1)
    · rintro ((h1 | h1) | h1)
      · exact .inl h1
      · exact .inr (.inr h1)
      · exact .inr (.inl (lk_trans h1 (lk_symm hx)))
  · rw [List.mem_append, List.mem_cons] at hy
    rcases hy with hy | rfl | hy
    · exact h.blocks y (List.mem_append.2 (.inl hy))
    · rw [hb]; exact sumK_lk (lk_symm hx) S
    · exact h.blocks y (List.mem_append.2 (.inr hy))
  · rw [List.mem_append, List.mem_cons] at hy
    rcases hy with hy | rfl | hy
    · exact h.ints y (List.mem_append.2 (.inl hy))
    · exact hi
    · exact h.ints y (List.mem_append.2 (.inr hy))
theorem not_ok {S : List Ln} {x : Ln} (hx : x ∈ S) (h : isInt (sumK x S) = false) : ¬ okM S := fun k => by
  rw [k x hx] at h; cases h

/-- one line stored in a row -/
theorem lvn_set : ∀ (L : List Ln) (i : Nat) (z : Ln), i < L.length → (((lvn L).set (i * 3) (.int .i64 z.t)).set (i * 3 + 1) (.int .i64 z.b)).set (i * 3 + 2) (.int .i64 z.p) = lvn (L.set i z) := by
  intro L
  induction L with
  | nil => intro i z h; simp at h
  | cons y r ih =>
    intro i z h
    cases i with
    | zero => rfl
    | succ i =>
      have e := ih i z (by simpa using h)
      rw [List.set_cons_succ, lvn_cons, lvn_cons, ← e]
      have e1 : (i + 1) * 3 = i * 3 + 3 := by omega
      rw [e1]
      rfl
/-- a row after a line is stored in it -/
def put3 (w : World) (g i : Nat) (z : Ln) : World := ((w.setCell ⟨g, i * 3, none⟩ (.int .i64 z.t)).setCell ⟨g, i * 3 + 1, none⟩ (.int .i64 z.b)).setCell ⟨g, i * 3 + 2, none⟩ (.int .i64 z.p)
theorem own_put {w : World} {g cap : Nat} {L : List Ln} (h : OwnN w (.slice (some ⟨g, 0, none⟩) L.length cap) L) (i : Nat) (z : Ln) (hi : i < L.length) : OwnN (put3 w g i z) (.slice (some ⟨g, 0, none⟩) L.length cap) (L.set i z) ∧ Only (fun q => q = g) w (put3 w g i z) := by
  unfold OwnN at h ⊢
  refine ⟨?_, (((Only.refl (fun q => q = g) w).setCell (p := ⟨g, i * 3, none⟩) (.inl rfl) _).setCell (p := ⟨g, i * 3 + 1, none⟩) (.inl rfl) _).setCell (p := ⟨g, i * 3 + 2, none⟩) (.inl rfl) _⟩
  rw [List.length_set, ← lvn_set L i z hi]
  exact ((((h.stored (i * 3) (.int .i64 z.t)).1).stored (i * 3 + 1) (.int .i64 z.b)).1.stored (i * 3 + 2) (.int .i64 z.p)).1
theorem swap_set (A B : List Ln) (x y : Ln) : ((A ++ y :: x :: B).set (A.length + 1) y).set A.length x = A ++ x :: y :: B := by
  rw [List.set_append_right _ _ (by omega), List.set_append_right _ _ (by omega)]
  simp
theorem own_swap {w : World} {g cap n : Nat} {A B : List Ln} {x y : Ln} (hn : n = (A ++ y :: x :: B).length) (h : OwnN w (.slice (some ⟨g, 0, none⟩) n cap) (A ++ y :: x :: B)) :
    OwnN (put3 (put3 w g (A.length + 1) y) g A.length x) (.slice (some ⟨g, 0, none⟩) n cap) (A ++ x :: y :: B) ∧ Only (fun q => q = g) w (put3 (put3 w g (A.length + 1) y) g A.length x) := by
  subst hn
  have hl : (A ++ y :: x :: B).length = A.length + (B.length + 1 + 1) := by rw [List.length_append, List.length_cons, List.length_cons]
  obtain ⟨h1, o1⟩ := own_put h (A.length + 1) y (by omega)
  have h1' : OwnN (put3 w g (A.length + 1) y) (.slice (some ⟨g, 0, none⟩) ((A ++ y :: x :: B).set (A.length + 1) y).length cap) ((A ++ y :: x :: B).set (A.length + 1) y) := by rw [List.length_set]; exact h1
  obtain ⟨h2, o2⟩ := own_put h1' A.length x (by rw [List.length_set]; omega)
  rw [List.length_set, swap_set] at h2
  exact ⟨h2, o1.trans o2⟩
theorem own_cell {w : World} {g cap n : Nat} {L : List Ln} (h : OwnN w (.slice (some ⟨g, 0, none⟩) n cap) L) (i : Nat) (hn : n = L.length) (hi : i < n) :
    (w.cell? ⟨g, i * 3, none⟩ = some (.int .i64 (L.getD i default).t) ∧ w.cell? ⟨g, i * 3 + 1, none⟩ = some (.int .i64 (L.getD i default).b) ∧ w.cell? ⟨g, i * 3 + 2, none⟩ = some (.int .i64 (L.getD i default).p)) ∧ (w.frozen? ⟨g, i * 3, none⟩ = false ∧ w.frozen? ⟨g, i * 3 + 1, none⟩ = false ∧ w.frozen? ⟨g, i * 3 + 2, none⟩ = false) := by
  subst hn
  unfold OwnN at h
  refine ⟨?_, h.frozenAt _, h.frozenAt _, h.frozenAt _⟩
  have e : ∀ c, c < 3 → w.cell? ⟨g, i * 3 + c, none⟩ = (encN (L.getD i default))[c]? := fun c hc => by
    rw [h.cellAt (i * 3 + c) (by omega), lvn_get L i c hi hc]
  exact ⟨e 0 (by omega), e 1 (by omega), e 2 (by omega)⟩
end Go.Proofs.Ytdfghdccbpnohaa.tirw
