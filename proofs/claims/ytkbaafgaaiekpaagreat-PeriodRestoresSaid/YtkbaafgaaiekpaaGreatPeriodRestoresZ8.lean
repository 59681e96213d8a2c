/- Several texts together: EntY. -/
import Derived.Test.YtkbaafgaaiekpaaGreatPeriodRestoresZ7
open List (set_cons_succ)
namespace Go.Proofs.YtkbaafgaaiekpaaGreat.entw
open Go.RowKit mem entm
set_option linter.unusedVariables false
theorem ins_sorted {A B : List Lg} {x : Lg} (h : Sorted (A ++ B)) (hB : ∀ y ∈ B, ltA x y) (hA : A = [] ∨ ∃ z, A.getLast? = some z ∧ ¬ ltA x z) : Sorted (A ++ x :: B) := by
  unfold Sorted at h ⊢; rw [List.pairwise_append] at h ⊢; obtain ⟨h1, h2, h3⟩ := h; refine ⟨h1, List.pairwise_cons.2 ⟨fun y hy => ltA_asymm (hB y hy), h2⟩, ?_⟩; intro a ha b hb; rcases List.mem_cons.1 hb with rfl | hb
  · rcases hA with rfl | ⟨z, hz, hlt⟩
    · cases ha
    · obtain ⟨A0, rfl⟩ : ∃ A0, A = A0 ++ [z] := by
        rcases List.eq_nil_or_concat A with e | ⟨A', y, e⟩
        · subst e; cases ha
        · rw [List.concat_eq_append] at e; subst e; simp at hz; subst hz; exact ⟨A', rfl⟩
      rcases List.mem_append.1 ha with ha | ha
      · rw [List.pairwise_append] at h1; exact ltA_ntrans hlt (h1.2.2 a ha z (by simp))
      · rw [List.mem_singleton] at ha; subst ha; exact hlt
  · exact h3 a ha b hb
theorem ins_perm {A B D : List Lg} {x : Lg} (h : A ++ B = D) : (A ++ x :: B).Perm (D ++ [x]) := by
  subst h; exact (List.perm_middle).trans ((List.perm_append_singleton x (A ++ B)).symm)
def sideL (kind amt g n : Int) (s : Nat) : Lg := if s = 0 then debL kind amt n g else creL kind amt n g
def partL (kind amt g n : Int) (s : Nat) : List Lg := if s = 0 then [] else if s = 1 then (if kind = 1 then [] else [debL kind amt n g]) else nodeL kind amt g n
def cashL (kind amt : Int) (len : Nat) : List Lg := if kind = 1 then [⟨1, 0, 0, amt * len⟩] else []
theorem partL_skip {kind amt g n : Int} (h : kind = 1) : partL kind amt g n 1 = partL kind amt g n 0 := by unfold partL; simp [h]
theorem partL_next {kind amt g n : Int} {s : Nat} (hs : s < 2) (h : ¬ (s = 0 ∧ kind = 1)) : partL kind amt g n (s + 1) = partL kind amt g n s ++ [sideL kind amt g n s] := by
  unfold partL sideL nodeL
  match s, hs with
  | 0, _ => have : ¬ kind = 1 := fun e => h ⟨rfl, e⟩; simp [this]
  | 1, _ => by_cases e : kind = 1 <;> simp [e]
theorem partL_two (kind amt g n : Int) : partL kind amt g n 2 = nodeL kind amt g n := by unfold partL; simp
def fromK (kind : Int) : Int := if kind = 1 then 1 else if kind = 2 then 2 else if kind = 3 then 3 else if kind = 4 then 3 else if kind = 5 then 2 else 4
def toK (kind : Int) : Int := if kind = 1 then 2 else if kind = 2 then 3 else if kind = 3 then 2 else if kind = 4 then 4 else if kind = 5 then 5 else 2
theorem deb_is (kind amt n g : Int) (h : ¬ kind = 1) : debL kind amt n g = ⟨fromK kind, n, if fromK kind = 4 then g else 0, amt⟩ := by
  unfold debL fromK
  by_cases e2 : kind = 2
  · simp [e2]
  by_cases e3 : kind = 3
  · simp [e3]
  by_cases e4 : kind = 4
  · simp [e4]
  by_cases e5 : kind = 5
  · simp [e5]
  simp [h, e2, e3, e4, e5]
theorem cre_is (kind amt n g : Int) : creL kind amt n g = ⟨toK kind, n, if toK kind = 4 then g else 0, -amt⟩ := by
  unfold creL toK
  by_cases e1 : kind = 1
  · simp [e1]
  by_cases e2 : kind = 2
  · simp [e2]
  by_cases e3 : kind = 3
  · simp [e3]
  by_cases e4 : kind = 4
  · simp [e4]
  by_cases e5 : kind = 5
  · simp [e5]
  simp [e1, e2, e3, e4, e5]
theorem fromK_one (kind : Int) : fromK kind = 1 ↔ kind = 1 := by
  unfold fromK
  by_cases e1 : kind = 1
  · simp [e1]
  by_cases e2 : kind = 2
  · simp [e2]
  by_cases e3 : kind = 3
  · simp [e3]
  by_cases e4 : kind = 4
  · simp [e4]
  by_cases e5 : kind = 5
  · simp [e5]
  simp [e1, e2, e3, e4, e5]
theorem toK_one (kind : Int) : ¬ toK kind = 1 := by
  unfold toK
  by_cases e1 : kind = 1
  · simp [e1]
  by_cases e2 : kind = 2
  · simp [e2]
  by_cases e3 : kind = 3
  · simp [e3]
  by_cases e4 : kind = 4
  · simp [e4]
  by_cases e5 : kind = 5
  · simp [e5]
  simp [e1, e2, e3, e4, e5]
def dupI (l : List Int) (i : Nat) : Nat → Bool
  | 0 => false
  | k + 1 => dupI l i k || (l.getD i 0 == l.getD k 0)
def dupO (l : List Int) : Nat → Bool
  | 0 => false
  | i + 1 => dupO l i || dupI l i i
theorem dup_path {l : List Int} (h1 : 1 ≤ l.length) (h3 : l.length ≤ 3) : dupO l l.length = !pathB l := by
  unfold pathB PathOK
  match l, h1, h3 with
  | [a], _, _ => simp [dupO, dupI]
  | [a, b], _, _ =>
    by_cases e : b = a
    · subst e; simp [dupO, dupI]
    · have e' : ¬ a = b := fun h => e h.symm; simp [dupO, dupI, e, e']
  | [a, b, c], _, _ =>
    by_cases e : b = a
    · subst e; simp [dupO, dupI]
    · have e' : ¬ a = b := fun h => e h.symm
      by_cases e2 : c = a
      · subst e2; simp [dupO, dupI]
      · have e2' : ¬ a = c := fun h => e2 h.symm
        by_cases e3 : c = b
        · subst e3; simp [dupO, dupI]
        · have e3' : ¬ b = c := fun h => e3 h.symm; simp [dupO, dupI, e, e2, e3, e', e2', e3']
theorem raw_one {kind amt g : Int} {path : List Int} : ∀ x ∈ rawL kind amt g path, ∀ y ∈ rawL kind amt g path, x.k = y.k → x.n = y.n → x.g = y.g → x = y := by
  have hmem : ∀ x ∈ rawL kind amt g path, (kind = 1 ∧ x = ⟨1, 0, 0, amt * path.length⟩) ∨ (∃ n, ¬ kind = 1 ∧ x = ⟨fromK kind, n, if fromK kind = 4 then g else 0, amt⟩) ∨ (∃ n, x = ⟨toK kind, n, if toK kind = 4 then g else 0, -amt⟩) := by
    intro x hx; unfold rawL at hx; rcases List.mem_append.1 hx with hx | hx
    · by_cases e : kind = 1
      · rw [if_pos e, List.mem_singleton] at hx; exact .inl ⟨e, hx⟩
      · rw [if_neg e] at hx; cases hx
    · unfold rawN at hx; obtain ⟨n, _, hx⟩ := List.mem_flatMap.1 hx; unfold nodeL at hx
      by_cases e : kind = 1
      · rw [if_pos e, List.mem_singleton, cre_is] at hx; exact .inr (.inr ⟨n, hx⟩)
      · rw [if_neg e, List.mem_cons, List.mem_singleton, deb_is _ _ _ _ e, cre_is] at hx; rcases hx with hx | hx
        · exact .inr (.inl ⟨n, e, hx⟩)
        · exact .inr (.inr ⟨n, hx⟩)
  have hne : ¬ fromK kind = toK kind := by
    unfold fromK toK
    by_cases e1 : kind = 1
    · simp [e1]
    by_cases e2 : kind = 2
    · simp [e2]
    by_cases e3 : kind = 3
    · simp [e3]
    by_cases e4 : kind = 4
    · simp [e4]
    by_cases e5 : kind = 5
    · simp [e5]
    simp [e1, e2, e3, e4, e5]
  intro x hx y hy h1 h2 h3; rcases hmem x hx with ⟨k1, rfl⟩ | ⟨n1, k1, rfl⟩ | ⟨n1, rfl⟩ <;> rcases hmem y hy with ⟨k2, rfl⟩ | ⟨n2, k2, rfl⟩ | ⟨n2, rfl⟩ <;> dsimp only at h1 h2
  · rfl
  · exact absurd k1 k2
  · exact absurd h1.symm (toK_one kind)
  · exact absurd k2 k1
  · subst h2; rfl
  · exact absurd h1 hne
  · exact absurd h1 (toK_one kind)
  · exact absurd h1.symm hne
  · subst h2; rfl
def OwnR (w : World) (v : Value) (D : List Lg) : Prop := w.ownsRow 0 94 4 v D.length (lv D)
theorem lv_set : ∀ (L : List Lg) (i : Nat) (z : Lg), i < L.length → ((((lv L).set (i * 4) (.int .i64 z.k)).set (i * 4 + 1) (.int .i64 z.n)).set (i * 4 + 2) (.int .i64 z.g)).set (i * 4 + 3) (.int .i64 z.a) = lv (L.set i z) := by
  intro L
  induction L with
  | nil => intro i z h; simp at h
  | cons y r ih =>
    intro i z h
    cases i with
    | zero => rfl
    | succ i =>
      have e := ih i z (by simpa using h); rw [set_cons_succ, lv_cons, lv_cons, ← e]; have e1 : (i + 1) * 4 = i * 4 + 4 := (by omega); rw [e1]
      rfl
def put4 (w : World) (g i : Nat) (z : Lg) : World := (((w.setCell ⟨g, i * 4, none⟩ (.int .i64 z.k)).setCell ⟨g, i * 4 + 1, none⟩ (.int .i64 z.n)).setCell ⟨g, i * 4 + 2, none⟩ (.int .i64 z.g)).setCell ⟨g, i * 4 + 3, none⟩ (.int .i64 z.a)
theorem own_put4 {w : World} {g cap : Nat} {L : List Lg} (h : OwnR w (.slice (some ⟨g, 0, none⟩) L.length cap) L) (i : Nat) (z : Lg) (hi : i < L.length) : OwnR (put4 w g i z) (.slice (some ⟨g, 0, none⟩) L.length cap) (L.set i z) ∧ Only (fun q => q = g) w (put4 w g i z) := by
  unfold OwnR at h ⊢; refine ⟨?_, ((((Only.refl (fun q => q = g) w).setCell (p := ⟨g, i * 4, none⟩) (.inl rfl) _).setCell (p := ⟨g, i * 4 + 1, none⟩) (.inl rfl) _).setCell (p := ⟨g, i * 4 + 2, none⟩) (.inl rfl) _).setCell (p := ⟨g, i * 4 + 3, none⟩) (.inl rfl) _⟩; rw [List.length_set, ← lv_set L i z hi]; exact (((((h.stored (i * 4) (.int .i64 z.k)).1).stored (i * 4 + 1) (.int .i64 z.n)).1.stored (i * 4 + 2) (.int .i64 z.g)).1.stored (i * 4 + 3) (.int .i64 z.a)).1
theorem swap_set4 (A B : List Lg) (x y : Lg) : ((A ++ y :: x :: B).set (A.length + 1) y).set A.length x = A ++ x :: y :: B := by
  rw [List.set_append_right _ _ (by omega), List.set_append_right _ _ (by omega)]; simp
theorem own_swap4 {w : World} {g cap n : Nat} {A B : List Lg} {x y : Lg} (hn : n = (A ++ y :: x :: B).length) (h : OwnR w (.slice (some ⟨g, 0, none⟩) n cap) (A ++ y :: x :: B)) :
    OwnR (put4 (put4 w g (A.length + 1) y) g A.length x) (.slice (some ⟨g, 0, none⟩) n cap) (A ++ x :: y :: B) ∧ Only (fun q => q = g) w (put4 (put4 w g (A.length + 1) y) g A.length x) := by
  subst hn; have hl : (A ++ y :: x :: B).length = A.length + (B.length + 1 + 1) := (by rw [List.length_append, List.length_cons, List.length_cons]); obtain ⟨h1, o1⟩ := own_put4 h (A.length + 1) y (by omega); have h1' : OwnR (put4 w g (A.length + 1) y) (.slice (some ⟨g, 0, none⟩) ((A ++ y :: x :: B).set (A.length + 1) y).length cap) ((A ++ y :: x :: B).set (A.length + 1) y) := (by rw [List.length_set]; exact h1); obtain ⟨h2, o2⟩ := own_put4 h1' A.length x (by rw [List.length_set]; omega); rw [List.length_set, swap_set4] at h2; exact ⟨h2, o1.trans o2⟩
theorem own_cell4 {w : World} {g cap n : Nat} {L : List Lg} (h : OwnR w (.slice (some ⟨g, 0, none⟩) n cap) L) (i : Nat) (hn : n = L.length) (hi : i < n) :
    (w.cell? ⟨g, i * 4, none⟩ = some (.int .i64 (L.getD i default).k) ∧ w.cell? ⟨g, i * 4 + 1, none⟩ = some (.int .i64 (L.getD i default).n) ∧ w.cell? ⟨g, i * 4 + 2, none⟩ = some (.int .i64 (L.getD i default).g) ∧ w.cell? ⟨g, i * 4 + 3, none⟩ = some (.int .i64 (L.getD i default).a)) ∧ (w.frozen? ⟨g, i * 4, none⟩ = false ∧ w.frozen? ⟨g, i * 4 + 1, none⟩ = false ∧ w.frozen? ⟨g, i * 4 + 2, none⟩ = false ∧ w.frozen? ⟨g, i * 4 + 3, none⟩ = false) := by
  subst hn; unfold OwnR at h; refine ⟨?_, h.frozenAt _, h.frozenAt _, h.frozenAt _, h.frozenAt _⟩; have e : ∀ c, c < 4 → w.cell? ⟨g, i * 4 + c, none⟩ = (encL (L.getD i default))[c]? := fun c hc => by
    rw [h.cellAt (i * 4 + c) (by omega), lv_get L i c hi hc]
  exact ⟨e 0 (by omega), e 1 (by omega), e 2 (by omega), e 3 (by omega)⟩
structure EB (base : Nat) (w : World) (q : Nat) (kind : Int) (v : Value) (D : List Lg) : Prop where
  c0 : w.cell? ⟨q, 0, none⟩ = some (.int .i64 kind)
  c1 : w.cell? ⟨q, 1, none⟩ = some v
  f1 : w.frozen? ⟨q, 1, none⟩ = false
  own : OwnR w v D
  nq : base ≤ q
  nb : ∀ k, v.ownBlock = some k → base ≤ k ∧ k ≠ q
theorem EB.only {base : Nat} {w w' : World} {q : Nat} {kind : Int} {v : Value} {D : List Lg} {S : Nat → Prop} (h : EB base w q kind v D) (ho : Only S w w') (hq : ¬ S q) (hv : ∀ k, v.ownBlock = some k → ¬ S k) : EB base w' q kind v D :=
  ⟨ho.cell' h.c0 hq, ho.cell' h.c1 hq, (ho.frozen (p := ⟨q, 1, none⟩) (World.block_lt_of_cell? w _ h.c1) hq).trans h.f1, owns_only ho h.own hv, h.nq, h.nb⟩
theorem EB.quiet {base : Nat} {w w' : World} {q : Nat} {kind : Int} {v : Value} {D : List Lg} (h : EB base w q kind v D) (ho : Only (fun _ => False) w w') : EB base w' q kind v D := h.only ho (fun f => f) (fun _ _ f => f)
theorem EB.lt {base : Nat} {w : World} {q : Nat} {kind : Int} {v : Value} {D : List Lg} (h : EB base w q kind v D) : q < w.heap.size ∧ ∀ k, v.ownBlock = some k → k < w.heap.size := ⟨World.block_lt_of_cell? w _ h.c1, fun k hk => (World.ownsRow.lt h.own k hk).2⟩
theorem EB.put {base : Nat} {w w1 w2 : World} {q : Nat} {kind : Int} {v v2 : Value} {D D2 : List Lg} (h : EB base w q kind v D) (ha : Only (fun _ => False) w w1) (hg : Only (fun k => v.ownBlock = some k) w1 w2) (hown : OwnR w2 v2 D2) (hk : ∀ k, v2.ownBlock = some k → v.ownBlock = some k ∨ w.heap.size ≤ k) : EB base (w2.setCell ⟨q, 1, none⟩ v2) q kind v2 D2 := by
  have hq : ¬ v.ownBlock = some q := fun e => (h.nb q e).2 rfl; have e1 := hg.cell' (ha.cell' h.c1 (fun f => f)) hq; have e0 := hg.cell' (ha.cell' h.c0 (fun f => f)) hq; have hql := h.lt.1; have f1 : w2.frozen? ⟨q, 1, none⟩ = false := (hg.frozen (p := ⟨q, 1, none⟩) (by have := ha.size; show q < _; omega) hq).trans ((ha.frozen (p := ⟨q, 1, none⟩) hql (fun f => f)).trans h.f1); have hnb : ∀ k, v2.ownBlock = some k → base ≤ k ∧ k ≠ q := fun k e => by
    rcases hk k e with e | e
    · exact h.nb k e
    · have := h.nq; exact ⟨by omega, by omega⟩
  refine ⟨by rw [cell_other (off_ne (by omega))]; exact e0, cell_same e1, by rw [World.frozen?_setCell]; exact f1, ?_, h.nq, hnb⟩; exact owns_only (Only.set (fun x => x = q) w2 q 1 v2 rfl) hown (fun k e f => (hnb k e).2 f)
end Go.Proofs.YtkbaafgaaiekpaaGreat.entw
