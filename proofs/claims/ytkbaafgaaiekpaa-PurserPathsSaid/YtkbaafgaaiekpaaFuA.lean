/- Accounts and books in memory; what a book is. -/
import Derived.Test.YtkbaafgaaiekpaaTrG
import Derived.Test.YtkbaafgaaiekpaaHeldL
import Derived.IntWalk
namespace Go.Proofs.Ytkbaafgaaiekpaa.fnd
open Go.RowKit mem tre
set_option linter.unusedVariables false

structure Ac where
  t : Int
  c : Int
  e : Int
  u : Int
  h : Int
deriving Inhabited, DecidableEq
def zA : Ac := ⟨0, 0, 0, 0, 0⟩
def encA (x : Ac) : List Value := [.int .i64 x.t, .int .i64 x.c, .int .i64 x.e, .int .i64 x.u, .int .i64 x.h]
def aggA (x : Ac) : Value := .agg #[.int .i64 x.t, .int .i64 x.c, .int .i64 x.e, .int .i64 x.u, .int .i64 x.h]
def av (l : List Ac) : List Value := l.flatMap encA
theorem av_cons (x : Ac) (r : List Ac) : av (x :: r) = encA x ++ av r := by simp [av]
theorem av_length (l : List Ac) : (av l).length = l.length * 5 := by
  induction l with
  | nil => rfl
  | cons x r ih => rw [av_cons, List.length_append, ih, List.length_cons]; simp [encA]; omega
theorem av_get : ∀ (l : List Ac) (i c : Nat), i < l.length → c < 5 → (av l)[i * 5 + c]? = (encA (l.getD i zA))[c]? := by
  intro l
  induction l with
  | nil => intro i c hi; simp at hi
  | cons x r ih =>
    intro i c hi hc
    rw [av_cons]
    cases i with
    | zero => rw [List.getElem?_append_left (by show 0 * 5 + c < 5; omega)]; simp
    | succ i =>
      rw [List.getElem?_append_right (by show 5 ≤ (i + 1) * 5 + c; omega)]
      have e : (i + 1) * 5 + c - (encA x).length = i * 5 + c := by show (i + 1) * 5 + c - 5 = _; omega
      rw [e, ih i c (by simpa using hi) hc]
      simp
def AcAt (w : World) (b o : Nat) (n : Ac) : Prop :=
  w.cell? ⟨b, o, none⟩ = some (.int .i64 n.t) ∧ w.cell? ⟨b, o + 1, none⟩ = some (.int .i64 n.c) ∧ w.cell? ⟨b, o + 2, none⟩ = some (.int .i64 n.e) ∧ w.cell? ⟨b, o + 3, none⟩ = some (.int .i64 n.u) ∧ w.cell? ⟨b, o + 4, none⟩ = some (.int .i64 n.h)
theorem AcAt.only {S : Nat → Prop} {w w' : World} {b o : Nat} {n : Ac} (h : AcAt w b o n) (ho : Only S w w') (hs : ¬ S b) : AcAt w' b o n :=
  ⟨ho.cell' h.1 hs, ho.cell' h.2.1 hs, ho.cell' h.2.2.1 hs, ho.cell' h.2.2.2.1 hs, ho.cell' h.2.2.2.2 hs⟩
theorem AcAt.iff {w : World} {b o : Nat} {n : Ac} : AcAt w b o n ↔ ∀ c, c < 5 → w.cell? ⟨b, o + c, none⟩ = (encA n)[c]? := by
  constructor
  · intro ⟨h0, h1, h2, h3, h4⟩ c hc
    match c, hc with
    | 0, _ => exact h0
    | 1, _ => exact h1
    | 2, _ => exact h2
    | 3, _ => exact h3
    | 4, _ => exact h4
  · intro h; exact ⟨h 0 (by omega), h 1 (by omega), h 2 (by omega), h 3 (by omega), h 4 (by omega)⟩
def BkAt (w : World) (p : Nat) (A : List Ac) : Prop := (∀ k, k < 33 → AcAt w p (k * 5) (A.getD k zA)) ∧ ∀ j, j < 165 → w.frozen? ⟨p, j, none⟩ = false
theorem BkAt.lt {w : World} {p : Nat} {A : List Ac} (h : BkAt w p A) : p < w.heap.size := World.block_lt_of_cell? w _ (h.1 0 (by omega)).1
theorem BkAt.only {S : Nat → Prop} {w w' : World} {p : Nat} {A : List Ac} (h : BkAt w p A) (ho : Only S w w') (hs : ¬ S p) : BkAt w' p A :=
  ⟨fun k hk => (h.1 k hk).only ho hs, fun j hj => (ho.frozen (p := ⟨p, j, none⟩) h.lt hs).trans (h.2 j hj)⟩
theorem getA_set (T : List Ac) (k j : Nat) (n : Ac) (hk : k < T.length) : (T.set k n).getD j zA = if j = k then n else T.getD j zA := by
  by_cases h : j = k
  · subst h; simp [List.getD, hk]
  · rw [if_neg h]; simp [List.getD, Ne.symm h]
theorem BkAt.put {w : World} {p : Nat} {T : List Ac} (hl : T.length = 33) (h : BkAt w p T) (k : Nat) (n : Ac) (hk : k < 33) : BkAt (put5 w p (k * 5) (.int .i64 n.t) (.int .i64 n.c) (.int .i64 n.e) (.int .i64 n.u) (.int .i64 n.h)) p (T.set k n) := by
  obtain ⟨hn, hf⟩ := h
  refine ⟨fun j hj => ?_, fun j hj => (put5_froz _ _ _ _ _ _ _ _ _).trans (hf j hj)⟩
  rw [getA_set T k j n (by omega)]
  obtain ⟨h0, h1, h2, h3, h4⟩ := hn k hk
  by_cases hjk : j = k
  · subst hjk
    rw [if_pos rfl]
    exact put5_cells _ _ _ _ _ h0 h1 h2 h3 h4
  · rw [if_neg hjk]
    obtain ⟨g0, g1, g2, g3, g4⟩ := hn j hj
    exact ⟨(put5_far _ _ _ _ _ _ _ _ _ (by omega)).trans g0, (put5_far _ _ _ _ _ _ _ _ _ (by omega)).trans g1, (put5_far _ _ _ _ _ _ _ _ _ (by omega)).trans g2, (put5_far _ _ _ _ _ _ _ _ _ (by omega)).trans g3, (put5_far _ _ _ _ _ _ _ _ _ (by omega)).trans g4⟩
theorem BkAt.store {w : World} {p : Nat} {T : List Ac} (hl : T.length = 33) (h : BkAt w p T) (k c : Nat) (v : Value) (n' : Ac) (hk : k < 33) (hc : c < 5) (he : encA n' = (encA (T.getD k zA)).set c v) : BkAt (w.setCell ⟨p, k * 5 + c, none⟩ v) p (T.set k n') := by
  obtain ⟨hn, hf⟩ := h
  refine ⟨fun j hj => AcAt.iff.2 fun d hd => ?_, fun j hj => frozen_set.trans (hf j hj)⟩
  rw [getA_set T k j n' (by omega)]
  have h0 := AcAt.iff.1 (hn j hj) d hd
  by_cases hjk : j = k
  · subst hjk
    rw [if_pos rfl, he]
    by_cases hdc : d = c
    · subst hdc
      have hlen : d < (encA (T.getD j zA)).length := hd
      rw [List.getElem?_set_self hlen]
      obtain ⟨u, hu⟩ : ∃ u, (encA (T.getD j zA))[d]? = some u := ⟨_, List.getElem?_eq_getElem hlen⟩
      exact cell_same (h0.trans hu)
    · rw [List.getElem?_set_ne (Ne.symm hdc), cell_other (off_ne (by omega))]
      exact h0
  · rw [if_neg hjk, cell_other (off_ne (by omega))]
    exact h0
theorem BkAt.room {w : World} {p : Nat} {T : List Ac} (h : BkAt w p T) (k : Nat) (hk : k < 33) : (∃ u, w.cell? ⟨p, k * 5, none⟩ = some u) ∧ (∃ u, w.cell? ⟨p, k * 5 + 1, none⟩ = some u) ∧ (∃ u, w.cell? ⟨p, k * 5 + 2, none⟩ = some u) ∧ (∃ u, w.cell? ⟨p, k * 5 + 3, none⟩ = some u) ∧ (∃ u, w.cell? ⟨p, k * 5 + 4, none⟩ = some u) ∧
  w.frozen? ⟨p, k * 5, none⟩ = false ∧ w.frozen? ⟨p, k * 5 + 1, none⟩ = false ∧ w.frozen? ⟨p, k * 5 + 2, none⟩ = false ∧ w.frozen? ⟨p, k * 5 + 3, none⟩ = false ∧ w.frozen? ⟨p, k * 5 + 4, none⟩ = false := by
  obtain ⟨h0, h1, h2, h3, h4⟩ := h.1 k hk
  exact ⟨⟨_, h0⟩, ⟨_, h1⟩, ⟨_, h2⟩, ⟨_, h3⟩, ⟨_, h4⟩, h.2 _ (by omega), h.2 _ (by omega), h.2 _ (by omega), h.2 _ (by omega), h.2 _ (by omega)⟩
def left (a : Ac) : Int := a.t + a.c - a.e - a.u - a.h
def InM (n : Int) : Prop := 0 ≤ n ∧ n ≤ 9007199254740992
instance (n : Int) : Decidable (InM n) := inferInstanceAs (Decidable (_ ∧ _))
def Parts (a : Ac) : Prop := InM a.t ∧ InM a.c ∧ InM a.e ∧ InM a.u ∧ InM a.h
instance (a : Ac) : Decidable (Parts a) := inferInstanceAs (Decidable (_ ∧ _ ∧ _ ∧ _ ∧ _))
def Right (a : Ac) : Prop := Parts a ∧ a.t + a.c ≤ 9007199254740992 ∧ 0 ≤ left a
instance (a : Ac) : Decidable (Right a) := inferInstanceAs (Decidable (_ ∧ _ ∧ _))
def NodeOk (n : Int) : Prop := 1 ≤ n ∧ n ≤ 32
instance (n : Int) : Decidable (NodeOk n) := inferInstanceAs (Decidable (_ ∧ _))
def AmtOk (n : Int) : Prop := 1 ≤ n ∧ n ≤ 9007199254740992
instance (n : Int) : Decidable (AmtOk n) := inferInstanceAs (Decidable (_ ∧ _))
structure Bok (A : List Ac) : Prop where
  len : A.length = 33
  z : A.getD 0 zA = zA
  ok : ∀ k, Right (A.getD k zA)
theorem right_z : Right zA := by decide
theorem Bok.set {A : List Ac} (h : Bok A) {k : Nat} (hk : k < 33) (h1 : 1 ≤ k) {a : Ac} (ha : Right a) : Bok (A.set k a) := by
  refine ⟨by simpa using h.len, ?_, fun j => ?_⟩
  · rw [getA_set A k 0 a (by rw [h.len]; exact hk), if_neg (by omega)]; exact h.z
  · rw [getA_set A k j a (by rw [h.len]; exact hk)]
    by_cases e : j = k
    · rw [if_pos e]; exact ha
    · rw [if_neg e]; exact h.ok j
def A0 : List Ac := List.replicate 33 zA
theorem getA_rep (n k : Nat) : (List.replicate n zA).getD k zA = zA := by
  by_cases h : k < n
  · simp [List.getD, h]
  · simp [List.getD, h]
theorem getA0 (k : Nat) : A0.getD k zA = zA := getA_rep 33 k
theorem Bok.new : Bok A0 := ⟨by simp [A0], getA0 0, fun k => by rw [getA0]; exact right_z⟩
/-- what is known of a node's account -/
def acG (A : List Ac) (n : Int) : Ac := if NodeOk n then A.getD n.toNat zA else zA
theorem acG_ok {A : List Ac} (h : Bok A) (n : Int) : Right (acG A n) := by
  unfold acG
  by_cases hn : NodeOk n
  · rw [if_pos hn]; exact h.ok _
  · rw [if_neg hn]; exact right_z
theorem w64 (x : Int) (h1 : -9223372036854775808 ≤ x) (h2 : x ≤ 9223372036854775807) : IntKind.i64.wrap x = x := IntWalk.i64_in _ ⟨h1, h2⟩
theorem isNode_yes (n : Int) (w : World) (h1 : 1 ≤ n) (h2 : n ≤ 32) : Calls Try.prog 53 #[.int .i64 n] w fun e w' => e = .returned (.bool true) ∧ w = w' := by
  go_enter Try.func53, Try.ntmps53
  go_wp2_with fail
  go_ret
  exact ⟨rfl, rfl⟩
theorem isNode_no (n : Int) (w : World) (h : ¬ (1 ≤ n ∧ n ≤ 32)) : Calls Try.prog 53 #[.int .i64 n] w fun e w' => e = .returned (.bool false) ∧ w = w' := by
  by_cases h1 : 1 ≤ n
  · have h2 : ¬ n ≤ 32 := by omega
    clear h
    go_enter Try.func53, Try.ntmps53
    go_wp2_with fail
    go_ret
    exact ⟨rfl, rfl⟩
  · clear h
    go_enter Try.func53, Try.ntmps53
    go_wp2_with fail
    go_ret
    exact ⟨rfl, rfl⟩
theorem isAmt_yes (n : Int) (w : World) (h1 : 1 ≤ n) (h2 : n ≤ 9007199254740992) : Calls Try.prog 54 #[.int .i64 n] w fun e w' => e = .returned (.bool true) ∧ w = w' := by
  go_enter Try.func54, Try.ntmps54
  go_wp2_with fail
  go_ret
  exact ⟨rfl, rfl⟩
theorem isAmt_no (n : Int) (w : World) (h : ¬ (1 ≤ n ∧ n ≤ 9007199254740992)) : Calls Try.prog 54 #[.int .i64 n] w fun e w' => e = .returned (.bool false) ∧ w = w' := by
  by_cases h1 : 1 ≤ n
  · have h2 : ¬ n ≤ 9007199254740992 := by omega
    clear h
    go_enter Try.func54, Try.ntmps54
    go_wp2_with fail
    go_ret
    exact ⟨rfl, rfl⟩
  · clear h
    go_enter Try.func54, Try.ntmps54
    go_wp2_with fail
    go_ret
    exact ⟨rfl, rfl⟩
theorem avail_any (a : Ac) (w : World) (h : Parts a) : Calls Try.prog 60 #[aggA a] w fun e w' => e = .returned (.int .i64 (left a)) ∧ Only (fun _ => False) w w' := by
  obtain ⟨t, c, x, u, y⟩ := a
  unfold aggA left
  obtain ⟨e0, e1, e2, e3, e4, ho9⟩ := node_box 40 (.int .i64 t) (.int .i64 c) (.int .i64 x) (.int .i64 u) (.int .i64 y) (Only.refl (fun _ => False) w)
  have HO := Lib.hid ho9
  clear ho9
  obtain ⟨⟨a1, a2⟩, ⟨b1, b2⟩, ⟨c1, c2⟩, ⟨d1, d2⟩, ⟨g1, g2⟩⟩ := h
  dsimp only at a1 a2 b1 b2 c1 c2 d1 d2 g1 g2 ⊢
  have q1 : IntKind.i64.wrap (t + c) = t + c := w64 _ (by omega) (by omega)
  have q2 : IntKind.i64.wrap (t + c - x) = t + c - x := w64 _ (by omega) (by omega)
  have q3 : IntKind.i64.wrap (t + c - x - u) = t + c - x - u := w64 _ (by omega) (by omega)
  have q4 : IntKind.i64.wrap (t + c - x - u - y) = t + c - x - u - y := w64 _ (by omega) (by omega)
  clear a1 a2 b1 b2 c1 c2 d1 d2 g1 g2
  go_enter Try.func60, Try.ntmps60
  go_wp2_with fail
  go_ret
  exact ⟨rfl, HO.out⟩
end Go.Proofs.Ytkbaafgaaiekpaa.fnd

