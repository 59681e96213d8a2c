/- Several texts together: FuA, FuB, FuN. -/
import Derived.Test.YtkbaafgaaiekpaaGreatPeriodRestoresZ1
import Derived.Test.YtkbaafgaaiekpaaGreatPeriodRestoresZ17
import Derived.IntWalk
import Derived.OpenShut
import Derived.ChangeOld
import Derived.ChangeKeysEq
open Go.Lib (hid)
namespace Go.Proofs.YtkbaafgaaiekpaaGreat.fnd
open Go.RowKit mem tre
set_option linter.unusedVariables false
structure Ac where
  t : Int
  c : Int
  e : Int
  u : Int
  h : Int
deriving Inhabited, DecidableEq
def zA : Ac := ⟨0, 0, 0, 0, 0⟩
def encA (x : Ac) : List Value := [.int .i64 x.t, .int .i64 x.c, .int .i64 x.e, .int .i64 x.u, .int .i64 x.h]
def aggA (x : Ac) : Value := .agg #[.int .i64 x.t, .int .i64 x.c, .int .i64 x.e, .int .i64 x.u, .int .i64 x.h]
def av (l : List Ac) : List Value := l.flatMap encA
theorem av_cons (x : Ac) (r : List Ac) : av (x :: r) = encA x ++ av r := by simp [av]
theorem av_length (l : List Ac) : (av l).length = l.length * 5 := by
  induction l with
  | nil => rfl
  | cons x r ih => rw [av_cons, List.length_append, ih, List.length_cons]; simp [encA]; omega
theorem av_get : ∀ (l : List Ac) (i c : Nat), i < l.length → c < 5 → (av l)[i * 5 + c]? = (encA (l.getD i zA))[c]? := by
  intro l
  induction l with
  | nil => intro i c hi; simp at hi
  | cons x r ih =>
    intro i c hi hc; rw [av_cons]
    cases i with
    | zero => rw [List.getElem?_append_left (by show 0 * 5 + c < 5; omega)]; simp
    | succ i =>
      rw [List.getElem?_append_right (by show 5 ≤ (i + 1) * 5 + c; omega)]; have e : (i + 1) * 5 + c - (encA x).length = i * 5 + c := (by show (i + 1) * 5 + c - 5 = _; omega); rw [e, ih i c (by simpa using hi) hc]; simp
def AcAt (w : World) (b o : Nat) (n : Ac) : Prop :=
  w.cell? ⟨b, o, none⟩ = some (.int .i64 n.t) ∧ w.cell? ⟨b, o + 1, none⟩ = some (.int .i64 n.c) ∧ w.cell? ⟨b, o + 2, none⟩ = some (.int .i64 n.e) ∧ w.cell? ⟨b, o + 3, none⟩ = some (.int .i64 n.u) ∧ w.cell? ⟨b, o + 4, none⟩ = some (.int .i64 n.h)
theorem AcAt.only {S : Nat → Prop} {w w' : World} {b o : Nat} {n : Ac} (h : AcAt w b o n) (ho : Only S w w') (hs : ¬ S b) : AcAt w' b o n :=
  ⟨ho.cell' h.1 hs, ho.cell' h.2.1 hs, ho.cell' h.2.2.1 hs, ho.cell' h.2.2.2.1 hs, ho.cell' h.2.2.2.2 hs⟩
theorem AcAt.iff {w : World} {b o : Nat} {n : Ac} : AcAt w b o n ↔ ∀ c, c < 5 → w.cell? ⟨b, o + c, none⟩ = (encA n)[c]? := by
  constructor
  · intro ⟨h0, h1, h2, h3, h4⟩ c hc
    match c, hc with
    | 0, _ => exact h0
    | 1, _ => exact h1
    | 2, _ => exact h2
    | 3, _ => exact h3
    | 4, _ => exact h4
  · intro h; exact ⟨h 0 (by omega), h 1 (by omega), h 2 (by omega), h 3 (by omega), h 4 (by omega)⟩
def BkAt (w : World) (p : Nat) (A : List Ac) : Prop := (∀ k, k < 33 → AcAt w p (k * 5) (A.getD k zA)) ∧ ∀ j, j < 165 → w.frozen? ⟨p, j, none⟩ = false
theorem BkAt.lt {w : World} {p : Nat} {A : List Ac} (h : BkAt w p A) : p < w.heap.size := World.block_lt_of_cell? w _ (h.1 0 (by omega)).1
theorem BkAt.only {S : Nat → Prop} {w w' : World} {p : Nat} {A : List Ac} (h : BkAt w p A) (ho : Only S w w') (hs : ¬ S p) : BkAt w' p A :=
  ⟨fun k hk => (h.1 k hk).only ho hs, fun j hj => (ho.frozen (p := ⟨p, j, none⟩) h.lt hs).trans (h.2 j hj)⟩
theorem getA_set (T : List Ac) (k j : Nat) (n : Ac) (hk : k < T.length) : (T.set k n).getD j zA = if j = k then n else T.getD j zA := by
  by_cases h : j = k
  · subst h; simp [List.getD, hk]
  · rw [if_neg h]; simp [List.getD, Ne.symm h]
theorem BkAt.put {w : World} {p : Nat} {T : List Ac} (hl : T.length = 33) (h : BkAt w p T) (k : Nat) (n : Ac) (hk : k < 33) : BkAt (put5 w p (k * 5) (.int .i64 n.t) (.int .i64 n.c) (.int .i64 n.e) (.int .i64 n.u) (.int .i64 n.h)) p (T.set k n) := by
  obtain ⟨hn, hf⟩ := h; refine ⟨fun j hj => ?_, fun j hj => (put5_froz _ _ _ _ _ _ _ _ _).trans (hf j hj)⟩; rw [getA_set T k j n (by omega)]; obtain ⟨h0, h1, h2, h3, h4⟩ := hn k hk
  by_cases hjk : j = k
  · subst hjk; rw [if_pos rfl]; exact put5_cells _ _ _ _ _ h0 h1 h2 h3 h4
  · rw [if_neg hjk]; obtain ⟨g0, g1, g2, g3, g4⟩ := hn j hj; exact ⟨(put5_far _ _ _ _ _ _ _ _ _ (by omega)).trans g0, (put5_far _ _ _ _ _ _ _ _ _ (by omega)).trans g1, (put5_far _ _ _ _ _ _ _ _ _ (by omega)).trans g2, (put5_far _ _ _ _ _ _ _ _ _ (by omega)).trans g3, (put5_far _ _ _ _ _ _ _ _ _ (by omega)).trans g4⟩
theorem BkAt.store {w : World} {p : Nat} {T : List Ac} (hl : T.length = 33) (h : BkAt w p T) (k c : Nat) (v : Value) (n' : Ac) (hk : k < 33) (hc : c < 5) (he : encA n' = (encA (T.getD k zA)).set c v) : BkAt (w.setCell ⟨p, k * 5 + c, none⟩ v) p (T.set k n') := by
  obtain ⟨hn, hf⟩ := h; refine ⟨fun j hj => AcAt.iff.2 fun d hd => ?_, fun j hj => frozen_set.trans (hf j hj)⟩; rw [getA_set T k j n' (by omega)]; have h0 := AcAt.iff.1 (hn j hj) d hd
  by_cases hjk : j = k
  · subst hjk; rw [if_pos rfl, he]
    by_cases hdc : d = c
    · subst hdc; have hlen : d < (encA (T.getD j zA)).length := hd; rw [List.getElem?_set_self hlen]; obtain ⟨u, hu⟩ : ∃ u, (encA (T.getD j zA))[d]? = some u := ⟨_, List.getElem?_eq_getElem hlen⟩; exact cell_same (h0.trans hu)
    · rw [List.getElem?_set_ne (Ne.symm hdc), cell_other (off_ne (by omega))]; exact h0
  · rw [if_neg hjk, cell_other (off_ne (by omega))]; exact h0
theorem BkAt.room {w : World} {p : Nat} {T : List Ac} (h : BkAt w p T) (k : Nat) (hk : k < 33) : (∃ u, w.cell? ⟨p, k * 5, none⟩ = some u) ∧ (∃ u, w.cell? ⟨p, k * 5 + 1, none⟩ = some u) ∧ (∃ u, w.cell? ⟨p, k * 5 + 2, none⟩ = some u) ∧ (∃ u, w.cell? ⟨p, k * 5 + 3, none⟩ = some u) ∧ (∃ u, w.cell? ⟨p, k * 5 + 4, none⟩ = some u) ∧
  w.frozen? ⟨p, k * 5, none⟩ = false ∧ w.frozen? ⟨p, k * 5 + 1, none⟩ = false ∧ w.frozen? ⟨p, k * 5 + 2, none⟩ = false ∧ w.frozen? ⟨p, k * 5 + 3, none⟩ = false ∧ w.frozen? ⟨p, k * 5 + 4, none⟩ = false := by
  obtain ⟨h0, h1, h2, h3, h4⟩ := h.1 k hk; exact ⟨⟨_, h0⟩, ⟨_, h1⟩, ⟨_, h2⟩, ⟨_, h3⟩, ⟨_, h4⟩, h.2 _ (by omega), h.2 _ (by omega), h.2 _ (by omega), h.2 _ (by omega), h.2 _ (by omega)⟩
def left (a : Ac) : Int := a.t + a.c - a.e - a.u - a.h
def InM (n : Int) : Prop := 0 ≤ n ∧ n ≤ 9007199254740992
instance (n : Int) : Decidable (InM n) := inferInstanceAs (Decidable (_ ∧ _))
def Parts (a : Ac) : Prop := InM a.t ∧ InM a.c ∧ InM a.e ∧ InM a.u ∧ InM a.h
instance (a : Ac) : Decidable (Parts a) := inferInstanceAs (Decidable (_ ∧ _ ∧ _ ∧ _ ∧ _))
def Right (a : Ac) : Prop := Parts a ∧ a.t + a.c ≤ 9007199254740992 ∧ 0 ≤ left a
instance (a : Ac) : Decidable (Right a) := inferInstanceAs (Decidable (_ ∧ _ ∧ _))
def NodeOk (n : Int) : Prop := 1 ≤ n ∧ n ≤ 32
instance (n : Int) : Decidable (NodeOk n) := inferInstanceAs (Decidable (_ ∧ _))
def AmtOk (n : Int) : Prop := 1 ≤ n ∧ n ≤ 9007199254740992
instance (n : Int) : Decidable (AmtOk n) := inferInstanceAs (Decidable (_ ∧ _))
structure Bok (A : List Ac) : Prop where
  len : A.length = 33
  z : A.getD 0 zA = zA
  ok : ∀ k, Right (A.getD k zA)
theorem right_z : Right zA := by decide
theorem Bok.set {A : List Ac} (h : Bok A) {k : Nat} (hk : k < 33) (h1 : 1 ≤ k) {a : Ac} (ha : Right a) : Bok (A.set k a) := by
  refine ⟨by simpa using h.len, ?_, fun j => ?_⟩
  · rw [getA_set A k 0 a (by rw [h.len]; exact hk), if_neg (by omega)]; exact h.z
  · rw [getA_set A k j a (by rw [h.len]; exact hk)]
    by_cases e : j = k
    · rw [if_pos e]; exact ha
    · rw [if_neg e]; exact h.ok j
def A0 : List Ac := List.replicate 33 zA
theorem getA_rep (n k : Nat) : (List.replicate n zA).getD k zA = zA := by
  by_cases h : k < n
  · simp [List.getD, h]
  · simp [List.getD, h]
theorem getA0 (k : Nat) : A0.getD k zA = zA := getA_rep 33 k
theorem Bok.new : Bok A0 := ⟨by simp [A0], getA0 0, fun k => by rw [getA0]; exact right_z⟩
def acG (A : List Ac) (n : Int) : Ac := if NodeOk n then A.getD n.toNat zA else zA
theorem acG_ok {A : List Ac} (h : Bok A) (n : Int) : Right (acG A n) := by
  unfold acG
  by_cases hn : NodeOk n
  · rw [if_pos hn]; exact h.ok _
  · rw [if_neg hn]; exact right_z
theorem w64 (x : Int) (h1 : -9223372036854775808 ≤ x) (h2 : x ≤ 9223372036854775807) : IntKind.i64.wrap x = x := IntWalk.i64_in _ ⟨h1, h2⟩
theorem isNode_yes (n : Int) (w : World) (h1 : 1 ≤ n) (h2 : n ≤ 32) : Calls Tryz.prog 73 #[.int .i64 n] w fun e w' => e = .returned (.bool true) ∧ w = w' := by
  go_enter Tryz.func73, Tryz.ntmps73
  (go_wp2_with fail); go_ret
  exact ⟨rfl, rfl⟩
theorem isNode_no (n : Int) (w : World) (h : ¬ (1 ≤ n ∧ n ≤ 32)) : Calls Tryz.prog 73 #[.int .i64 n] w fun e w' => e = .returned (.bool false) ∧ w = w' := by
  by_cases h1 : 1 ≤ n
  · have h2 : ¬ n ≤ 32 := (by omega); clear h; go_enter Tryz.func73, Tryz.ntmps73
    (go_wp2_with fail); go_ret
    exact ⟨rfl, rfl⟩
  · clear h; go_enter Tryz.func73, Tryz.ntmps73
    (go_wp2_with fail); go_ret
    exact ⟨rfl, rfl⟩
theorem isAmt_yes (n : Int) (w : World) (h1 : 1 ≤ n) (h2 : n ≤ 9007199254740992) : Calls Tryz.prog 79 #[.int .i64 n] w fun e w' => e = .returned (.bool true) ∧ w = w' := by
  go_enter Tryz.func79, Tryz.ntmps79
  (go_wp2_with fail); go_ret
  exact ⟨rfl, rfl⟩
theorem isAmt_no (n : Int) (w : World) (h : ¬ (1 ≤ n ∧ n ≤ 9007199254740992)) : Calls Tryz.prog 79 #[.int .i64 n] w fun e w' => e = .returned (.bool false) ∧ w = w' := by
  by_cases h1 : 1 ≤ n
  · have h2 : ¬ n ≤ 9007199254740992 := (by omega); clear h; go_enter Tryz.func79, Tryz.ntmps79
    (go_wp2_with fail); go_ret
    exact ⟨rfl, rfl⟩
  · clear h; go_enter Tryz.func79, Tryz.ntmps79
    (go_wp2_with fail); go_ret
    exact ⟨rfl, rfl⟩
theorem rNode_yes (n : Int) (w : World) (h1 : 1 ≤ n) (h2 : n ≤ 32) : Calls Tryz.prog 102 #[.int .i64 n] w fun e w' => e = .returned (.bool true) ∧ w = w' := by
  go_enter Tryz.func102, Tryz.ntmps102
  (go_wp2_with fail); go_ret
  exact ⟨rfl, rfl⟩
theorem rNode_no (n : Int) (w : World) (h : ¬ (1 ≤ n ∧ n ≤ 32)) : Calls Tryz.prog 102 #[.int .i64 n] w fun e w' => e = .returned (.bool false) ∧ w = w' := by
  by_cases h1 : 1 ≤ n
  · have h2 : ¬ n ≤ 32 := (by omega); clear h; go_enter Tryz.func102, Tryz.ntmps102
    (go_wp2_with fail); go_ret
    exact ⟨rfl, rfl⟩
  · clear h; go_enter Tryz.func102, Tryz.ntmps102
    (go_wp2_with fail); go_ret
    exact ⟨rfl, rfl⟩
theorem avail_any (a : Ac) (w : World) (h : Parts a) : Calls Tryz.prog 74 #[aggA a] w fun e w' => e = .returned (.int .i64 (left a)) ∧ Only (fun _ => False) w w' := by
  obtain ⟨t, c, x, u, y⟩ := a; unfold aggA left; obtain ⟨e0, e1, e2, e3, e4, ho9⟩ := node_box 58 (.int .i64 t) (.int .i64 c) (.int .i64 x) (.int .i64 u) (.int .i64 y) (Only.refl (fun _ => False) w); have HO := hid ho9; clear ho9; obtain ⟨⟨a1, a2⟩, ⟨b1, b2⟩, ⟨c1, c2⟩, ⟨d1, d2⟩, ⟨g1, g2⟩⟩ := h; dsimp only at a1 a2 b1 b2 c1 c2 d1 d2 g1 g2 ⊢; have q1 : IntKind.i64.wrap (t + c) = t + c := w64 _ (by omega) (by omega); have q2 : IntKind.i64.wrap (t + c - x) = t + c - x := w64 _ (by omega) (by omega); have q3 : IntKind.i64.wrap (t + c - x - u) = t + c - x - u := w64 _ (by omega) (by omega); have q4 : IntKind.i64.wrap (t + c - x - u - y) = t + c - x - u - y := w64 _ (by omega) (by omega); clear a1 a2 b1 b2 c1 c2 d1 d2 g1 g2; go_enter Tryz.func74, Tryz.ntmps74
  (go_wp2_with fail); go_ret
  exact ⟨rfl, HO.out⟩
theorem left_any (a : Ac) (w : World) (h : Parts a) : Calls Tryz.prog 58 #[aggA a] w fun e w' => e = .returned (.int .i64 (left a)) ∧ Only (fun _ => False) w w' := by
  obtain ⟨t, c, x, u, y⟩ := a; unfold aggA left; obtain ⟨e0, e1, e2, e3, e4, ho9⟩ := node_box 41 (.int .i64 t) (.int .i64 c) (.int .i64 x) (.int .i64 u) (.int .i64 y) (Only.refl (fun _ => False) w); have HO := hid ho9; clear ho9; obtain ⟨⟨a1, a2⟩, ⟨b1, b2⟩, ⟨c1, c2⟩, ⟨d1, d2⟩, ⟨g1, g2⟩⟩ := h; dsimp only at a1 a2 b1 b2 c1 c2 d1 d2 g1 g2 ⊢; have q1 : IntKind.i64.wrap (t + c) = t + c := w64 _ (by omega) (by omega); have q2 : IntKind.i64.wrap (t + c - x) = t + c - x := w64 _ (by omega) (by omega); have q3 : IntKind.i64.wrap (t + c - x - u) = t + c - x - u := w64 _ (by omega) (by omega); have q4 : IntKind.i64.wrap (t + c - x - u - y) = t + c - x - u - y := w64 _ (by omega) (by omega); clear a1 a2 b1 b2 c1 c2 d1 d2 g1 g2; go_enter Tryz.func58, Tryz.ntmps58
  (go_wp2_with fail); go_ret
  exact ⟨rfl, HO.out⟩
def In6 (c : Int) : Prop := -9223372036854775808 ≤ c ∧ c ≤ 9223372036854775807
def InA (a : Ac) : Prop := In6 a.t ∧ In6 a.c ∧ In6 a.e ∧ In6 a.u ∧ In6 a.h
theorem key_ac (a : Ac) (h : InA a) : Tryz.prog.keyLits 2 58 (encA a) = some [.int .i64 a.t, .int .i64 a.c, .int .i64 a.e, .int .i64 a.u, .int .i64 a.h] := by
  obtain ⟨h0, h1, h2, h3, h4⟩ := h; have c3 : Tryz.prog.cellsOf 3 = 1 := (by kernel_rfl); have c5 : Tryz.prog.cellsOf 58 = 5 := (by kernel_rfl); have hw : ∀ {n : Int}, In6 n → (Lit.int .i64 n).wf = true := by
    intro n h; unfold In6 at h; simp [Lit.wf, IntKind.min, IntKind.max, IntKind.signed, IntKind.bits]; omega
  simp [encA, Program.keyLits, Tryz.underlying58, Tryz.underlying3, c3, c5, hw h0, hw h1, hw h2, hw h3, hw h4]
set_option maxRecDepth 100000 in
theorem ac_cmp (a b : Ac) (ha : InA a) (hb : InA b) (w : World) : (Op.equalIn 10000 58 (aggA a) (aggA b)).run Tryz.prog w = .ok (decide (a = b)) w := by
  obtain ⟨r, hr, hiff⟩ := run_equalIn_deep (P := Tryz.prog) 9990 10 58 (by kernel_rfl) w 2 2 (aggA a) (aggA b) _ _ (by kernel_rfl) (by kernel_rfl) (key_ac a ha) (key_ac b hb); rw [show (10000 : Nat) = 9990 + 10 from rfl, hr]
  congr 1; rw [Bool.eq_iff_iff, hiff, decide_eq_true_iff]
  constructor
  · intro h; obtain ⟨a0, a1, a2, a3, a4⟩ := a; obtain ⟨b0, b1, b2, b3, b4⟩ := b; simp at h; simp [h]
  · intro h; rw [h]
theorem key_rc (a : Ac) (h : InA a) : Tryz.prog.keyLits 2 41 (encA a) = some [.int .i64 a.t, .int .i64 a.c, .int .i64 a.e, .int .i64 a.u, .int .i64 a.h] := by
  obtain ⟨h0, h1, h2, h3, h4⟩ := h; have c3 : Tryz.prog.cellsOf 3 = 1 := (by kernel_rfl); have c5 : Tryz.prog.cellsOf 41 = 5 := (by kernel_rfl); have hw : ∀ {n : Int}, In6 n → (Lit.int .i64 n).wf = true := by
    intro n h; unfold In6 at h; simp [Lit.wf, IntKind.min, IntKind.max, IntKind.signed, IntKind.bits]; omega
  simp [encA, Program.keyLits, Tryz.underlying41, Tryz.underlying3, c3, c5, hw h0, hw h1, hw h2, hw h3, hw h4]
theorem right_ins {a : Ac} (h : Parts a) : InA a := by
  obtain ⟨⟨a1, a2⟩, ⟨b1, b2⟩, ⟨c1, c2⟩, ⟨d1, d2⟩, ⟨g1, g2⟩⟩ := h; unfold InA In6; omega
set_option maxHeartbeats 8000000 in
theorem get_any (p : Nat) (A : List Ac) (n : Int) (w : World) (h : BkAt w p A) : Calls Tryz.prog 61 #[.pointer (some ⟨p, 0, none⟩), .int .i64 n] w fun e w' => e = .returned (aggA (acG A n)) ∧ Only (fun _ => False) w w' := by
  have HF : Hid (∀ cs t, BkAt (w.alloc (.cells cs t)) p A) := hid (fun cs t => h.only ((Only.refl (fun _ => False) w).alloc _) (fun f => f)); have HC : Hid (∀ (cs : Array Value) t, ∀ (i : Nat) v, cs[i]? = some v → (w.alloc (.cells cs t)).cell? ⟨w.heap.size, i, none⟩ = some v) := hid (fun cs t i v h => alloc_cell rfl h); have HO : Hid (∀ o, Only (fun _ => False) w (w.alloc o)) := hid (fun o => (Only.refl _ _).alloc o); unfold acG
  by_cases hn : NodeOk n
  · rw [if_pos hn]; obtain ⟨h1, h2⟩ := hn; obtain ⟨k, rfl⟩ : ∃ k : Nat, n = k := ⟨n.toNat, by omega⟩; rw [Int.toNat_natCast]; have hk : k < 33 := (by omega); have hk2 : (k : Int) < 33 := (by omega); obtain ⟨c0, c1, c2, c3, c4⟩ := (HF.out #[.int .i64 0, .int .i64 0, .int .i64 0, .int .i64 0, .int .i64 0] 58).1 k hk; generalize A.getD k zA = a at *; obtain ⟨at_, ac, ae, au, ah⟩ := a; dsimp only at c0 c1 c2 c3 c4; have HP := hid (node_box 58 (.int .i64 at_) (.int .i64 ac) (.int .i64 ae) (.int .i64 au) (.int .i64 ah) (Only.refl _ w)); clear h; go_enter Tryz.func61, Tryz.ntmps61
    go_wp2_with ((with_reducible refine (isNode_yes _ _ h1 h2).mono ?_); rintro _ _ ⟨rfl, rfl⟩)
    obtain ⟨e0, e1, e2, e3, e4, ho⟩ := HP.out; refine bodyPost_ret (v := aggA ⟨at_, ac, ae, au, ah⟩) (by simp [results, Tryz.results61, go_sem, aggA]) rfl ⟨rfl, ho⟩
  · rw [if_neg hn]; have hn' : ¬ (1 ≤ n ∧ n ≤ 32) := hn; clear h hn; go_enter Tryz.func61, Tryz.ntmps61
    go_wp2_with ((with_reducible refine (isNode_no _ _ hn').mono ?_); rintro _ _ ⟨rfl, rfl⟩)
    have c0 := HC.out #[.int .i64 0, .int .i64 0, .int .i64 0, .int .i64 0, .int .i64 0] 58 0 _ rfl; have c1 := HC.out #[.int .i64 0, .int .i64 0, .int .i64 0, .int .i64 0, .int .i64 0] 58 1 _ rfl; have c2 := HC.out #[.int .i64 0, .int .i64 0, .int .i64 0, .int .i64 0, .int .i64 0] 58 2 _ rfl; have c3 := HC.out #[.int .i64 0, .int .i64 0, .int .i64 0, .int .i64 0, .int .i64 0] 58 3 _ rfl; have c4 := HC.out #[.int .i64 0, .int .i64 0, .int .i64 0, .int .i64 0, .int .i64 0] 58 4 _ rfl; refine bodyPost_ret (v := aggA zA) (by simp [results, Tryz.results61, go_sem, aggA, zA, c0, c1, c2, c3, c4]) rfl ⟨rfl, HO.out _⟩
theorem available_any (p : Nat) (A : List Ac) (n : Int) (w : World) (h : BkAt w p A) (hA : Bok A) : Calls Tryz.prog 48 #[.pointer (some ⟨p, 0, none⟩), .int .i64 n] w fun e w' => e = .returned (.int .i64 (left (acG A n))) ∧ Only (fun _ => False) w w' := by
  have HG := hid (get_any p A n w h); have HP : Hid (Parts (acG A n)) := hid (acG_ok hA n).1; clear h hA; generalize acG A n = a at *; have HV : Hid (∀ w1, _) := hid (fun w1 => avail_any a w1 HP.out); generalize left a = v at *; obtain ⟨at_, ac, ae, au, ah⟩ := a; unfold aggA at HG HV; dsimp only at HG HV; go_enter Tryz.func48, Tryz.ntmps48
  (go_wp2_with fail); refine HG.out.mono ?_; rintro _ w1 ⟨rfl, ho⟩; have HO := hid ho; clear ho; (go_wp2_with fail); refine (HV.out _).mono ?_; rintro _ w2 ⟨rfl, ho⟩; have HO2 := hid (HO.out.trans ho); clear ho; (go_wp2_with fail); go_ret
  exact ⟨rfl, HO2.out⟩
theorem run_index_p (a b c d e : Int) (k : Nat) (hk : k < 5) (w : World) : (Instr.index 141 (.agg #[.int .i64 a, .int .i64 b, .int .i64 c, .int .i64 d, .int .i64 e]) (.int .i64 (k : Int))).run Tryz.prog w = .ok (.int .i64 (List.getD [a, b, c, d, e] k 0)) w := by
  have h5 : k = 0 ∨ k = 1 ∨ k = 2 ∨ k = 3 ∨ k = 4 := (by omega); rcases h5 with rfl | rfl | rfl | rfl | rfl
  all_goals simp [Instr.index, run_underlying Tryz.underlying141, asIntOf, go_sem]
set_option maxRecDepth 100000 in
set_option maxHeartbeats 9000000 in
theorem isacc_any (a : Ac) (w : World) : Calls Tryz.prog 93 #[aggA a] w fun e w' => e = .returned (.bool (decide (Right a))) ∧ Only (fun _ => False) w w' := by
  have HAV : Hid (∀ w1, Parts a → _) := hid (fun w1 h => avail_any a w1 h); obtain ⟨at_, ac, ae, au, ah⟩ := a; unfold aggA at HAV ⊢; obtain ⟨e0, e1, e2, e3, e4, ho9⟩ := node_box 58 (.int .i64 at_) (.int .i64 ac) (.int .i64 ae) (.int .i64 au) (.int .i64 ah) (Only.refl (fun _ => False) w); have HO9 := hid ho9; clear ho9; dsimp only at HAV ⊢; obtain ⟨w1, hw1⟩ : ∃ x, x = w.alloc (.cells #[.int .i64 at_, .int .i64 ac, .int .i64 ae, .int .i64 au, .int .i64 ah] 58) := ⟨_, rfl⟩; obtain ⟨g, hg⟩ : ∃ x, x = w.heap.size := ⟨_, rfl⟩; simp only [← hw1, ← hg] at e0 e1 e2 e3 e4 HO9; go_enter Tryz.func93, Tryz.ntmps93
  (go_wp2_with fail); simp only [← hw1, ← hg]; clear hw1 hg
  go_loopw [16] (fun iv wr => ∃ k : Nat, k ≤ 5 ∧ iv = .int .i64 (k : Int) ∧ Hid (∀ j, j < k → InM ((List.getD [at_, ac, ae, au, ah] j 0))) ∧ Hid (Only (fun _ => False) w1 wr)) (fun iv _ => 5 - (intOf iv).toNat)
  case atStart => exact ⟨0, by omega, rfl, hid (fun j hj => by omega), hid (Only.refl _ _)⟩
  case round =>
    obtain ⟨k, hk, rfl, HIN, HO⟩ := hrel; rename World => wr
    by_cases h8 : k < 5
    · have hpos : (0 : Int) ≤ k := (by omega); have h9 : (k : Int) < 5 := (by omega); have hix := run_index_p at_ ac ae au ah k h8; have HST : Hid (InM (List.getD [at_, ac, ae, au, ah] k 0) → ∀ j, j < k + 1 → InM ((List.getD [at_, ac, ae, au, ah] j 0))) := hid (fun hm j hj => by
        by_cases e : j = k
        · subst e; exact hm
        · exact HIN.out j (by omega))
      have HNR : Hid (¬ InM (List.getD [at_, ac, ae, au, ah] k 0) → decide (Right ⟨at_, ac, ae, au, ah⟩) = false) := hid (fun hm => by
        rw [decide_eq_false_iff_not]; intro hr; obtain ⟨r0, r1, r2, r3, r4⟩ := hr.1; have h5 : k = 0 ∨ k = 1 ∨ k = 2 ∨ k = 3 ∨ k = 4 := (by omega); rcases h5 with rfl | rfl | rfl | rfl | rfl
        · exact hm r0
        · exact hm r1
        · exact hm r2
        · exact hm r3
        · exact hm r4)
      generalize List.getD [at_, ac, ae, au, ah] k 0 = x at *
      by_cases hm : InM x
      · have HIN2 := hid (HST.out hm); obtain ⟨m1, m2⟩ := hm; (go_wp2_with fail); go_roundw
        case rel => exact ⟨k + 1, by omega, by go_num, HIN2, HO⟩
        case measure => simp [intOf]; omega
      · have HNR2 := hid (HNR.out hm)
        by_cases m1 : 0 ≤ x
        · have m2 : ¬ x ≤ 9007199254740992 := fun q => hm ⟨m1, q⟩; clear hm; (go_wp2_with fail); go_ret
          exact ⟨by rw [HNR2.out]; rfl, HO9.out.trans HO.out⟩
        · clear hm; (go_wp2_with fail); go_ret
          exact ⟨by rw [HNR2.out]; rfl, HO9.out.trans HO.out⟩
    · obtain rfl : k = 5 := (by omega); have hp : Parts ⟨at_, ac, ae, au, ah⟩ := ⟨HIN.out 0 (by omega), HIN.out 1 (by omega), HIN.out 2 (by omega), HIN.out 3 (by omega), HIN.out 4 (by omega)⟩; have HV := fun w1 => hid (HAV.out w1 hp); have HP := hid hp; have qs : IntKind.i64.wrap (at_ + ac) = at_ + ac := by
        obtain ⟨⟨a1, a2⟩, ⟨b1, b2⟩, _⟩ := hp; dsimp only at a1 a2 b1 b2; exact w64 _ (by omega) (by omega)
      replace e0 := HO.out.cell' e0 (fun f => f); replace e1 := HO.out.cell' e1 (fun f => f); replace e2 := HO.out.cell' e2 (fun f => f); replace e3 := HO.out.cell' e3 (fun f => f); replace e4 := HO.out.cell' e4 (fun f => f); clear hp HAV HIN
      by_cases hs : at_ + ac ≤ 9007199254740992
      · have HR : Hid (decide (Right ⟨at_, ac, ae, au, ah⟩) = decide (0 ≤ left ⟨at_, ac, ae, au, ah⟩)) := hid (decide_eq_decide.2 ⟨fun q => q.2.2, fun q => ⟨HP.out, hs, q⟩⟩); generalize left ⟨at_, ac, ae, au, ah⟩ = v at *; (go_wp2_with fail); refine (HV _).out.mono ?_; rintro _ w2 ⟨rfl, ho⟩; have HO2 : Hid (Only (fun _ => False) w w2) := hid (HO9.out.trans (HO.out.trans ho)); clear ho; (go_wp2_with fail); go_ret
        exact ⟨by rw [HR.out]; rfl, HO2.out⟩
      · have HR : Hid (decide (Right ⟨at_, ac, ae, au, ah⟩) = false) := hid (decide_eq_false (fun q => hs q.2.1)); (go_wp2_with fail); go_ret
        exact ⟨by rw [HR.out]; rfl, HO9.out.trans HO.out⟩
theorem av_drop : ∀ (l : List Ac) (k : Nat), (av l).drop (k * 5) = av (l.drop k) := by
  intro l
  induction l with
  | nil => intro k; simp [av]
  | cons x r ih =>
    intro k
    cases k with
    | zero => simp [av]
    | succ k =>
      have e : (k + 1) * 5 = k * 5 + 5 := (by omega); rw [e, List.drop_succ_cons, av_cons, ← ih k]
      rfl
theorem av_part (T : List Ac) (k : Nat) (hk : k < T.length) : (av T).toArray.extract (k * 5) (k * 5 + 5) = (encA (T.getD k zA)).toArray := by
  rw [List.extract_toArray, List.extract_eq_take_drop, av_drop, List.drop_eq_getElem_cons hk, av_cons]; have e : T.getD k zA = T[k] := (by simp [List.getD, hk]); rw [e, show k * 5 + 5 - k * 5 = (encA T[k]).length by show k * 5 + 5 - k * 5 = 5; omega]; rw [List.take_left']
  rfl
theorem run_index_ac (T : List Ac) (k : Nat) (hT : T.length = 33) (hk : k < 33) (w : World) : (Instr.index 117 (.agg (av T).toArray) (.int .i64 (k : Int))).run Tryz.prog w = .ok (aggA (T.getD k zA)) w := by
  have h1 : (0 : Int) ≤ k ∧ (k : Int) < (33 : Nat) := (by omega); have e : List.take 5 (List.drop (k * 5) (av T)) = encA (T.getD k zA) := by
    have := congrArg Array.toList (av_part T k (by omega)); rw [List.extract_toArray, List.extract_eq_take_drop, show k * 5 + 5 - k * 5 = 5 by omega] at this; exact this
  generalize T.getD k zA = n at *; simp [Instr.index, run_underlying Tryz.underlying117, asIntOf, hk, part, go_sem, e, aggA, encA]
theorem info_accs : (Tryz.prog.info? 117).map (·.size) = some 165 := by kernel_rfl
theorem BkAt.range {w : World} {p : Nat} {T : List Ac} (hl : T.length = 33) (h : BkAt w p T) : w.rangeAt p 0 (av T) := by
  intro j v hv; have hj : j < 165 := by
    rcases Nat.lt_or_ge j (av T).length with h' | h'
    · rw [av_length, hl] at h'; omega
    · rw [List.getElem?_eq_none h'] at hv; cases hv
  have e : j = j / 5 * 5 + j % 5 := (by omega); rw [Nat.zero_add, e, AcAt.iff.1 (h.1 (j / 5) (by omega)) (j % 5) (by omega), ← av_get T (j / 5) (j % 5) (by rw [hl]; omega) (by omega), ← e]; exact hv
set_option maxRecDepth 100000 in
theorem ac_cmpN (N : Nat) (a b : Ac) (ha : InA a) (hb : InA b) (w : World) : (Op.equalIn (N + 10) 58 (aggA a) (aggA b)).run Tryz.prog w = .ok (decide (a = b)) w := by
  obtain ⟨r, hr, hiff⟩ := run_equalIn_deep (P := Tryz.prog) N 10 58 (by kernel_rfl) w 2 2 (aggA a) (aggA b) _ _ (by kernel_rfl) (by kernel_rfl) (key_ac a ha) (key_ac b hb); rw [hr]; congr 1; rw [Bool.eq_iff_iff, hiff, decide_eq_true_iff]
  constructor
  · intro h; obtain ⟨a0, a1, a2, a3, a4⟩ := a; obtain ⟨b0, b1, b2, b3, b4⟩ := b; simp at h; simp [h]
  · intro h; rw [h]
set_option maxRecDepth 100000 in
theorem rc_cmpN (N : Nat) (a b : Ac) (ha : InA a) (hb : InA b) (w : World) : (Op.equalIn (N + 10) 41 (aggA a) (aggA b)).run Tryz.prog w = .ok (decide (a = b)) w := by
  obtain ⟨r, hr, hiff⟩ := run_equalIn_deep (P := Tryz.prog) N 10 41 (by kernel_rfl) w 2 2 (aggA a) (aggA b) _ _ (by kernel_rfl) (by kernel_rfl) (key_rc a ha) (key_rc b hb); rw [hr]; congr 1; rw [Bool.eq_iff_iff, hiff, decide_eq_true_iff]
  constructor
  · intro h; obtain ⟨a0, a1, a2, a3, a4⟩ := a; obtain ⟨b0, b1, b2, b3, b4⟩ := b; simp at h; simp [h]
  · intro h; rw [h]
def nodU (A : List Ac) (k : Nat) : List Int := ((List.range k).filter fun (j : Nat) => decide (A.getD j zA ≠ zA)).map fun (j : Nat) => (j : Int)
theorem nodU_succ (T : List Ac) (k : Nat) : nodU T (k + 1) = if T.getD k zA ≠ zA then nodU T k ++ [(k : Int)] else nodU T k := by
  unfold nodU; rw [List.range_succ, List.filter_append]
  by_cases h : T.getD k zA ≠ zA
  · rw [if_pos h]; simp only [List.filter_cons, List.filter_nil, decide_eq_true h, if_true, List.map_append, List.map_cons, List.map_nil]
  · rw [if_neg h]; simp only [List.filter_cons, List.filter_nil, decide_eq_false h]; simp
theorem nodU_in (T : List Ac) (k : Nat) : ∀ c ∈ nodU T k, 0 ≤ c ∧ c < k := by
  intro c hc; unfold nodU at hc; obtain ⟨j, hj, rfl⟩ := List.mem_map.1 hc; have := List.mem_range.1 (List.mem_filter.1 hj).1; omega
theorem nodU_len (T : List Ac) (k : Nat) : (nodU T k).length ≤ k := by
  unfold nodU; rw [List.length_map]; exact Nat.le_trans (List.length_filter_le _ _) (by simp)
theorem ins_zA : InA zA := right_ins right_z.1
set_option maxRecDepth 100000 in
set_option maxHeartbeats 9000000 in
theorem nodes_any (p : Nat) (T : List Ac) (w : World) (h : BkAt w p T) (hA : Bok T) : Calls Tryz.prog 32 #[.pointer (some ⟨p, 0, none⟩)] w fun e w' => (∃ v, e = .returned v ∧ RetI (nodU T 33) w v w') ∧ Only (fun _ => False) w w' := by
  obtain ⟨i1, hj, hy0, hy1, hy2⟩ : ∃ i1, Tryz.prog.info? 3 = some i1 ∧ i1.zero = some (.int .i64 0) ∧ i1.size = 1 ∧ i1.bytes = 8 := by
    obtain ⟨i, h1, h2⟩ := Option.map_eq_some_iff.1 info_i64; exact ⟨i, h1, by simpa using h2⟩
  have HT := hid h; have HL := hid hA.len; have HRG := hid (h.range hA.len); have HIN : Hid (∀ k, InA (T.getD k zA)) := hid (fun k => right_ins (hA.ok k).1); have HIX : Hid (∀ (j : Nat) w, j < 33 → _) := hid (fun j w hj => run_index_ac T j hA.len hj w); clear h hA; have e0 := HT.out.1 0 (by omega); obtain ⟨e0, -⟩ := e0; go_enter Tryz.func32, Tryz.ntmps32
  go_wp2_with (first | refine wpList_load_mid rfl 117 (Operand.tmp 10) rfl p 0 rfl (av T) _ HRG.out Tryz.underlying117 rfl (by rw [info_accs, av_length, HL.out]) ?_)
  clear e0
  go_loopw [3, 12] (fun sv kv wr => ∃ (k : Nat) (dv : Value), k ≤ 33 ∧ kv = .int .i64 k ∧ dv = sv ∧ Hid (OwnI wr dv (nodU T k)) ∧ Hid (∀ q, dv.ownBlock = some q → w.heap.size ≤ q) ∧ Hid (Only (fun _ => False) w wr)) (fun _ kv _ => 33 - (intOf kv).toNat)
  case atStart => exact ⟨0, _, by omega, rfl, rfl, hid (OwnI.nil _), hid (fun q e => by cases e), hid (Only.refl _ _)⟩
  case round =>
    obtain ⟨k, dv, hk, rfl, rfl, HOI, HBK, HO⟩ := hrel
    by_cases h8 : k < 33
    · have hk0 : (0 : Int) ≤ k := (by omega); have hkn : (k : Int) < 33 := (by omega); have hix := fun w => HIX.out k w h8; have HSU := hid (nodU_succ T k); have HCM : Hid (∀ N w, _) := hid (fun N w => ac_cmpN N (T.getD k zA) zA (HIN.out k) ins_zA w); have HLN := hid (nodU_len T k)
      by_cases hb : T.getD k zA = zA
      · have hSV : nodU T (k + 1) = nodU T k := (by rw [HSU.out, if_neg (fun q => q hb)]); have HSV : Hid (OwnI wr dv (nodU T (k + 1))) := hid (by rw [hSV]; exact HOI.out); rw [hb] at hix HCM; have hc1 := HCM.out 9990; have hc2 := HCM.out 9989; rw [decide_eq_true (rfl : zA = zA)] at hc1 hc2; unfold aggA zA at hix hc1 hc2; dsimp only at hix hc1 hc2; obtain ⟨d0, d1, d2, d3, d4, hw8⟩ := node_box 58 (.int .i64 0) (.int .i64 0) (.int .i64 0) (.int .i64 0) (.int .i64 0) HO.out; have HW8 := hid hw8; have HSV8 := hid (HSV.out.only ((Only.refl (fun _ => False) wr).alloc (.cells #[.int .i64 0, .int .i64 0, .int .i64 0, .int .i64 0, .int .i64 0] 58)) (fun _ _ f => f)); clear hw8 hb hSV HSU HCM; (go_wp2_with fail); go_roundw
        case rel => exact ⟨k + 1, dv, by omega, by go_num, rfl, HSV8, HBK, HW8⟩
        case measure => simp [intOf]; omega
      · have HSV : Hid (nodU T (k + 1) = nodU T k ++ [(k : Int)]) := hid (by rw [HSU.out, if_pos hb]); have hc1 := HCM.out 9990; have hc2 := HCM.out 9989; rw [decide_eq_false hb] at hc1 hc2; clear hb HSU HCM; generalize T.getD k zA = n at *; obtain ⟨xt, xc, xe, xu, xh⟩ := n; unfold aggA zA at hc1 hc2; unfold aggA at hix; dsimp only at hix hc1 hc2; obtain ⟨d0, d1, d2, d3, d4, hw8⟩ := node_box 58 (.int .i64 xt) (.int .i64 xc) (.int .i64 xe) (.int .i64 xu) (.int .i64 xh) HO.out; obtain ⟨wq, hwq⟩ : ∃ x, x = wr.alloc (.cells #[.int .i64 xt, .int .i64 xc, .int .i64 xe, .int .i64 xu, .int .i64 xh] 58) := ⟨_, rfl⟩; have HOW2 : Hid ((wq.alloc (.cells #[.int .i64 k] 3)).ownsRow 0 3 1 dv (nodU T k).length (iv (nodU T k))) := hid (HOI.out.only ((by rw [hwq]; exact ((Only.refl (fun _ => False) wr).alloc _).alloc _)) (fun _ _ f => f)); rw [← hwq] at hw8; have HW8 := hid hw8; have HWQ := hid hwq; generalize hn : (nodU T k).length = n at *; have HN := hid hn; have hn33 : n ≤ 33 := (by have := HLN.out; omega); clear hn hw8 hwq; (go_upto_region 8 with fail); rw [← HWQ.out]; clear HWQ d0 d1 d2 d3 d4; go_wp2_with (at_builtin; refine append_mine rfl _ _ 37 rfl 3 i1 _ 1 8 Tryz.underlying37 hj hy0 hy1 hy2 rfl (by decide) _ n _ rfl HOW2.out ⟨wq.heap.size, 0, none⟩ 1 1 (iv [(k : Int)]) rfl ?c1 ?c2 ?c3 ?c4 ?c5 ?_)
        case c1 => rfl
        case c2 => exact news_int rfl _
        case c3 => exact iv_one _
        case c4 => unfold maxLen; omega
        case c5 => omega
        intro v3 w3 hown hgrow hkk; have HON : Hid (OwnI w3 v3 (nodU T (k + 1))) := hid (by
          unfold OwnI; rw [HSV.out, iv_append, List.length_append, HN.out]; exact hown)
        have HBN : Hid (∀ q, v3.ownBlock = some q → w.heap.size ≤ q) := hid (fun q hq => by
          rcases hkk q hq with e | e
          · exact HBK.out q e
          · have h5 : wq.heap.size ≤ q := (by first | omega | (simp only [size_alloc] at e; omega)); have := HW8.out.size; omega)
        have HON2 : Hid (Only (fun _ => False) w w3) := hid ((HW8.out.alloc _).then (Only.of_grown hgrow) (fun q hq e => by have := HBK.out q e; omega)); clear hown hgrow hkk HOW2; (go_wp2_with fail); go_roundw
        case rel => exact ⟨k + 1, v3, by omega, by go_num, rfl, HON, HBN, HON2⟩
        case measure => simp [intOf]; omega
    · obtain rfl : k = 33 := (by omega); have HR : Hid (RetI (nodU T 33) w dv wr) := hid (RetI.of_own HOI.out (fun c hc => by have := nodU_in T 33 c hc; omega) (by have := nodU_len T 33; omega) HBK.out); (go_wp2_with fail); go_ret
      exact ⟨⟨_, rfl, HR.out⟩, HO.out⟩
end Go.Proofs.YtkbaafgaaiekpaaGreat.fnd
