/- The tree in memory; its calls that only ask. -/
import Derived.Test.YtkbaafgaaiekpaaMem
import Derived.Deep.MidRow
namespace Go.Proofs.Ytkbaafgaaiekpaa.tre
open Go.RowKit mem
set_option linter.unusedVariables false

structure Nd where
  id : Int
  par : Int
  kind : Int
  lim : Int
  cl : Bool
deriving Inhabited, DecidableEq
def encN (x : Nd) : List Value := [.int .i64 x.id, .int .i64 x.par, .int .i64 x.kind, .int .i64 x.lim, .bool x.cl]
def nv (l : List Nd) : List Value := l.flatMap encN
theorem nv_cons (x : Nd) (r : List Nd) : nv (x :: r) = encN x ++ nv r := by simp [nv]
theorem nv_length (l : List Nd) : (nv l).length = l.length * 5 := by
  induction l with
  | nil => rfl
  | cons x r ih => rw [nv_cons, List.length_append, ih, List.length_cons]; simp [encN]; omega
theorem nv_one (l : List Nd) : ∀ u ∈ nv l, u.oneCell' = true := by
  intro u hu
  simp only [nv, List.mem_flatMap] at hu
  obtain ⟨x, _, hx⟩ := hu
  simp [encN] at hx
  rcases hx with rfl | rfl | rfl | rfl | rfl <;> rfl
theorem nv_get : ∀ (l : List Nd) (i c : Nat), i < l.length → c < 5 → (nv l)[i * 5 + c]? = (encN (l.getD i default))[c]? := by
  intro l
  induction l with
  | nil => intro i c hi; simp at hi
  | cons x r ih =>
    intro i c hi hc
    rw [nv_cons]
    cases i with
    | zero => rw [List.getElem?_append_left (by show 0 * 5 + c < 5; omega)]; simp
    | succ i =>
      rw [List.getElem?_append_right (by show 5 ≤ (i + 1) * 5 + c; omega)]
      have e : (i + 1) * 5 + c - (encN x).length = i * 5 + c := by show (i + 1) * 5 + c - 5 = _; omega
      rw [e, ih i c (by simpa using hi) hc]
      simp
/-- a node's cells -/
def NdAt (w : World) (b o : Nat) (n : Nd) : Prop :=
  w.cell? ⟨b, o, none⟩ = some (.int .i64 n.id) ∧ w.cell? ⟨b, o + 1, none⟩ = some (.int .i64 n.par) ∧ w.cell? ⟨b, o + 2, none⟩ = some (.int .i64 n.kind) ∧ w.cell? ⟨b, o + 3, none⟩ = some (.int .i64 n.lim) ∧ w.cell? ⟨b, o + 4, none⟩ = some (.bool n.cl)
theorem NdAt.only {S : Nat → Prop} {w w' : World} {b o : Nat} {n : Nd} (h : NdAt w b o n) (ho : Only S w w') (hs : ¬ S b) : NdAt w' b o n :=
  ⟨ho.cell' h.1 hs, ho.cell' h.2.1 hs, ho.cell' h.2.2.1 hs, ho.cell' h.2.2.2.1 hs, ho.cell' h.2.2.2.2 hs⟩
def TreeAt (w : World) (p : Nat) (T : List Nd) : Prop := T.length = 33 ∧ (∀ k, k < 33 → NdAt w p (k * 5) (T.getD k default)) ∧ ∀ j, j < 165 → w.frozen? ⟨p, j, none⟩ = false
theorem TreeAt.lt {w : World} {p : Nat} {T : List Nd} (h : TreeAt w p T) : p < w.heap.size := World.block_lt_of_cell? w _ (h.2.1 0 (by omega)).1
theorem TreeAt.only {S : Nat → Prop} {w w' : World} {p : Nat} {T : List Nd} (h : TreeAt w p T) (ho : Only S w w') (hs : ¬ S p) : TreeAt w' p T :=
  ⟨h.1, fun k hk => (h.2.1 k hk).only ho hs, fun j hj => (ho.frozen (p := ⟨p, j, none⟩) h.lt hs).trans (h.2.2 j hj)⟩
/-- is there a node of this number? -/
def hasB (T : List Nd) (id : Int) : Bool := decide (1 ≤ id ∧ id ≤ 32 ∧ (T.getD id.toNat default).id ≠ 0)
theorem hasB_iff {T : List Nd} {id : Int} : hasB T id = true ↔ 1 ≤ id ∧ id ≤ 32 ∧ (T.getD id.toNat default).id ≠ 0 := by simp [hasB]

theorem isid_yes (id : Int) (w : World) (h1 : 1 ≤ id) (h2 : id ≤ 32) : Calls Try.prog 65 #[.int .i64 id] w fun e w' => e = .returned (.bool true) ∧ w = w' := by
  go_enter Try.func65, Try.ntmps65
  go_wp2_with fail
  go_ret
  exact ⟨rfl, rfl⟩
theorem isid_no (id : Int) (w : World) (h : ¬ (1 ≤ id ∧ id ≤ 32)) : Calls Try.prog 65 #[.int .i64 id] w fun e w' => e = .returned (.bool false) ∧ w = w' := by
  by_cases h1 : 1 ≤ id
  · have h2 : ¬ id ≤ 32 := by omega
    clear h
    go_enter Try.func65, Try.ntmps65
    go_wp2_with fail
    go_ret
    exact ⟨rfl, rfl⟩
  · clear h
    go_enter Try.func65, Try.ntmps65
    go_wp2_with fail
    go_ret
    exact ⟨rfl, rfl⟩
theorem iskind_yes (id : Int) (w : World) (h1 : 1 ≤ id) (h2 : id ≤ 3) : Calls Try.prog 67 #[.int .i64 id] w fun e w' => e = .returned (.bool true) ∧ w = w' := by
  go_enter Try.func67, Try.ntmps67
  go_wp2_with fail
  go_ret
  exact ⟨rfl, rfl⟩
theorem iskind_no (id : Int) (w : World) (h : ¬ (1 ≤ id ∧ id ≤ 3)) : Calls Try.prog 67 #[.int .i64 id] w fun e w' => e = .returned (.bool false) ∧ w = w' := by
  by_cases h1 : 1 ≤ id
  · have h2 : ¬ id ≤ 3 := by omega
    clear h
    go_enter Try.func67, Try.ntmps67
    go_wp2_with fail
    go_ret
    exact ⟨rfl, rfl⟩
  · clear h
    go_enter Try.func67, Try.ntmps67
    go_wp2_with fail
    go_ret
    exact ⟨rfl, rfl⟩
theorem islimit_yes (id : Int) (w : World) (h1 : -1 ≤ id) (h2 : id ≤ 9007199254740992) : Calls Try.prog 66 #[.int .i64 id] w fun e w' => e = .returned (.bool true) ∧ w = w' := by
  go_enter Try.func66, Try.ntmps66
  go_wp2_with fail
  go_ret
  exact ⟨rfl, rfl⟩
theorem islimit_no (id : Int) (w : World) (h : ¬ (-1 ≤ id ∧ id ≤ 9007199254740992)) : Calls Try.prog 66 #[.int .i64 id] w fun e w' => e = .returned (.bool false) ∧ w = w' := by
  by_cases h1 : -1 ≤ id
  · have h2 : ¬ id ≤ 9007199254740992 := by omega
    clear h
    go_enter Try.func66, Try.ntmps66
    go_wp2_with fail
    go_ret
    exact ⟨rfl, rfl⟩
  · clear h
    go_enter Try.func66, Try.ntmps66
    go_wp2_with fail
    go_ret
    exact ⟨rfl, rfl⟩

theorem has_any (p : Nat) (T : List Nd) (id : Int) (w : World) (h : TreeAt w p T) : Calls Try.prog 68 #[.pointer (some ⟨p, 0, none⟩), .int .i64 id] w fun e w' => e = .returned (.bool (hasB T id)) ∧ w = w' := by
  by_cases hr : 1 ≤ id ∧ id ≤ 32
  · obtain ⟨h1, h2⟩ := hr
    obtain ⟨k, rfl⟩ : ∃ k : Nat, id = k := ⟨id.toNat, by omega⟩
    have hk : k < 33 := by omega
    have hk2 : (k : Int) < 33 := by omega
    have c0 := (h.2.1 k hk).1
    have e : hasB T (k : Int) = decide ((T.getD k default).id ≠ 0) := by simp [hasB, h1, h2]
    rw [e]
    generalize (T.getD k default).id = x at *
    clear h e
    by_cases hx : x = 0
    · subst hx
      go_enter Try.func68, Try.ntmps68
      go_wp2_with ((with_reducible refine (isid_yes _ _ h1 h2).mono ?_); rintro _ _ ⟨rfl, rfl⟩)
      go_ret
      exact ⟨rfl, rfl⟩
    · have hx1 : (x != 0) = true := by simpa using hx
      have hd : decide (x ≠ 0) = true := by simpa using hx
      rw [hd]
      clear hx hd
      go_enter Try.func68, Try.ntmps68
      go_wp2_with ((with_reducible refine (isid_yes _ _ h1 h2).mono ?_); rintro _ _ ⟨rfl, rfl⟩)
      go_ret
      exact ⟨rfl, rfl⟩
  · have e : hasB T id = false := by simp only [hasB, decide_eq_false_iff_not]; exact fun h => hr ⟨h.1, h.2.1⟩
    rw [e]
    clear e h
    go_enter Try.func68, Try.ntmps68
    go_wp2_with ((with_reducible refine (isid_no _ _ hr).mono ?_); rintro _ _ ⟨rfl, rfl⟩)
    go_ret
    exact ⟨rfl, rfl⟩

/-- five cells that may be stored into -/
def Five (w : World) (b : Nat) : Prop := (∃ u, w.cell? ⟨b, 0, none⟩ = some u) ∧ (∃ u, w.cell? ⟨b, 1, none⟩ = some u) ∧ (∃ u, w.cell? ⟨b, 2, none⟩ = some u) ∧ (∃ u, w.cell? ⟨b, 3, none⟩ = some u) ∧ (∃ u, w.cell? ⟨b, 4, none⟩ = some u) ∧
  w.frozen? ⟨b, 0, none⟩ = false ∧ w.frozen? ⟨b, 1, none⟩ = false ∧ w.frozen? ⟨b, 2, none⟩ = false ∧ w.frozen? ⟨b, 3, none⟩ = false ∧ w.frozen? ⟨b, 4, none⟩ = false
theorem alloc_cell {w : World} {cs : Array Value} {t : TypeId} {g i : Nat} {v : Value} (hg : g = w.heap.size) (hv : cs[i]? = some v) : (w.alloc (.cells cs t)).cell? ⟨g, i, none⟩ = some v := by
  subst hg
  rw [Go.Joins.cell_of_block (cs := cs) (t := t) (fr := (0, 0)) (by rw [heap_alloc, if_pos rfl])]
  exact hv
theorem alloc_froz (W : World) (cs : Array Value) (t : TypeId) (g i : Nat) (hg : g = W.heap.size) : (W.alloc (.cells cs t)).frozen? ⟨g, i, none⟩ = false := by
  subst hg
  have e : (W.alloc (.cells cs t)).heap[W.heap.size]? = some (.cells cs t) := by rw [heap_alloc, if_pos rfl]
  unfold World.frozen?
  dsimp only
  rw [e]
  simp
theorem Five.new {w : World} {x0 x1 x2 x3 x4 : Value} {t : TypeId} {g : Nat} (hg : g = w.heap.size) : Five (w.alloc (.cells #[x0, x1, x2, x3, x4] t)) g :=
  ⟨⟨_, alloc_cell hg rfl⟩, ⟨_, alloc_cell hg rfl⟩, ⟨_, alloc_cell hg rfl⟩, ⟨_, alloc_cell hg rfl⟩, ⟨_, alloc_cell hg rfl⟩, alloc_froz _ _ _ _ _ hg, alloc_froz _ _ _ _ _ hg, alloc_froz _ _ _ _ _ hg, alloc_froz _ _ _ _ _ hg, alloc_froz _ _ _ _ _ hg⟩
theorem Five.only {S : Nat → Prop} {w w' : World} {b : Nat} (h : Five w b) (ho : Only S w w') (hs : ¬ S b) : Five w' b := by
  obtain ⟨⟨u0, h0⟩, ⟨u1, h1⟩, ⟨u2, h2⟩, ⟨u3, h3⟩, ⟨u4, h4⟩, f0, f1, f2, f3, f4⟩ := h
  have hlt : b < w.heap.size := World.block_lt_of_cell? w _ h0
  exact ⟨⟨u0, ho.cell' h0 hs⟩, ⟨u1, ho.cell' h1 hs⟩, ⟨u2, ho.cell' h2 hs⟩, ⟨u3, ho.cell' h3 hs⟩, ⟨u4, ho.cell' h4 hs⟩, (ho.frozen (p := ⟨b, 0, none⟩) hlt hs).trans f0, (ho.frozen (p := ⟨b, 1, none⟩) hlt hs).trans f1, (ho.frozen (p := ⟨b, 2, none⟩) hlt hs).trans f2, (ho.frozen (p := ⟨b, 3, none⟩) hlt hs).trans f3, (ho.frozen (p := ⟨b, 4, none⟩) hlt hs).trans f4⟩
theorem off_ne {b i j : Nat} (h : i ≠ j) : (⟨b, i, none⟩ : Addr) ≠ ⟨b, j, none⟩ := fun e => h (by injection e)
def put5 (w : World) (b o : Nat) (x0 x1 x2 x3 x4 : Value) : World := ((((w.setCell ⟨b, o, none⟩ x0).setCell ⟨b, o + 1, none⟩ x1).setCell ⟨b, o + 2, none⟩ x2).setCell ⟨b, o + 3, none⟩ x3).setCell ⟨b, o + 4, none⟩ x4
theorem put5_only (w : World) (b o : Nat) (x0 x1 x2 x3 x4 : Value) : Only (fun q => q = b) w (put5 w b o x0 x1 x2 x3 x4) :=
  (((((Only.refl (fun q => q = b) w).setCell (p := ⟨b, o, none⟩) (.inl rfl) _).setCell (p := ⟨b, o + 1, none⟩) (.inl rfl) _).setCell (p := ⟨b, o + 2, none⟩) (.inl rfl) _).setCell (p := ⟨b, o + 3, none⟩) (.inl rfl) _).setCell (p := ⟨b, o + 4, none⟩) (.inl rfl) _
theorem put5_froz (w : World) (b o : Nat) (x0 x1 x2 x3 x4 : Value) (q : Addr) : (put5 w b o x0 x1 x2 x3 x4).frozen? q = w.frozen? q := by
  unfold put5; rw [frozen_set, frozen_set, frozen_set, frozen_set, frozen_set]
theorem put5_far (w : World) (b o : Nat) (x0 x1 x2 x3 x4 : Value) (j : Nat) (h : j < o ∨ o + 5 ≤ j) : (put5 w b o x0 x1 x2 x3 x4).cell? ⟨b, j, none⟩ = w.cell? ⟨b, j, none⟩ := by
  unfold put5
  rw [cell_other (off_ne (by omega)), cell_other (off_ne (by omega)), cell_other (off_ne (by omega)), cell_other (off_ne (by omega)), cell_other (off_ne (by omega))]
theorem put5_cells {w : World} {b o : Nat} {u0 u1 u2 u3 u4 : Value} (x0 x1 x2 x3 x4 : Value) (h0 : w.cell? ⟨b, o, none⟩ = some u0) (h1 : w.cell? ⟨b, o + 1, none⟩ = some u1) (h2 : w.cell? ⟨b, o + 2, none⟩ = some u2) (h3 : w.cell? ⟨b, o + 3, none⟩ = some u3) (h4 : w.cell? ⟨b, o + 4, none⟩ = some u4) :
    (put5 w b o x0 x1 x2 x3 x4).cell? ⟨b, o, none⟩ = some x0 ∧ (put5 w b o x0 x1 x2 x3 x4).cell? ⟨b, o + 1, none⟩ = some x1 ∧ (put5 w b o x0 x1 x2 x3 x4).cell? ⟨b, o + 2, none⟩ = some x2 ∧ (put5 w b o x0 x1 x2 x3 x4).cell? ⟨b, o + 3, none⟩ = some x3 ∧ (put5 w b o x0 x1 x2 x3 x4).cell? ⟨b, o + 4, none⟩ = some x4 := by
  unfold put5
  refine ⟨?_, ?_, ?_, ?_, ?_⟩
  · rw [cell_other (off_ne (by omega)), cell_other (off_ne (by omega)), cell_other (off_ne (by omega)), cell_other (off_ne (by omega)), cell_same h0]
  · rw [cell_other (off_ne (by omega)), cell_other (off_ne (by omega)), cell_other (off_ne (by omega))]
    exact cell_same (by rw [cell_other (off_ne (by omega))]; exact h1)
  · rw [cell_other (off_ne (by omega)), cell_other (off_ne (by omega))]
    exact cell_same (by rw [cell_other (off_ne (by omega)), cell_other (off_ne (by omega))]; exact h2)
  · rw [cell_other (off_ne (by omega))]
    exact cell_same (by rw [cell_other (off_ne (by omega)), cell_other (off_ne (by omega)), cell_other (off_ne (by omega))]; exact h3)
  · exact cell_same (by rw [cell_other (off_ne (by omega)), cell_other (off_ne (by omega)), cell_other (off_ne (by omega)), cell_other (off_ne (by omega))]; exact h4)
def put50 (w : World) (b : Nat) (x0 x1 x2 x3 x4 : Value) : World := ((((w.setCell ⟨b, 0, none⟩ x0).setCell ⟨b, 1, none⟩ x1).setCell ⟨b, 2, none⟩ x2).setCell ⟨b, 3, none⟩ x3).setCell ⟨b, 4, none⟩ x4
theorem put50_eq (w : World) (b : Nat) (x0 x1 x2 x3 x4 : Value) : put50 w b x0 x1 x2 x3 x4 = put5 w b 0 x0 x1 x2 x3 x4 := by unfold put50 put5; simp only [Nat.zero_add]
theorem Five.put {w : World} {b : Nat} (h : Five w b) (x0 x1 x2 x3 x4 : Value) :
    (put50 w b x0 x1 x2 x3 x4).cell? ⟨b, 0, none⟩ = some x0 ∧ (put50 w b x0 x1 x2 x3 x4).cell? ⟨b, 1, none⟩ = some x1 ∧ (put50 w b x0 x1 x2 x3 x4).cell? ⟨b, 2, none⟩ = some x2 ∧ (put50 w b x0 x1 x2 x3 x4).cell? ⟨b, 3, none⟩ = some x3 ∧ (put50 w b x0 x1 x2 x3 x4).cell? ⟨b, 4, none⟩ = some x4 := by
  obtain ⟨⟨u0, h0⟩, ⟨u1, h1⟩, ⟨u2, h2⟩, ⟨u3, h3⟩, ⟨u4, h4⟩, _⟩ := h
  have := put5_cells x0 x1 x2 x3 x4 (b := b) (o := 0) h0 h1 h2 h3 h4
  rw [put50_eq]
  simpa only [Nat.zero_add] using this
/-- a box of a node -/
theorem node_box {w0 w1 : World} (t : TypeId) (x0 x1 x2 x3 x4 : Value) (ho : Only (fun _ => False) w0 w1) :
    (w1.alloc (.cells #[x0, x1, x2, x3, x4] t)).cell? ⟨w1.heap.size, 0, none⟩ = some x0 ∧
    (w1.alloc (.cells #[x0, x1, x2, x3, x4] t)).cell? ⟨w1.heap.size, 1, none⟩ = some x1 ∧
    (w1.alloc (.cells #[x0, x1, x2, x3, x4] t)).cell? ⟨w1.heap.size, 2, none⟩ = some x2 ∧
    (w1.alloc (.cells #[x0, x1, x2, x3, x4] t)).cell? ⟨w1.heap.size, 3, none⟩ = some x3 ∧
    (w1.alloc (.cells #[x0, x1, x2, x3, x4] t)).cell? ⟨w1.heap.size, 4, none⟩ = some x4 ∧
    Only (fun _ => False) w0 (w1.alloc (.cells #[x0, x1, x2, x3, x4] t)) :=
  ⟨alloc_cell rfl rfl, alloc_cell rfl rfl, alloc_cell rfl rfl, alloc_cell rfl rfl, alloc_cell rfl rfl, ho.alloc _⟩

/-- what Get answers -/
def got (T : List Nd) (id : Int) : Nd := if hasB T id = true then T.getD id.toNat default else ⟨0, 0, 0, 0, false⟩
def gotE (T : List Nd) (id : Int) : Int := if hasB T id = true then 0 else 7
def aggN (n : Nd) : Value := .agg #[.int .i64 n.id, .int .i64 n.par, .int .i64 n.kind, .int .i64 n.lim, .bool n.cl]
set_option maxHeartbeats 2000000 in
theorem get_any (p : Nat) (T : List Nd) (id : Int) (w : World) (h : TreeAt w p T) : Calls Try.prog 46 #[.pointer (some ⟨p, 0, none⟩), .int .i64 id] w fun e w' => e = .returned (.tuple #[aggN (got T id), .int .i64 (gotE T id)]) ∧ Only (fun _ => False) w w' := by
  have HF : Hid (∀ cs t, TreeAt (w.alloc (.cells cs t)) p T) := Lib.hid (fun cs t => h.only ((Only.refl (fun _ => False) w).alloc _) (fun f => f))
  obtain ⟨hb, hbe⟩ : ∃ hb, hb = hasB T id := ⟨_, rfl⟩
  have H0 := Lib.hid h
  unfold got gotE
  rw [← hbe]
  have HB := Lib.hid hbe
  cases hb
  · clear h hbe
    have HC : Hid (∀ (cs : Array Value) t, ∀ (i : Nat) v, cs[i]? = some v → (w.alloc (.cells cs t)).cell? ⟨w.heap.size, i, none⟩ = some v) := Lib.hid (fun cs t i v h => alloc_cell rfl h)
    have HO : Hid (∀ o, Only (fun _ => False) w (w.alloc o)) := Lib.hid (fun o => (Only.refl _ _).alloc o)
    go_enter Try.func46, Try.ntmps46
    go_wp2_with ((with_reducible refine (has_any p T id _ (HF.out _ _)).mono ?_); rw [← HB.out]; rintro _ _ ⟨rfl, rfl⟩)
    have c0 := HC.out #[.int .i64 0, .int .i64 0, .int .i64 0, .int .i64 0, .bool false] 79 0 _ rfl
    have c1 := HC.out #[.int .i64 0, .int .i64 0, .int .i64 0, .int .i64 0, .bool false] 79 1 _ rfl
    have c2 := HC.out #[.int .i64 0, .int .i64 0, .int .i64 0, .int .i64 0, .bool false] 79 2 _ rfl
    have c3 := HC.out #[.int .i64 0, .int .i64 0, .int .i64 0, .int .i64 0, .bool false] 79 3 _ rfl
    have c4 := HC.out #[.int .i64 0, .int .i64 0, .int .i64 0, .int .i64 0, .bool false] 79 4 _ rfl
    refine bodyPost_ret (v := .tuple #[aggN ⟨0, 0, 0, 0, false⟩, .int .i64 7]) (by simp [results, Try.results46, go_sem, aggN, c0, c1, c2, c3, c4]) rfl ⟨rfl, HO.out _⟩
  · obtain ⟨h1, h2, h3⟩ := hasB_iff.1 hbe.symm
    rw [if_pos rfl, if_pos rfl]
    obtain ⟨k, rfl⟩ : ∃ k : Nat, id = k := ⟨id.toNat, by omega⟩
    rw [Int.toNat_natCast] at h3 ⊢
    have hk : k < 33 := by omega
    have hk2 : (k : Int) < 33 := by omega
    obtain ⟨c0, c1, c2, c3, c4⟩ := (HF.out #[.int .i64 0, .int .i64 0, .int .i64 0, .int .i64 0, .bool false] 79).2.1 k hk
    generalize T.getD k default = n at *
    obtain ⟨ni, np, nk, nl, nc⟩ := n
    dsimp only at c0 c1 c2 c3 c4
    have HP := Lib.hid (node_box 79 (.int .i64 ni) (.int .i64 np) (.int .i64 nk) (.int .i64 nl) (.bool nc) (Only.refl _ w))
    clear h hbe h3
    go_enter Try.func46, Try.ntmps46
    go_wp2_with ((with_reducible refine (has_any p T k _ (HF.out _ _)).mono ?_); rw [← HB.out]; rintro _ _ ⟨rfl, rfl⟩)
    obtain ⟨e0, e1, e2, e3, e4, ho⟩ := HP.out
    refine bodyPost_ret (v := .tuple #[aggN ⟨ni, np, nk, nl, nc⟩, .int .i64 0]) (by simp [results, Try.results46, go_sem, aggN]) rfl ⟨rfl, ho⟩
/-- may a node of this kind stand under that one? -/
def takE (T : List Nd) (par kind : Int) : Int := if hasB T par = false then 7 else if (got T par).kind ≠ kind - 1 then 21 else if (got T par).cl = true then 16 else 0
set_option maxHeartbeats 2000000 in
theorem takes_any (p : Nat) (T : List Nd) (par kind : Int) (w : World) (h : TreeAt w p T) (hk : -100 ≤ kind ∧ kind ≤ 100) : Calls Try.prog 69 #[.pointer (some ⟨p, 0, none⟩), .int .i64 par, .int .i64 kind] w fun e w' => e = .returned (.int .i64 (takE T par kind)) ∧ Only (fun _ => False) w w' := by
  have HG := Lib.hid (get_any p T par w h)
  unfold takE
  obtain ⟨hb, hbe⟩ : ∃ hb, hb = hasB T par := ⟨_, rfl⟩
  have hg0 : gotE T par = if hb = true then 0 else 7 := by unfold gotE; rw [hbe]
  rw [← hbe]
  generalize got T par = n at *
  generalize gotE T par = ge at *
  obtain ⟨ni, np, nk, nl, nc⟩ := n
  unfold aggN at HG
  dsimp only at HG ⊢
  clear h hbe
  have HX : Hid (∀ w1, Only (fun _ => False) w w1 → _) := Lib.hid (fun w1 ho => node_box 79 (.int .i64 ni) (.int .i64 np) (.int .i64 nk) (.int .i64 nl) (.bool nc) ho)
  obtain ⟨hk0, hk1⟩ := hk
  have HG0 := Lib.hid hg0
  go_enter Try.func69, Try.ntmps69
  go_wp2_with fail
  refine HG.out.mono ?_
  rintro _ w1 ⟨rfl, ho⟩
  have HO := Lib.hid ho
  obtain ⟨e0, e1, e2, e3, e4, ho9⟩ := HX.out w1 ho
  have HO9 := Lib.hid ho9
  clear ho ho9 HG HX hg0
  cases hb
  · obtain rfl : ge = 7 := HG0.out
    go_wp2_with fail
    go_ret
    exact ⟨rfl, HO9.out⟩
  · obtain rfl : ge = 0 := HG0.out
    by_cases h1 : nk = kind - 1
    · subst h1
      cases nc
      · go_wp2_with fail
        go_ret
        exact ⟨by simp, HO9.out⟩
      · go_wp2_with fail
        go_ret
        exact ⟨by simp, HO9.out⟩
    · have h2 : (nk != kind - 1) = true := by simpa using h1
      go_wp2_with fail
      go_ret
      exact ⟨by simp, HO9.out⟩
end Go.Proofs.Ytkbaafgaaiekpaa.tre
