/- The document's tree: the same list, in its own cells. -/
import Derived.Test.YtginfnceindojaaTrP
import Derived.IntWalk
namespace Go.Proofs.Ytginfnceindojaa.tre
open Go.RowKit mem
set_option linter.unusedVariables false

/-- where there is no node, all is nought -/
def Nul (T : List Nd) : Prop := ∀ k : Nat, (T.getD k default).id = 0 → T.getD k default = default
theorem Nul.new : Nul T0 := fun k _ => getD_T0 k
theorem Nul.set {T : List Nd} (h : Nul T) (k : Nat) (n : Nd) (hn : n.id ≠ 0) : Nul (T.set k n) := by
  intro j hj
  by_cases hk : k < T.length
  · rw [getD_set T k j n hk] at hj ⊢
    by_cases e : j = k
    · rw [if_pos e] at hj; exact absurd hj hn
    · rw [if_neg e] at hj ⊢; exact h j hj
  · rw [List.set_eq_of_length_le (by omega)] at hj ⊢; exact h j hj
theorem got_id {T : List Nd} {id : Int} (h : hasB T id = true) : (got T id).id ≠ 0 := by rw [got_has' h]; exact (hasB_iff.1 h).2.2
theorem Nul.put {T : List Nd} (h : Nul T) (n : Nd) : Nul (putT T n) := by
  unfold putT
  by_cases he : putE T n = 0
  · rw [if_pos he]
    obtain ⟨k, hid, k1, _⟩ := putE_ok he
    exact h.set _ _ (by omega)
  · rw [if_neg he]; exact h
theorem Nul.move {T : List Nd} (h : Nul T) (id par : Int) : Nul (movT T id par) := by
  unfold movT
  by_cases he : movE T id par = 0
  · rw [if_pos he]
    refine h.set _ _ (got_id ?_)
    by_cases hb : hasB T id = false
    · unfold movE at he; rw [if_pos hb] at he; simp at he
    · simpa using hb
  · rw [if_neg he]; exact h
theorem Nul.close {T : List Nd} (h : Nul T) (id : Int) : Nul (cloT T id) := by
  unfold cloT
  by_cases he : cloE T id = 0
  · rw [if_pos he]
    refine h.set _ _ (got_id ?_)
    by_cases hb : hasB T id = false
    · unfold cloE at he; rw [if_pos hb] at he; simp at he
    · simpa using hb
  · rw [if_neg he]; exact h
theorem Nul.limit {T : List Nd} (h : Nul T) (id lim : Int) : Nul (limT T id lim) := by
  unfold limT
  by_cases he : limE T id lim = 0
  · rw [if_pos he]
    refine h.set _ _ (got_id ?_)
    by_cases hb : hasB T id = false
    · unfold limE at he; rw [if_pos hb] at he; simp at he
    · simpa using hb
  · rw [if_neg he]; exact h

def RnAt (w : World) (b o : Nat) (n : Nd) : Prop :=
  w.cell? ⟨b, o, none⟩ = some (.int .i64 n.par) ∧ w.cell? ⟨b, o + 1, none⟩ = some (.int .i64 n.kind) ∧ w.cell? ⟨b, o + 2, none⟩ = some (.int .i64 n.lim) ∧ w.cell? ⟨b, o + 3, none⟩ = some (.bool n.cl)
theorem RnAt.only {S : Nat → Prop} {w w' : World} {b o : Nat} {n : Nd} (h : RnAt w b o n) (ho : Only S w w') (hs : ¬ S b) : RnAt w' b o n :=
  ⟨ho.cell' h.1 hs, ho.cell' h.2.1 hs, ho.cell' h.2.2.1 hs, ho.cell' h.2.2.2 hs⟩
/-- the document's tree, in memory: the nodes from the second place of the list on -/
def RAt (w : World) (p : Nat) (T : List Nd) : Prop := (∀ k, k < 32 → RnAt w p (k * 4) (T.getD (k + 1) default)) ∧ ∀ j, j < 128 → w.frozen? ⟨p, j, none⟩ = false
theorem RAt.lt {w : World} {p : Nat} {T : List Nd} (h : RAt w p T) : p < w.heap.size := World.block_lt_of_cell? w _ (h.1 0 (by omega)).1
theorem RAt.only {S : Nat → Prop} {w w' : World} {p : Nat} {T : List Nd} (h : RAt w p T) (ho : Only S w w') (hs : ¬ S p) : RAt w' p T :=
  ⟨fun k hk => (h.1 k hk).only ho hs, fun j hj => (ho.frozen (p := ⟨p, j, none⟩) h.lt hs).trans (h.2 j hj)⟩
def put4 (w : World) (b o : Nat) (x0 x1 x2 x3 : Value) : World := (((w.setCell ⟨b, o, none⟩ x0).setCell ⟨b, o + 1, none⟩ x1).setCell ⟨b, o + 2, none⟩ x2).setCell ⟨b, o + 3, none⟩ x3
theorem put4_only (w : World) (b o : Nat) (x0 x1 x2 x3 : Value) : Only (fun q => q = b) w (put4 w b o x0 x1 x2 x3) :=
  ((((Only.refl (fun q => q = b) w).setCell (p := ⟨b, o, none⟩) (.inl rfl) _).setCell (p := ⟨b, o + 1, none⟩) (.inl rfl) _).setCell (p := ⟨b, o + 2, none⟩) (.inl rfl) _).setCell (p := ⟨b, o + 3, none⟩) (.inl rfl) _
theorem put4_froz (w : World) (b o : Nat) (x0 x1 x2 x3 : Value) (q : Addr) : (put4 w b o x0 x1 x2 x3).frozen? q = w.frozen? q := by
  unfold put4; rw [frozen_set, frozen_set, frozen_set, frozen_set]
theorem put4_far (w : World) (b o : Nat) (x0 x1 x2 x3 : Value) (j : Nat) (h : j < o ∨ o + 4 ≤ j) : (put4 w b o x0 x1 x2 x3).cell? ⟨b, j, none⟩ = w.cell? ⟨b, j, none⟩ := by
  unfold put4
  rw [cell_other (off_ne (by omega)), cell_other (off_ne (by omega)), cell_other (off_ne (by omega)), cell_other (off_ne (by omega))]
theorem put4_cells {w : World} {b o : Nat} {u0 u1 u2 u3 : Value} (x0 x1 x2 x3 : Value) (h0 : w.cell? ⟨b, o, none⟩ = some u0) (h1 : w.cell? ⟨b, o + 1, none⟩ = some u1) (h2 : w.cell? ⟨b, o + 2, none⟩ = some u2) (h3 : w.cell? ⟨b, o + 3, none⟩ = some u3) :
    (put4 w b o x0 x1 x2 x3).cell? ⟨b, o, none⟩ = some x0 ∧ (put4 w b o x0 x1 x2 x3).cell? ⟨b, o + 1, none⟩ = some x1 ∧ (put4 w b o x0 x1 x2 x3).cell? ⟨b, o + 2, none⟩ = some x2 ∧ (put4 w b o x0 x1 x2 x3).cell? ⟨b, o + 3, none⟩ = some x3 := by
  unfold put4
  refine ⟨?_, ?_, ?_, ?_⟩
  · rw [cell_other (off_ne (by omega)), cell_other (off_ne (by omega)), cell_other (off_ne (by omega)), cell_same h0]
  · rw [cell_other (off_ne (by omega)), cell_other (off_ne (by omega))]
    exact cell_same (by rw [cell_other (off_ne (by omega))]; exact h1)
  · rw [cell_other (off_ne (by omega))]
    exact cell_same (by rw [cell_other (off_ne (by omega)), cell_other (off_ne (by omega))]; exact h2)
  · exact cell_same (by rw [cell_other (off_ne (by omega)), cell_other (off_ne (by omega)), cell_other (off_ne (by omega))]; exact h3)
theorem RAt.put {w : World} {p : Nat} {T : List Nd} (hl : T.length = 33) (h : RAt w p T) (k : Nat) (n : Nd) (hk : k < 32) : RAt (put4 w p (k * 4) (.int .i64 n.par) (.int .i64 n.kind) (.int .i64 n.lim) (.bool n.cl)) p (T.set (k + 1) n) := by
  obtain ⟨hn, hf⟩ := h
  refine ⟨fun j hj => ?_, fun j hj => (put4_froz _ _ _ _ _ _ _ _).trans (hf j hj)⟩
  rw [getD_set T (k + 1) (j + 1) n (by omega)]
  obtain ⟨h0, h1, h2, h3⟩ := hn k hk
  by_cases hjk : j = k
  · subst hjk
    rw [if_pos rfl]
    exact put4_cells _ _ _ _ h0 h1 h2 h3
  · rw [if_neg (by omega)]
    obtain ⟨g0, g1, g2, g3⟩ := hn j hj
    exact ⟨(put4_far _ _ _ _ _ _ _ _ (by omega)).trans g0, (put4_far _ _ _ _ _ _ _ _ (by omega)).trans g1, (put4_far _ _ _ _ _ _ _ _ (by omega)).trans g2, (put4_far _ _ _ _ _ _ _ _ (by omega)).trans g3⟩
def encR (x : Nd) : List Value := [.int .i64 x.par, .int .i64 x.kind, .int .i64 x.lim, .bool x.cl]
theorem RnAt.iff {w : World} {b o : Nat} {n : Nd} : RnAt w b o n ↔ ∀ c, c < 4 → w.cell? ⟨b, o + c, none⟩ = (encR n)[c]? := by
  constructor
  · intro ⟨h0, h1, h2, h3⟩ c hc
    match c, hc with
    | 0, _ => exact h0
    | 1, _ => exact h1
    | 2, _ => exact h2
    | 3, _ => exact h3
  · intro h; exact ⟨h 0 (by omega), h 1 (by omega), h 2 (by omega), h 3 (by omega)⟩
theorem RAt.store {w : World} {p : Nat} {T : List Nd} (hl : T.length = 33) (h : RAt w p T) (k c : Nat) (v : Value) (n' : Nd) (hk : k < 32) (hc : c < 4) (he : encR n' = (encR (T.getD (k + 1) default)).set c v) : RAt (w.setCell ⟨p, k * 4 + c, none⟩ v) p (T.set (k + 1) n') := by
  obtain ⟨hn, hf⟩ := h
  refine ⟨fun j hj => RnAt.iff.2 fun d hd => ?_, fun j hj => frozen_set.trans (hf j hj)⟩
  rw [getD_set T (k + 1) (j + 1) n' (by omega)]
  have h0 := RnAt.iff.1 (hn j hj) d hd
  by_cases hjk : j = k
  · subst hjk
    rw [if_pos rfl, he]
    by_cases hdc : d = c
    · subst hdc
      have hlen : d < (encR (T.getD (j + 1) default)).length := hd
      rw [List.getElem?_set_self hlen]
      obtain ⟨u, hu⟩ : ∃ u, (encR (T.getD (j + 1) default))[d]? = some u := ⟨_, List.getElem?_eq_getElem hlen⟩
      exact cell_same (h0.trans hu)
    · rw [List.getElem?_set_ne (Ne.symm hdc), cell_other (off_ne (by omega))]
      exact h0
  · rw [if_neg (by omega), cell_other (off_ne (by omega)), h0]
/-- a document's call that changes the tree -/
def RDid (p : Nat) (T' : List Nd) (E : Int) (w : World) (e : Ending) (w' : World) : Prop := e = .returned (.int .i64 E) ∧ RAt w' p T' ∧ Only (fun q => q = p) w w'
theorem has_kind {T : List Nd} (ht : Tok T) (hn : Nul T) (j : Nat) (hj : j < 32) : (hasB T ((j : Int) + 1) = true ∧ 0 < (T.getD (j + 1) default).kind) ∨ (hasB T ((j : Int) + 1) = false ∧ (T.getD (j + 1) default).kind = 0) := by
  by_cases h : hasB T ((j : Int) + 1) = true
  · have := (ht.inv (j + 1) (by simpa using h)).1
    exact .inl ⟨h, by omega⟩
  · have hz : (T.getD (j + 1) default).id = 0 := by
      by_cases e : (T.getD (j + 1) default).id = 0
      · exact e
      · exact absurd (hasB_iff.2 ⟨by omega, by omega, by rw [show ((j : Int) + 1).toNat = j + 1 by omega]; exact e⟩) h
    exact .inr ⟨by simpa using h, by rw [hn _ hz]; rfl⟩
theorem there_any (p : Nat) (T : List Nd) (id : Int) (w : World) (h : RAt w p T) (ht : Tok T) (hn : Nul T) : Calls Try.prog 25 #[.pointer (some ⟨p, 0, none⟩), .int .i64 id] w fun e w' => e = .returned (.bool (hasB T id)) ∧ w = w' := by
  by_cases h1 : 1 ≤ id
  · by_cases h2 : id ≤ 32
    · obtain ⟨j, rfl⟩ : ∃ j : Nat, id = (j : Int) + 1 := ⟨(id - 1).toNat, by omega⟩
      have hj : j < 32 := by omega
      have hj2 : (j : Int) < 32 := by omega
      have hj0 : (0 : Int) ≤ j := by omega
      have hwj : IntKind.i64.wrap (j : Int) = (j : Int) := IntWalk.i64_in _ (by omega)
      have c1 := (h.1 j hj).2.1
      rcases has_kind ht hn j hj with ⟨hb, hk⟩ | ⟨hb, hk⟩
      · rw [hb]
        generalize (T.getD (j + 1) default).kind = x at *
        clear h ht hn hb
        go_enter Try.func25, Try.ntmps25
        go_wp2_with fail
        go_ret
        exact ⟨rfl, rfl⟩
      · rw [hb]
        rw [hk] at c1
        clear h ht hn hb
        go_enter Try.func25, Try.ntmps25
        go_wp2_with fail
        go_ret
        exact ⟨rfl, rfl⟩
    · have e : hasB T id = false := by simp only [hasB, decide_eq_false_iff_not]; exact fun h => h2 h.2.1
      rw [e]
      clear e h ht hn
      go_enter Try.func25, Try.ntmps25
      go_wp2_with fail
      go_ret
      exact ⟨rfl, rfl⟩
  · have e : hasB T id = false := by simp only [hasB, decide_eq_false_iff_not]; exact fun h => h1 h.1
    rw [e]
    clear e h ht hn
    go_enter Try.func25, Try.ntmps25
    go_wp2_with fail
    go_ret
    exact ⟨rfl, rfl⟩
theorem rlimit_yes (id : Int) (w : World) (h1 : -1 ≤ id) (h2 : id ≤ 9007199254740992) : Calls Try.prog 75 #[.int .i64 id] w fun e w' => e = .returned (.bool true) ∧ w = w' := by
  go_enter Try.func75, Try.ntmps75
  go_wp2_with fail
  go_ret
  exact ⟨rfl, rfl⟩
theorem rlimit_no (id : Int) (w : World) (h : ¬ (-1 ≤ id ∧ id ≤ 9007199254740992)) : Calls Try.prog 75 #[.int .i64 id] w fun e w' => e = .returned (.bool false) ∧ w = w' := by
  by_cases h1 : -1 ≤ id
  · have h2 : ¬ id ≤ 9007199254740992 := by omega
    clear h
    go_enter Try.func75, Try.ntmps75
    go_wp2_with fail
    go_ret
    exact ⟨rfl, rfl⟩
  · clear h
    go_enter Try.func75, Try.ntmps75
    go_wp2_with fail
    go_ret
    exact ⟨rfl, rfl⟩
def undE (T : List Nd) (par kind : Int) : Int := if hasB T par = false then 7 else if (got T par).kind ≠ kind - 1 then 21 else 0
theorem under_any (p : Nat) (T : List Nd) (kind par : Int) (w : World) (h : RAt w p T) (ht : Tok T) (hn : Nul T) (hk1 : 1 ≤ kind) (hk3 : kind ≤ 3) : Calls Try.prog 76 #[.pointer (some ⟨p, 0, none⟩), .int .i64 kind, .int .i64 par] w fun e w' => e = .returned (.int .i64 (undE T par kind)) ∧ w = w' := by
  have HH := Lib.hid (there_any p T par w h ht hn)
  by_cases hb : hasB T par = false
  · have e : undE T par kind = 7 := by unfold undE; rw [if_pos hb]
    rw [e]
    rw [hb] at HH
    clear e hb h ht hn
    go_enter Try.func76, Try.ntmps76
    go_wp2_with fail
    refine HH.out.mono ?_
    rintro _ _ ⟨rfl, rfl⟩
    go_wp2_with fail
    go_ret
    exact ⟨rfl, rfl⟩
  · have hb' : hasB T par = true := by simpa using hb
    obtain ⟨m, rfl, m1, m2⟩ := hasB_lt hb'
    obtain ⟨j, rfl⟩ : ∃ j, m = j + 1 := ⟨m - 1, by omega⟩
    have hj : j < 32 := by omega
    have hj2 : (j : Int) < 32 := by omega
    have hj0 : (0 : Int) ≤ j := by omega
    have hwj : IntKind.i64.wrap (j : Int) = (j : Int) := IntWalk.i64_in _ (by omega)
    have c1 := (h.1 j hj).2.1
    have e : undE T ((j + 1 : Nat) : Int) kind = if (T.getD (j + 1) default).kind ≠ kind - 1 then 21 else 0 := by unfold undE; rw [if_neg hb, got_has hb']
    rw [e]
    rw [hb'] at HH
    generalize (T.getD (j + 1) default).kind = x at *
    have hwk : IntKind.i64.wrap (kind - 1) = kind - 1 := IntWalk.i64_in _ (by omega)
    rw [Int.natCast_add, Int.natCast_one] at HH ⊢
    clear hb hb' h ht hn e m1 m2
    by_cases hx : x = kind - 1
    · rw [if_neg (by simpa using hx)]
      subst hx
      go_enter Try.func76, Try.ntmps76
      go_wp2_with fail
      refine HH.out.mono ?_
      rintro _ _ ⟨rfl, rfl⟩
      go_wp2_with fail
      go_ret
      exact ⟨rfl, rfl⟩
    · rw [if_pos hx]
      have hxb : (x != kind - 1) = true := by simpa using hx
      go_enter Try.func76, Try.ntmps76
      go_wp2_with fail
      refine HH.out.mono ?_
      rintro _ _ ⟨rfl, rfl⟩
      go_wp2_with fail
      go_ret
      exact ⟨rfl, rfl⟩
end Go.Proofs.Ytginfnceindojaa.tre
