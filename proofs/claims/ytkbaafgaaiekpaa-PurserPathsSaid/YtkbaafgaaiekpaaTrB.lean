/- The tree: SetLimit, Put, Create, Move. -/
import Derived.Test.YtkbaafgaaiekpaaTrA
namespace Go.Proofs.Ytkbaafgaaiekpaa.tre
open Go.RowKit mem
set_option linter.unusedVariables false

theorem NdAt.iff {w : World} {b o : Nat} {n : Nd} : NdAt w b o n ↔ ∀ c, c < 5 → w.cell? ⟨b, o + c, none⟩ = (encN n)[c]? := by
  constructor
  · rintro ⟨h0, h1, h2, h3, h4⟩ c hc
    match c, hc with
    | 0, _ => exact h0
    | 1, _ => exact h1
    | 2, _ => exact h2
    | 3, _ => exact h3
    | 4, _ => exact h4
  · intro h
    exact ⟨h 0 (by omega), h 1 (by omega), h 2 (by omega), h 3 (by omega), h 4 (by omega)⟩
theorem getD_set (T : List Nd) (k j : Nat) (n : Nd) (hk : k < T.length) : (T.set k n).getD j default = if j = k then n else T.getD j default := by
  by_cases h : j = k
  · subst h; simp [List.getD, hk]
  · rw [if_neg h]; simp [List.getD, Ne.symm h]
/-- one cell of a node is stored into -/
theorem TreeAt.store {w : World} {p : Nat} {T : List Nd} (h : TreeAt w p T) (k c : Nat) (v : Value) (n' : Nd) (hk : k < 33) (hc : c < 5) (he : encN n' = (encN (T.getD k default)).set c v) : TreeAt (w.setCell ⟨p, k * 5 + c, none⟩ v) p (T.set k n') := by
  obtain ⟨hl, hn, hf⟩ := h
  refine ⟨by simpa using hl, fun j hj => NdAt.iff.2 fun d hd => ?_, fun j hj => frozen_set.trans (hf j hj)⟩
  rw [getD_set T k j n' (by omega)]
  have h0 := NdAt.iff.1 (hn j hj) d hd
  by_cases hjk : j = k
  · subst hjk
    rw [if_pos rfl, he]
    by_cases hdc : d = c
    · subst hdc
      have hlen : d < (encN (T.getD j default)).length := hd
      rw [List.getElem?_set_self hlen]
      obtain ⟨u, hu⟩ : ∃ u, (encN (T.getD j default))[d]? = some u := ⟨_, List.getElem?_eq_getElem hlen⟩
      exact cell_same (h0.trans hu)
    · rw [List.getElem?_set_ne (Ne.symm hdc), cell_other (off_ne (by omega))]
      exact h0
  · rw [if_neg hjk, cell_other (off_ne (by omega))]
    exact h0
theorem TreeAt.drew {w : World} {p : Nat} {T : List Nd} (h : TreeAt w p T) : TreeAt w.drew p T := h.only ((Only.refl (fun _ => False) w).drew) (fun f => f)
/-- a whole node is stored -/
theorem TreeAt.put {w : World} {p : Nat} {T : List Nd} (h : TreeAt w p T) (k : Nat) (n : Nd) (hk : k < 33) : TreeAt (put5 w p (k * 5) (.int .i64 n.id) (.int .i64 n.par) (.int .i64 n.kind) (.int .i64 n.lim) (.bool n.cl)) p (T.set k n) := by
  obtain ⟨hl, hn, hf⟩ := h
  refine ⟨by simpa using hl, fun j hj => ?_, fun j hj => (put5_froz _ _ _ _ _ _ _ _ _).trans (hf j hj)⟩
  rw [getD_set T k j n (by omega)]
  obtain ⟨h0, h1, h2, h3, h4⟩ := hn k hk
  by_cases hjk : j = k
  · subst hjk
    rw [if_pos rfl]
    exact put5_cells _ _ _ _ _ h0 h1 h2 h3 h4
  · rw [if_neg hjk]
    obtain ⟨g0, g1, g2, g3, g4⟩ := hn j hj
    exact ⟨(put5_far _ _ _ _ _ _ _ _ _ (by omega)).trans g0, (put5_far _ _ _ _ _ _ _ _ _ (by omega)).trans g1, (put5_far _ _ _ _ _ _ _ _ _ (by omega)).trans g2, (put5_far _ _ _ _ _ _ _ _ _ (by omega)).trans g3, (put5_far _ _ _ _ _ _ _ _ _ (by omega)).trans g4⟩
/-- the tree is T' behind the call, which answers E -/
def Did (p : Nat) (T' : List Nd) (E : Int) (w : World) (e : Ending) (w' : World) : Prop := e = .returned (.int .i64 E) ∧ TreeAt w' p T' ∧ Only (fun q => q = p) w w'
theorem Only.p {w w' : World} (p : Nat) (h : Only (fun _ => False) w w') : Only (fun q => q = p) w w' := h.mono (fun _ _ f => f.elim)

def limE (T : List Nd) (id lim : Int) : Int := if hasB T id = false then 7 else if ¬ (-1 ≤ lim ∧ lim ≤ 9007199254740992) then 1 else if (got T id).cl = true then 16 else 0
def limT (T : List Nd) (id lim : Int) : List Nd := if limE T id lim = 0 then T.set id.toNat { got T id with lim := lim } else T
/-- what is known ahead of a call that asks for a node first -/
theorem get_ahead (p : Nat) (T : List Nd) (id : Int) (w : World) (h : TreeAt w p T) : ∃ ni np nk nl nc ge, got T id = ⟨ni, np, nk, nl, nc⟩ ∧ gotE T id = ge ∧ (hasB T id = false → ge = 7) ∧ (hasB T id = true → ge = 0 ∧ ∃ k : Nat, id = k ∧ 1 ≤ k ∧ k < 33 ∧ T.getD k default = ⟨ni, np, nk, nl, nc⟩ ∧ ni ≠ 0) ∧
    Hid (Calls Try.prog 46 #[.pointer (some ⟨p, 0, none⟩), .int .i64 id] w fun e w' => e = .returned (.tuple #[.agg #[.int .i64 ni, .int .i64 np, .int .i64 nk, .int .i64 nl, .bool nc], .int .i64 ge]) ∧ Only (fun _ => False) w w') ∧
    Hid (∀ w1, Only (fun _ => False) w w1 → (w1.alloc (.cells #[.int .i64 ni, .int .i64 np, .int .i64 nk, .int .i64 nl, .bool nc] 79)).cell? ⟨w1.heap.size, 0, none⟩ = some (.int .i64 ni) ∧
      (w1.alloc (.cells #[.int .i64 ni, .int .i64 np, .int .i64 nk, .int .i64 nl, .bool nc] 79)).cell? ⟨w1.heap.size, 1, none⟩ = some (.int .i64 np) ∧
      (w1.alloc (.cells #[.int .i64 ni, .int .i64 np, .int .i64 nk, .int .i64 nl, .bool nc] 79)).cell? ⟨w1.heap.size, 2, none⟩ = some (.int .i64 nk) ∧
      (w1.alloc (.cells #[.int .i64 ni, .int .i64 np, .int .i64 nk, .int .i64 nl, .bool nc] 79)).cell? ⟨w1.heap.size, 3, none⟩ = some (.int .i64 nl) ∧
      (w1.alloc (.cells #[.int .i64 ni, .int .i64 np, .int .i64 nk, .int .i64 nl, .bool nc] 79)).cell? ⟨w1.heap.size, 4, none⟩ = some (.bool nc) ∧
      Only (fun _ => False) w (w1.alloc (.cells #[.int .i64 ni, .int .i64 np, .int .i64 nk, .int .i64 nl, .bool nc] 79))) := by
  refine ⟨(got T id).id, (got T id).par, (got T id).kind, (got T id).lim, (got T id).cl, gotE T id, rfl, rfl, fun e => by unfold gotE; rw [e]; rfl, fun e => ?_, Lib.hid (get_any p T id w h), Lib.hid fun w1 ho => node_box _ _ _ _ _ _ ho⟩
  obtain ⟨h1, h2, h3⟩ := hasB_iff.1 e
  have hg : got T id = T.getD id.toNat default := by unfold got; rw [if_pos e]
  exact ⟨by unfold gotE; rw [if_pos e], id.toNat, by omega, by omega, by omega, by rw [hg], by rw [hg]; exact h3⟩
def movE (T : List Nd) (id par : Int) : Int := if hasB T id = false then 7 else if (got T id).cl = true then 16 else if (got T id).kind = 1 then 21 else if takE T par (got T id).kind ≠ 0 then takE T par (got T id).kind else if (got T id).par = par then 8 else 0
def movT (T : List Nd) (id par : Int) : List Nd := if movE T id par = 0 then T.set id.toNat { got T id with par := par } else T
def KindOk (T : List Nd) : Prop := ∀ k, 0 ≤ (T.getD k default).kind ∧ (T.getD k default).kind ≤ 3
end Go.Proofs.Ytkbaafgaaiekpaa.tre
