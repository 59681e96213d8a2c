/- Rates: a box of what usage comes to. -/
import Derived.Test.YtghajamcjcflaaaRatV
import Derived.Test.YtghajamcjcflaaaTirCo
namespace Go.Proofs.Ytghajamcjcflaaa.tirw
open Go.RowKit mem tirm intm bigm bigw
set_option linter.unusedVariables false

/-- a box of a Rated's noughts -/
def Zr4 (w : World) (q : Nat) : Prop := q < w.heap.size ∧ (∀ j, w.cell? ⟨q, j, none⟩ = (#[.slice none 0 0, .int .i64 0, .int .i64 0, .int .i64 0] : Array Value)[j]?) ∧ (∀ j, w.frozen? ⟨q, j, none⟩ = false)
theorem Zr4.new (w : World) (t : TypeId) : Zr4 (w.alloc (.cells #[.slice none 0 0, .int .i64 0, .int .i64 0, .int .i64 0] t)) w.heap.size := ⟨by simp, fun j => by simp, fun j => alloc_froz _ _ _ _ _ rfl⟩
theorem Zr4.only {S : Nat → Prop} {w w' : World} {q : Nat} (h : Zr4 w q) (ho : Only S w w') (hs : ¬ S q) : Zr4 w' q :=
  ⟨Nat.lt_of_lt_of_le h.1 ho.size, fun j => by rw [← h.2.1 j]; exact ho.cell (p := ⟨q, j, none⟩) h.1 hs, fun j => (ho.frozen (p := ⟨q, j, none⟩) h.1 hs).trans (h.2.2 j)⟩
theorem Zr4.box {w : World} {q : Nat} (h : Zr4 w q) : BoxV w q [.slice none 0 0, .int .i64 0, .int .i64 0, .int .i64 0] := fun j v hj => ⟨by rw [h.2.1 j, List.getElem?_toArray]; exact hj, h.2.2 j⟩
theorem Zr4.all {w : World} {q : Nat} (h : Zr4 w q) : (w.cell? ⟨q, 0, none⟩ = some (.slice none 0 0) ∧ w.cell? ⟨q, 1, none⟩ = some (.int .i64 0) ∧ w.cell? ⟨q, 2, none⟩ = some (.int .i64 0) ∧ w.cell? ⟨q, 3, none⟩ = some (.int .i64 0)) ∧ w.frozen? ⟨q, 0, none⟩ = false ∧ w.frozen? ⟨q, 1, none⟩ = false ∧ w.frozen? ⟨q, 2, none⟩ = false ∧ w.frozen? ⟨q, 3, none⟩ = false := ⟨⟨h.2.1 0, h.2.1 1, h.2.1 2, h.2.1 3⟩, h.2.2 0, h.2.2 1, h.2.2 2, h.2.2 3⟩
/-- what usage comes to, in a box of the call's own -/
def RBox (wr W : World) (q : Nat) (al : Option Addr) (cl : Nat) (L : List Ln) (k c p : Int) : Prop := BoxV W q [.slice al L.length cl, .int .i64 k, .int .i64 c, .int .i64 p] ∧ ReadsN W al L.length L ∧ wr.heap.size ≤ q ∧ Only (fun _ => False) wr W
theorem rbox_put {wr wn : World} {q : Nat} (hz : Zr4 wn q) (ho : Only (fun _ => False) wr wn) (hq : wr.heap.size ≤ q) {al : Option Addr} {L : List Ln} (cl : Nat) (k c p : Int) (hr : ReadsN wn al L.length L) (hpos : ∀ x ∈ L, 0 < x.b) : ∃ W, RBox wr W q al cl L k c p ∧ W = (((wn.setCell ⟨q, 0, none⟩ (.slice al L.length cl)).setCell ⟨q, 1, none⟩ (.int .i64 k)).setCell ⟨q, 2, none⟩ (.int .i64 c)).setCell ⟨q, 3, none⟩ (.int .i64 p) :=
  have h5 := puts_only q [.slice al L.length cl, .int .i64 k, .int .i64 c, .int .i64 p] 0 wn wn (Only.refl (fun x => x = q) _) (.inl rfl)
  ⟨_, ⟨hz.box.put [.slice al L.length cl, .int .i64 k, .int .i64 c, .int .i64 p] rfl, rated_apart hz.2.1 hz.1 (Only.refl _ _) hr hpos h5, hq, ho.then h5 (fun x hx e => by have e' : x = q := e; omega)⟩, rfl⟩
theorem rbox_new {wr wn : World} (ho : Only (fun _ => False) wr wn) {al : Option Addr} {L : List Ln} (cl : Nat) (k c p : Int) (t : TypeId) (hr : ReadsN wn al L.length L) : ∃ W, RBox wr W wn.heap.size al cl L k c p ∧ W = wn.alloc (.cells #[.slice al L.length cl, .int .i64 k, .int .i64 c, .int .i64 p] t) :=
  ⟨_, ⟨BoxV.new wn [.slice al L.length cl, .int .i64 k, .int .i64 c, .int .i64 p] t _ rfl, hr.only ((Only.refl (fun _ => False) _).alloc _) (fun _ _ f => f), ho.size, ho.alloc _⟩, rfl⟩
theorem RBox.only {wr W W' : World} {q : Nat} {al : Option Addr} {cl : Nat} {L : List Ln} {k c p : Int} (h : RBox wr W q al cl L k c p) (ho : Only (fun _ => False) W W') : RBox wr W' q al cl L k c p := ⟨h.1.only ho (fun f => f), h.2.1.only ho (fun _ _ f => f), h.2.2.1, h.2.2.2.trans ho⟩
theorem RBox.all {wr W : World} {q : Nat} {al : Option Addr} {cl : Nat} {L : List Ln} {k c p : Int} (h : RBox wr W q al cl L k c p) : W.cell? ⟨q, 0, none⟩ = some (.slice al L.length cl) ∧ W.cell? ⟨q, 1, none⟩ = some (.int .i64 k) ∧ W.cell? ⟨q, 2, none⟩ = some (.int .i64 c) ∧ W.cell? ⟨q, 3, none⟩ = some (.int .i64 p) := ⟨(h.1 0 _ rfl).1, (h.1 1 _ rfl).1, (h.1 2 _ rfl).1, (h.1 3 _ rfl).1⟩
/-- of the lines that are told none is empty -/
theorem ra_pos (D F T G1 M1 B1 G2 M2 B2 : Int) (t1 t2 : List Tr) (now pos u : Int) : ∀ x ∈ raL D F T G1 M1 B1 G2 M2 B2 t1 t2 now pos u, 0 < x.b := by
  by_cases h : RatNo D F T G1 M1 B1 G2 M2 B2 t1 t2 now pos u
  · rw [(ra_no h).1]; intro x hx; cases hx
  · obtain ⟨_, hc, ho, _, _, _, k1, hs⟩ := ra_side h
    rcases hs with ⟨_, e⟩ | ⟨_, _, hB, k2, e⟩
    · rw [e]; exact fun x hx => ((spl_facts k1 ho).1 x hx).2.1.1
    · rw [e]; exact fun x hx => ((spl_facts k2 ho).1 x hx).2.1.1
end Go.Proofs.Ytghajamcjcflaaa.tirw
