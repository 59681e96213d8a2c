/- Rates: the opener of a plan. Rates: a box of a plan's eleven cells. Rates: tame of a plan, the cases of the first row: at most nine. Rates: tame of a plan, the cases of the first row: none. Rates: tame of a plan, the cases of the first row: more. -/
import Derived.Test.YtghajamcjcflaaaRatK
import Derived.Test.YtghajamcjcflaaaTirO
import Derived.Test.YtghajamcjcflaaaSumRT
namespace Go.Proofs.Ytghajamcjcflaaa.tirw
open Go.RowKit mem tirm intm bigm bigw
open Go.ChangeShapes Go.WideShapes Go.ChangeAt
set_option linter.unusedVariables false

section
variable {H : Type} {enc : TypeId × Value → H} {w : World} {base : Nat}
set_option maxRecDepth 100000 in
theorem plan_open {fuel : Nat} {cs : Array Value} (hsz : cs.size = 11) {x : DataW H × List MemPlace} (h : DataW.trod enc Try.prog w base (fun _ => true) true fuel 37 (Value.agg cs).cells.toList = some x) : ∃ D F T G1 M1 B1 a1 n1 c1 t1 G2 M2 B2 a2 n2 c2 t2, cs = #[.int .i64 D, .int .i64 F, .int .i64 T, .int .i64 G1, .int .i64 M1, .int .i64 B1, .slice a1 n1 c1, .int .i64 G2, .int .i64 M2, .int .i64 B2, .slice a2 n2 c2] ∧ TiersR w a1 n1 c1 t1 ∧ TiersR w a2 n2 c2 t2 := by
  obtain ⟨ys, n', _, _, hlen, hyl, hf⟩ := DataW.trod_struct Try.underlying37 h
  obtain ⟨l⟩ := cs
  match l, ys, hsz, hyl, hf with
  | [c0, c1, c2, c3, c4, c5, c6, c7, c8, c9, c10], [y0, y1, y2, y3, y4], _, _, hf =>
    have f0 := hf 0 _ rfl
    have f1 := hf 1 _ rfl
    have f2 := hf 2 _ rfl
    have f3 := hf 3 _ rfl
    have f4 := hf 4 _ rfl
    have o3 : Try.prog.cellsOf 3 = 1 := by kernel_rfl
    have o4 : Try.prog.cellsOf 35 = 4 := by kernel_rfl
    simp [o3, Value.cells] at f0 f1 f2
    simp [o4, Value.cells] at f3 f4
    obtain ⟨k0, hk0, _, w0⟩ := DataW.trod_int Try.underlying3 f0
    obtain ⟨k1, hk1, _, w1⟩ := DataW.trod_int Try.underlying3 f1
    obtain ⟨k2, hk2, _, w2⟩ := DataW.trod_int Try.underlying3 f2
    simp at hk0 hk1 hk2
    subst hk0 hk1 hk2
    obtain ⟨G1, M1, B1, a1, n1, q1, t1, e1, h1⟩ := tariff_open (cs := #[c3, c4, c5, c6]) rfl (by simpa [Value.cells] using f3)
    obtain ⟨G2, M2, B2, a2, n2, q2, t2, e2, h2⟩ := tariff_open (cs := #[c7, c8, c9, c10]) rfl (by simpa [Value.cells] using f4)
    simp at e1 e2
    obtain ⟨rfl, rfl, rfl, rfl⟩ := e1
    obtain ⟨rfl, rfl, rfl, rfl⟩ := e2
    exact ⟨k0, k1, k2, G1, M1, B1, a1, n1, q1, t1, G2, M2, B2, a2, n2, q2, t2, rfl, h1, h2⟩
end
end Go.Proofs.Ytghajamcjcflaaa.tirw

namespace Go.Proofs.Ytghajamcjcflaaa.tirw
open Go.RowKit mem tirm intm bigm bigw
set_option linter.unusedVariables false

/-- a box's cells, and not shared -/
def BoxV (w : World) (g : Nat) (vs : List Value) : Prop := ∀ j v, vs[j]? = some v → w.cell? ⟨g, j, none⟩ = some v ∧ w.frozen? ⟨g, j, none⟩ = false
theorem BoxV.only {S : Nat → Prop} {w w' : World} {g : Nat} {vs : List Value} (h : BoxV w g vs) (ho : Only S w w') (hs : ¬ S g) : BoxV w' g vs := fun j v hj => by
  obtain ⟨h1, h2⟩ := h j v hj
  exact ⟨ho.cell' h1 hs, (ho.frozen (p := ⟨g, j, none⟩) (World.block_lt_of_cell? w _ h1) hs).trans h2⟩
theorem BoxV.new (w : World) (vs : List Value) (t : TypeId) (g : Nat) (hg : g = w.heap.size) : BoxV (w.alloc (.cells vs.toArray t)) g vs := fun j v hj => by
  subst hg
  exact ⟨alloc_new _ _ _ _ _ _ rfl (by rw [List.getElem?_toArray]; exact hj), alloc_froz _ _ _ _ _ rfl⟩
theorem BoxV.put {w : World} {g : Nat} {xs : List Value} (h : BoxV w g xs) (ys : List Value) (hl : ys.length = xs.length) : BoxV (puts g 0 ys w) g ys := by
  have hex : ∀ j, j < ys.length → ∃ u, xs[j]? = some u := fun j hj => ⟨xs[j]'(by omega), List.getElem?_eq_getElem _⟩
  intro j v hj
  refine ⟨puts_cell g ys 0 w ?_ j v (.inr ⟨Nat.zero_le _, by rw [Nat.sub_zero]; exact hj⟩), ?_⟩
  · intro i hi
    obtain ⟨u, hu⟩ := hex i (by rw [Nat.zero_add] at hi; exact hi)
    exact ⟨u, (h i u hu).1⟩
  · rw [puts_frozen]
    have hlt : j < ys.length := by
      rcases Nat.lt_or_ge j ys.length with g | g
      · exact g
      · rw [List.getElem?_eq_none g] at hj; cases hj
    obtain ⟨u, hu⟩ := hex j hlt
    exact (h j u hu).2
theorem BoxV.set {w : World} {g : Nat} {xs : List Value} (h : BoxV w g xs) (k : Nat) (v : Value) (hk : k < xs.length) : BoxV (w.setCell ⟨g, k, none⟩ v) g (xs.set k v) := by
  intro j u hj
  have ho := Only.set (fun q => q = g) w g k v rfl
  by_cases e : j = k
  · subst e
    rw [List.getElem?_set_self hk] at hj
    cases hj
    obtain ⟨h1, h2⟩ := h j _ (List.getElem?_eq_getElem hk)
    exact ⟨cell_same h1, by rw [World.frozen?_setCell]; exact h2⟩
  · rw [List.getElem?_set_ne (by omega)] at hj
    obtain ⟨h1, h2⟩ := h j u hj
    exact ⟨by rw [cell_other (off_ne (by omega))]; exact h1, by rw [World.frozen?_setCell]; exact h2⟩
/-- a plan's cells -/
def plV (D F T G1 M1 B1 G2 M2 B2 : Int) (a1 a2 : Option Addr) (n1 n2 c1 c2 : Nat) : List Value := [.int .i64 D, .int .i64 F, .int .i64 T, .int .i64 G1, .int .i64 M1, .int .i64 B1, .slice a1 n1 c1, .int .i64 G2, .int .i64 M2, .int .i64 B2, .slice a2 n2 c2]
def zerosP : List Value := [.int .i64 0, .int .i64 0, .int .i64 0, .int .i64 0, .int .i64 0, .int .i64 0, .slice none 0 0, .int .i64 0, .int .i64 0, .int .i64 0, .slice none 0 0]
/-- the facts of a plan's box, one by one -/
def Plan22 (w : World) (g : Nat) (D F T G1 M1 B1 G2 M2 B2 : Int) (a1 a2 : Option Addr) (n1 n2 c1 c2 : Nat) : Prop := PlanAt w g D F T G1 M1 B1 G2 M2 B2 a1 a2 n1 n2 c1 c2 ∧ (w.frozen? ⟨g, 0, none⟩ = false ∧ w.frozen? ⟨g, 1, none⟩ = false ∧ w.frozen? ⟨g, 2, none⟩ = false ∧ w.frozen? ⟨g, 3, none⟩ = false ∧ w.frozen? ⟨g, 4, none⟩ = false ∧ w.frozen? ⟨g, 5, none⟩ = false ∧ w.frozen? ⟨g, 6, none⟩ = false ∧ w.frozen? ⟨g, 7, none⟩ = false ∧ w.frozen? ⟨g, 8, none⟩ = false ∧ w.frozen? ⟨g, 9, none⟩ = false ∧ w.frozen? ⟨g, 10, none⟩ = false)
theorem BoxV.all {w : World} {g : Nat} {D F T G1 M1 B1 G2 M2 B2 : Int} {a1 a2 : Option Addr} {n1 n2 c1 c2 : Nat} (h : BoxV w g (plV D F T G1 M1 B1 G2 M2 B2 a1 a2 n1 n2 c1 c2)) : Plan22 w g D F T G1 M1 B1 G2 M2 B2 a1 a2 n1 n2 c1 c2 :=
  ⟨⟨(h 0 _ rfl).1, (h 1 _ rfl).1, (h 2 _ rfl).1, (h 3 _ rfl).1, (h 4 _ rfl).1, (h 5 _ rfl).1, (h 6 _ rfl).1, (h 7 _ rfl).1, (h 8 _ rfl).1, (h 9 _ rfl).1, (h 10 _ rfl).1⟩, (h 0 _ rfl).2, (h 1 _ rfl).2, (h 2 _ rfl).2, (h 3 _ rfl).2, (h 4 _ rfl).2, (h 5 _ rfl).2, (h 6 _ rfl).2, (h 7 _ rfl).2, (h 8 _ rfl).2, (h 9 _ rfl).2, (h 10 _ rfl).2⟩
theorem plan_set6 {w : World} {g : Nat} {D F T G1 M1 B1 G2 M2 B2 : Int} {a1 a2 : Option Addr} {n1 n2 c1 c2 : Nat} (h : BoxV w g (plV D F T G1 M1 B1 G2 M2 B2 a1 a2 n1 n2 c1 c2)) (a : Option Addr) (n c : Nat) : BoxV (w.setCell ⟨g, 6, none⟩ (.slice a n c)) g (plV D F T G1 M1 B1 G2 M2 B2 a a2 n n2 c c2) := h.set 6 _ (show 6 < 11 by decide)
theorem plan_set10 {w : World} {g : Nat} {D F T G1 M1 B1 G2 M2 B2 : Int} {a1 a2 : Option Addr} {n1 n2 c1 c2 : Nat} (h : BoxV w g (plV D F T G1 M1 B1 G2 M2 B2 a1 a2 n1 n2 c1 c2)) (a : Option Addr) (n c : Nat) : BoxV (w.setCell ⟨g, 10, none⟩ (.slice a n c)) g (plV D F T G1 M1 B1 G2 M2 B2 a1 a n1 n c1 c) := h.set 10 _ (show 10 < 11 by decide)
theorem plan_put {wn : World} {g : Nat} {xs : List Value} (h : BoxV wn g xs) (hl : xs.length = 11) (D F T G1 M1 B1 G2 M2 B2 : Int) (a1 a2 : Option Addr) (n1 n2 c1 c2 : Nat) : ∃ W, BoxV W g (plV D F T G1 M1 B1 G2 M2 B2 a1 a2 n1 n2 c1 c2) ∧ Only (fun q => q = g) wn W ∧ W = (((((((((((wn.setCell ⟨g, 0, none⟩ (.int .i64 D)).setCell ⟨g, 1, none⟩ (.int .i64 F)).setCell ⟨g, 2, none⟩ (.int .i64 T)).setCell ⟨g, 3, none⟩ (.int .i64 G1)).setCell ⟨g, 4, none⟩ (.int .i64 M1)).setCell ⟨g, 5, none⟩ (.int .i64 B1)).setCell ⟨g, 6, none⟩ (.slice a1 n1 c1)).setCell ⟨g, 7, none⟩ (.int .i64 G2)).setCell ⟨g, 8, none⟩ (.int .i64 M2)).setCell ⟨g, 9, none⟩ (.int .i64 B2)).setCell ⟨g, 10, none⟩ (.slice a2 n2 c2)) :=
  ⟨_, h.put (plV D F T G1 M1 B1 G2 M2 B2 a1 a2 n1 n2 c1 c2) (by rw [hl]; rfl), puts_only g (plV D F T G1 M1 B1 G2 M2 B2 a1 a2 n1 n2 c1 c2) 0 wn wn (Only.refl (fun q => q = g) _) (.inl rfl), rfl⟩
end Go.Proofs.Ytghajamcjcflaaa.tirw

namespace Go.Proofs.Ytghajamcjcflaaa.tirw
open Go.RowKit mem tirm intm bigm bigw
set_option linter.unusedVariables false
end Go.Proofs.Ytghajamcjcflaaa.tirw

namespace Go.Proofs.Ytghajamcjcflaaa.tirw
open Go.RowKit mem tirm intm bigm bigw
set_option linter.unusedVariables false
end Go.Proofs.Ytghajamcjcflaaa.tirw

namespace Go.Proofs.Ytghajamcjcflaaa.tirw
open Go.RowKit mem tirm intm bigm bigw
set_option linter.unusedVariables false
end Go.Proofs.Ytghajamcjcflaaa.tirw

