/- Lines: what they cost: the document's. -/
import Derived.Test.YtdfghdccbpnohaaTirI
namespace Go.Proofs.Ytdfghdccbpnohaa.tirw
open Go.RowKit mem tirm intm bigm bigw
set_option linter.unusedVariables false

theorem swap_exit {Q : Exit → Act → World → Prop} {e : Exit} {a : Act} {w w' : World} (h : w' = w) (k : Q e a w') : Q e a w := by subst h; exact k
def zeros11 : Array Value := #[.int .u64 0, .int .u64 0, .int .u64 0, .int .u64 0, .int .u64 0, .int .u64 0, .int .u64 0, .int .u64 0, .int .u64 0, .int .u64 0, .bool false]
/-- a number's box -/
def BoxS (w : World) (g : Nat) (z : Int) : Prop := ∀ j v, (lits z)[j]? = some v → w.cell? ⟨g, j, none⟩ = some v ∧ w.frozen? ⟨g, j, none⟩ = false
theorem BoxS.only {w w' : World} {g : Nat} {z : Int} (h : BoxS w g z) (ho : Only (fun _ => False) w w') : BoxS w' g z := fun j v hj => by
  obtain ⟨h1, h2⟩ := h j v hj
  exact ⟨ho.cell' h1 (fun f => f), (ho.frozen (p := ⟨g, j, none⟩) (World.block_lt_of_cell? w _ h1) (fun f => f)).trans h2⟩
theorem BoxS.new (w : World) (z : Int) (g : Nat) (hg : g = w.heap.size) : BoxS (w.alloc (.cells (lits z).toArray 56)) g z := fun j v hj => by
  subst hg
  exact ⟨alloc_new _ _ _ _ _ _ rfl (by rw [List.getElem?_toArray]; exact hj), alloc_froz _ _ _ _ _ rfl⟩
theorem BoxS.put {w : World} {g : Nat} {z : Int} (h : BoxS w g z) (y : Int) : BoxS (puts g 0 (lits y) w) g y := by
  have hex : ∀ j, j < 11 → ∃ u, (lits z)[j]? = some u := fun j hj => ⟨(lits z)[j]'hj, List.getElem?_eq_getElem _⟩
  intro j v hj
  refine ⟨puts_cell g (lits y) 0 w ?_ j v (.inr ⟨Nat.zero_le _, by rw [Nat.sub_zero]; exact hj⟩), ?_⟩
  · intro i hi
    obtain ⟨u, hu⟩ := hex i (by rw [Nat.zero_add] at hi; exact hi)
    exact ⟨u, (h i u hu).1⟩
  · rw [puts_frozen]
    have hlt : j < 11 := by
      rcases Nat.lt_or_ge j 11 with g | g
      · exact g
      · rw [List.getElem?_eq_none (show (lits y).length ≤ j from g)] at hj; cases hj
    obtain ⟨u, hu⟩ := hex j hlt
    exact (h j u hu).2
/-- the facts of a box, one by one -/
def Box22 (w : World) (g : Nat) (z : Int) : Prop :=
  (w.cell? ⟨g, 0, none⟩ = some (.int .u64 (limb z.natAbs 0 : Int)) ∧ w.cell? ⟨g, 1, none⟩ = some (.int .u64 (limb z.natAbs 1 : Int)) ∧ w.cell? ⟨g, 2, none⟩ = some (.int .u64 (limb z.natAbs 2 : Int)) ∧ w.cell? ⟨g, 3, none⟩ = some (.int .u64 (limb z.natAbs 3 : Int)) ∧ w.cell? ⟨g, 4, none⟩ = some (.int .u64 (limb z.natAbs 4 : Int)) ∧ w.cell? ⟨g, 5, none⟩ = some (.int .u64 (limb z.natAbs 5 : Int)) ∧ w.cell? ⟨g, 6, none⟩ = some (.int .u64 (limb z.natAbs 6 : Int)) ∧ w.cell? ⟨g, 7, none⟩ = some (.int .u64 (limb z.natAbs 7 : Int)) ∧ w.cell? ⟨g, 8, none⟩ = some (.int .u64 (limb z.natAbs 8 : Int)) ∧ w.cell? ⟨g, 9, none⟩ = some (.int .u64 (limb z.natAbs 9 : Int)) ∧ w.cell? ⟨g, 10, none⟩ = some (.bool (decide (z < 0)))) ∧
  (w.frozen? ⟨g, 0, none⟩ = false ∧ w.frozen? ⟨g, 1, none⟩ = false ∧ w.frozen? ⟨g, 2, none⟩ = false ∧ w.frozen? ⟨g, 3, none⟩ = false ∧ w.frozen? ⟨g, 4, none⟩ = false ∧ w.frozen? ⟨g, 5, none⟩ = false ∧ w.frozen? ⟨g, 6, none⟩ = false ∧ w.frozen? ⟨g, 7, none⟩ = false ∧ w.frozen? ⟨g, 8, none⟩ = false ∧ w.frozen? ⟨g, 9, none⟩ = false ∧ w.frozen? ⟨g, 10, none⟩ = false)
theorem BoxS.all {w : World} {g : Nat} {z : Int} (h : BoxS w g z) : Box22 w g z :=
  ⟨⟨(h 0 _ rfl).1, (h 1 _ rfl).1, (h 2 _ rfl).1, (h 3 _ rfl).1, (h 4 _ rfl).1, (h 5 _ rfl).1, (h 6 _ rfl).1, (h 7 _ rfl).1, (h 8 _ rfl).1, (h 9 _ rfl).1, (h 10 _ rfl).1⟩,
   ⟨(h 0 _ rfl).2, (h 1 _ rfl).2, (h 2 _ rfl).2, (h 3 _ rfl).2, (h 4 _ rfl).2, (h 5 _ rfl).2, (h 6 _ rfl).2, (h 7 _ rfl).2, (h 8 _ rfl).2, (h 9 _ rfl).2, (h 10 _ rfl).2⟩⟩
theorem head_box {w wr : World} {z : Int} (h : HeadS w wr z) : BoxS wr w.heap.size z := h.1
theorem heads_put2 {w wr w2 : World} {z : Int} (y : Int) (h : HeadS w wr z) (ho : Only (fun _ => False) wr w2) : ∃ W, HeadS w W y ∧ W = ((((((((((w2.setCell ⟨w.heap.size, 0, none⟩ (.int .u64 (limb y.natAbs 0 : Int))).setCell ⟨w.heap.size, 1, none⟩ (.int .u64 (limb y.natAbs 1 : Int))).setCell ⟨w.heap.size, 2, none⟩ (.int .u64 (limb y.natAbs 2 : Int))).setCell ⟨w.heap.size, 3, none⟩ (.int .u64 (limb y.natAbs 3 : Int))).setCell ⟨w.heap.size, 4, none⟩ (.int .u64 (limb y.natAbs 4 : Int))).setCell ⟨w.heap.size, 5, none⟩ (.int .u64 (limb y.natAbs 5 : Int))).setCell ⟨w.heap.size, 6, none⟩ (.int .u64 (limb y.natAbs 6 : Int))).setCell ⟨w.heap.size, 7, none⟩ (.int .u64 (limb y.natAbs 7 : Int))).setCell ⟨w.heap.size, 8, none⟩ (.int .u64 (limb y.natAbs 8 : Int))).setCell ⟨w.heap.size, 9, none⟩ (.int .u64 (limb y.natAbs 9 : Int))).setCell ⟨w.heap.size, 10, none⟩ (.bool (decide (y < 0))) :=
  ⟨_, heads_put h ho, rfl⟩
theorem costB_take (ls : List Ln) (k : Nat) (h : k < ls.length) : costB (ls.take (k + 1)) = costB (ls.take k) + (ls.getD k default).b * (ls.getD k default).p := by
  rw [costB_map, costB_map, List.take_succ_eq_append_getElem h, List.map_append, List.sum_append]
  simp [List.getD, h]

theorem box_put {wr wn : World} {g : Nat} {z : Int} (m : Int) (hbx : BoxS wn g z) (ho : Only (fun _ => False) wr wn) (hg : wr.heap.size ≤ g) : ∃ W, BoxS W g m ∧ Only (fun _ => False) wr W ∧ W = ((((((((((wn.setCell ⟨g, 0, none⟩ (.int .u64 (limb m.natAbs 0 : Int))).setCell ⟨g, 1, none⟩ (.int .u64 (limb m.natAbs 1 : Int))).setCell ⟨g, 2, none⟩ (.int .u64 (limb m.natAbs 2 : Int))).setCell ⟨g, 3, none⟩ (.int .u64 (limb m.natAbs 3 : Int))).setCell ⟨g, 4, none⟩ (.int .u64 (limb m.natAbs 4 : Int))).setCell ⟨g, 5, none⟩ (.int .u64 (limb m.natAbs 5 : Int))).setCell ⟨g, 6, none⟩ (.int .u64 (limb m.natAbs 6 : Int))).setCell ⟨g, 7, none⟩ (.int .u64 (limb m.natAbs 7 : Int))).setCell ⟨g, 8, none⟩ (.int .u64 (limb m.natAbs 8 : Int))).setCell ⟨g, 9, none⟩ (.int .u64 (limb m.natAbs 9 : Int))).setCell ⟨g, 10, none⟩ (.bool (decide (m < 0))) :=
  ⟨_, hbx.put m, puts_only g (lits m) 0 wr wn ho (.inr hg), rfl⟩
theorem box_new {wr wn : World} (m : Int) (ho : Only (fun _ => False) wr wn) : ∃ W, BoxS W wn.heap.size m ∧ Only (fun _ => False) wr W ∧ W = wn.alloc (.cells #[.int .u64 (limb m.natAbs 0 : Int), .int .u64 (limb m.natAbs 1 : Int), .int .u64 (limb m.natAbs 2 : Int), .int .u64 (limb m.natAbs 3 : Int), .int .u64 (limb m.natAbs 4 : Int), .int .u64 (limb m.natAbs 5 : Int), .int .u64 (limb m.natAbs 6 : Int), .int .u64 (limb m.natAbs 7 : Int), .int .u64 (limb m.natAbs 8 : Int), .int .u64 (limb m.natAbs 9 : Int), .bool (decide (m < 0))] 56) :=
  ⟨_, BoxS.new wn m _ rfl, ho.alloc _, rfl⟩

end Go.Proofs.Ytdfghdccbpnohaa.tirw
