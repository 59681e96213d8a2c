/- Entries: the law's to and from. -/
import Derived.Test.YtkbaafgaaiekpaaEntK
namespace Go.Proofs.Ytkbaafgaaiekpaa.entw
open Go.RowKit mem entm
set_option linter.unusedVariables false

/-- a local struct of two cells -/
structure LocAt (w : World) (c : Nat) (k v : Value) : Prop where
  c0 : w.cell? ⟨c, 0, none⟩ = some k
  c1 : w.cell? ⟨c, 1, none⟩ = some v
  f1 : w.frozen? ⟨c, 1, none⟩ = false
theorem LocAt.only {S : Nat → Prop} {w w' : World} {c : Nat} {k v : Value} (h : LocAt w c k v) (ho : Only S w w') (hs : ¬ S c) : LocAt w' c k v :=
  ⟨ho.cell' h.c0 hs, ho.cell' h.c1 hs, (ho.frozen (p := ⟨c, 1, none⟩) (World.block_lt_of_cell? w _ h.c1) hs).trans h.f1⟩
theorem LocAt.set {w : World} {c : Nat} {k v : Value} (h : LocAt w c k v) (u : Value) : LocAt (w.setCell ⟨c, 1, none⟩ u) c k u :=
  ⟨by rw [cell_other (off_ne (by omega))]; exact h.c0, cell_same h.c1, by rw [frozen_set]; exact h.f1⟩

/-- an entry of so many legs, in memory of the call's own -/
def LegsMade (kind : Int) (ls : List Lg) (w : World) (e : Ending) (w' : World) : Prop :=
  ∃ a cp, e = .returned (.agg #[.int .i64 kind, .slice a ls.length cp]) ∧ ReadsL w' a ls.length ls ∧ ls.length ≤ cp ∧ (ls = [] → a = none ∧ cp = 0) ∧ Only (fun _ => False) w w'

theorem alloc_froz (W : World) (cs : Array Value) (t : TypeId) (g i : Nat) (hg : g = W.heap.size) : (W.alloc (.cells cs t)).frozen? ⟨g, i, none⟩ = false := by
  subst hg
  have e : (W.alloc (.cells cs t)).heap[W.heap.size]? = some (.cells cs t) := by rw [heap_alloc, if_pos rfl]
  unfold World.frozen?
  dsimp only
  rw [e]
  simp
theorem take_snocL (ls : List Lg) (k : Nat) (h : k < ls.length) : ls.take (k + 1) = ls.take k ++ [ls.getD k default] := by
  rw [List.take_succ_eq_append_getElem h]
  have : ls.getD k default = ls[k] := by simp [List.getD, h]
  rw [this]

end Go.Proofs.Ytkbaafgaaiekpaa.entw
