/- The document's numbers in parts: what Minus answers. -/
import Derived.Test.YthflglejhhebeaaBigInt
namespace Go.Proofs.Ythflglejhhebeaa.bigw
open Go.RowKit mem bigm intm
set_option linter.unusedVariables false

/-- two numbers boxed -/
def boxes2 (w : World) (A B : Nat → Nat) (s t : Bool) (ty : TypeId) : World := (w.alloc (.cells (bigC A s) ty)).alloc (.cells (bigC B t) ty)
theorem boxes2_one (w : World) (A B : Nat → Nat) (s t : Bool) (ty : TypeId) (j : Nat) (v : Value) (h : (bigC A s)[j]? = some v) : (boxes2 w A B s t ty).cell? ⟨w.heap.size, j, none⟩ = some v ∧ (boxes2 w A B s t ty).frozen? ⟨w.heap.size, j, none⟩ = false := by
  have h1 := cell_new w A s ty _ rfl j
  rw [h] at h1
  have o : Only (fun _ => False) (w.alloc (.cells (bigC A s) ty)) (boxes2 w A B s t ty) := (Only.refl _ _).alloc _
  exact ⟨o.cell' h1 (fun f => f), (o.frozen (p := ⟨w.heap.size, j, none⟩) (by rw [size_alloc]; exact Nat.lt_succ_self _) (fun f => f)).trans (frozen_new w _ ty _ j rfl)⟩
theorem boxes2_two (w : World) (A B : Nat → Nat) (s t : Bool) (ty : TypeId) (j : Nat) (v : Value) (h : (bigC B t)[j]? = some v) : (boxes2 w A B s t ty).cell? ⟨w.heap.size + 1, j, none⟩ = some v ∧ (boxes2 w A B s t ty).frozen? ⟨w.heap.size + 1, j, none⟩ = false := by
  have h1 := cell_new (w.alloc (.cells (bigC A s) ty)) B t ty (w.heap.size + 1) (by rw [size_alloc]) j
  rw [h] at h1
  exact ⟨h1, frozen_new _ _ ty _ j (by rw [size_alloc])⟩
theorem boxes2_size (w : World) (A B : Nat → Nat) (s t : Bool) (ty : TypeId) : (boxes2 w A B s t ty).heap.size = w.heap.size + 2 := by
  unfold boxes2; rw [size_alloc, size_alloc]
theorem boxes2_only (w : World) (A B : Nat → Nat) (s t : Bool) (ty : TypeId) : Only (fun _ => False) w (boxes2 w A B s t ty) := ((Only.refl _ _).alloc _).alloc _

end Go.Proofs.Ythflglejhhebeaa.bigw
