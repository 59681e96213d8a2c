/- The document's numbers in parts: what add answers. -/
import Derived.Test.YtfdaokjigjpomaaBigW
namespace Go.Proofs.Ytfdaokjigjpomaa.bigw
open Go.RowKit mem bigm
set_option linter.unusedVariables false

theorem off_ne {b i j : Nat} (h : i ≠ j) : (⟨b, i, none⟩ : Addr) ≠ ⟨b, j, none⟩ := fun e => h (by injection e)

/-- the first i parts of one number, the others of another -/
def mix (N n i j : Nat) : Nat := if j < i then limb N j else limb n j

theorem frozen_new (w : World) (C : Array Value) (t : TypeId) (g j : Nat) (hg : g = w.heap.size) : (w.alloc (.cells C t)).frozen? ⟨g, j, none⟩ = false := by subst hg; simp

theorem cell_new (w : World) (A : Nat → Nat) (s : Bool) (t : TypeId) (g : Nat) (hg : g = w.heap.size) (j : Nat) : (w.alloc (.cells (bigC A s) t)).cell? ⟨g, j, none⟩ = (bigC A s)[j]? := by
  subst hg
  rw [Go.Joins.cell_of_block (cs := bigC A s) (t := t) (fr := (0, 0)) (by rw [heap_alloc, if_pos rfl])]

/-- three numbers boxed, one behind the other -/
def boxes (w : World) (A B C : Nat → Nat) (s t u : Bool) (ty : TypeId) : World := ((w.alloc (.cells (bigC A s) ty)).alloc (.cells (bigC B t) ty)).alloc (.cells (bigC C u) ty)

theorem boxes_one (w : World) (A B C : Nat → Nat) (s t u : Bool) (ty : TypeId) (j : Nat) (v : Value) (h : (bigC A s)[j]? = some v) : (boxes w A B C s t u ty).cell? ⟨w.heap.size, j, none⟩ = some v ∧ (boxes w A B C s t u ty).frozen? ⟨w.heap.size, j, none⟩ = false := by
  have h1 := cell_new w A s ty _ rfl j
  rw [h] at h1
  have o : Only (fun _ => False) (w.alloc (.cells (bigC A s) ty)) (boxes w A B C s t u ty) := ((Only.refl _ _).alloc _).alloc _
  exact ⟨o.cell' h1 (fun f => f), (o.frozen (p := ⟨w.heap.size, j, none⟩) (by rw [size_alloc]; exact Nat.lt_succ_self _) (fun f => f)).trans (frozen_new w _ ty _ j rfl)⟩
theorem boxes_two (w : World) (A B C : Nat → Nat) (s t u : Bool) (ty : TypeId) (j : Nat) (v : Value) (h : (bigC B t)[j]? = some v) : (boxes w A B C s t u ty).cell? ⟨w.heap.size + 1, j, none⟩ = some v := by
  have h1 := cell_new (w.alloc (.cells (bigC A s) ty)) B t ty (w.heap.size + 1) (by rw [size_alloc]) j
  rw [h] at h1
  exact ((Only.refl (fun _ => False) _).alloc _).cell' h1 (fun f => f)
theorem boxes_three (w : World) (A B C : Nat → Nat) (s t u : Bool) (ty : TypeId) (j : Nat) (v : Value) (h : (bigC C u)[j]? = some v) : (boxes w A B C s t u ty).cell? ⟨w.heap.size + 1 + 1, j, none⟩ = some v ∧ (boxes w A B C s t u ty).frozen? ⟨w.heap.size + 1 + 1, j, none⟩ = false := by
  have h1 := cell_new ((w.alloc (.cells (bigC A s) ty)).alloc (.cells (bigC B t) ty)) C u ty (w.heap.size + 1 + 1) (by rw [size_alloc, size_alloc]) j
  rw [h] at h1
  exact ⟨h1, frozen_new _ _ ty _ j (by rw [size_alloc, size_alloc])⟩
theorem boxes_size (w : World) (A B C : Nat → Nat) (s t u : Bool) (ty : TypeId) : (boxes w A B C s t u ty).heap.size = w.heap.size + 3 := by
  unfold boxes; rw [size_alloc, size_alloc, size_alloc]
theorem boxes_only (w : World) (A B C : Nat → Nat) (s t u : Bool) (ty : TypeId) : Only (fun _ => False) w (boxes w A B C s t u ty) := (((Only.refl _ _).alloc _).alloc _).alloc _

end Go.Proofs.Ytfdaokjigjpomaa.bigw
