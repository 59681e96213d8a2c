/- The document's numbers in parts: what Of, zero and less answer. -/
import Derived.Test.YtfdaokjigjpomaaMem
import Derived.Test.YtfdaokjigjpomaaBigM
import Derived.RegionTactic
import Derived.ChangeAlike
import Derived.Outline
namespace Go.Proofs.Ytfdaokjigjpomaa.bigw
open Go.RowKit mem bigm
set_option linter.unusedVariables false

/-- a number in parts, as a value -/
def big (A : Nat → Nat) (s : Bool) : Value := .agg #[.int .u64 (A 0 : Int), .int .u64 (A 1 : Int), .int .u64 (A 2 : Int), .int .u64 (A 3 : Int), .int .u64 (A 4 : Int), .int .u64 (A 5 : Int), .int .u64 (A 6 : Int), .int .u64 (A 7 : Int), .int .u64 (A 8 : Int), .int .u64 (A 9 : Int), .bool s]
def bigC (A : Nat → Nat) (s : Bool) : Array Value := #[.int .u64 (A 0 : Int), .int .u64 (A 1 : Int), .int .u64 (A 2 : Int), .int .u64 (A 3 : Int), .int .u64 (A 4 : Int), .int .u64 (A 5 : Int), .int .u64 (A 6 : Int), .int .u64 (A 7 : Int), .int .u64 (A 8 : Int), .int .u64 (A 9 : Int), .bool s]

theorem bigC_get (A : Nat → Nat) (s : Bool) (i : Nat) (h : i < 10) : (bigC A s)[i]? = some (.int .u64 (A i : Int)) := by
  match i, h with
  | 0, _ => rfl
  | 1, _ => rfl
  | 2, _ => rfl
  | 3, _ => rfl
  | 4, _ => rfl
  | 5, _ => rfl
  | 6, _ => rfl
  | 7, _ => rfl
  | 8, _ => rfl
  | 9, _ => rfl

theorem limbs64 (k : Nat) (h : k < 18446744073709551616) (s : Bool) : big (limb k) s = .agg #[.int .u64 ((k % 4294967296 : Nat) : Int), .int .u64 ((k / 4294967296 : Nat) : Int), .int .u64 0, .int .u64 0, .int .u64 0, .int .u64 0, .int .u64 0, .int .u64 0, .int .u64 0, .int .u64 0, .bool s] := by
  have h0 : limb k 0 = k % 4294967296 := by unfold limb; simp
  have h1 : limb k 1 = k / 4294967296 := by unfold limb; simp; omega
  have hz : ∀ i, 2 ≤ i → limb k i = 0 := by
    intro i hi
    unfold limb
    have : 4294967296 ^ 2 ≤ 4294967296 ^ i := Nat.pow_le_pow_right (by omega) hi
    rw [Nat.div_eq_of_lt (by omega)]
  unfold big
  rw [h0, h1, hz 2 (by omega), hz 3 (by omega), hz 4 (by omega), hz 5 (by omega), hz 6 (by omega), hz 7 (by omega), hz 8 (by omega), hz 9 (by omega)]
  rfl

theorem and_low (z : Int) (h0 : 0 ≤ z) (h1 : z < 18446744073709551616) : bits .and .u64 z 4294967295 = z % 4294967296 := by go_bits2

/-- the cells of a boxed number -/
theorem box_cells (w : World) (A : Nat → Nat) (s : Bool) (t : TypeId) (g : Nat) (hg : g = w.heap.size) : ∀ i, i < 10 → (w.alloc (.cells (bigC A s) t)).cell? ⟨g, i, none⟩ = some (.int .u64 (A i : Int)) := by
  intro i hi
  subst hg
  rw [Go.Joins.cell_of_block (cs := bigC A s) (t := t) (fr := (0, 0)) (by rw [heap_alloc, if_pos rfl]), bigC_get A s i hi]

end Go.Proofs.Ytfdaokjigjpomaa.bigw
