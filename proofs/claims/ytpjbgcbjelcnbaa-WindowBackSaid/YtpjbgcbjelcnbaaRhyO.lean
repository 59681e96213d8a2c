/- Arrays of ints that come in, opened. -/
import Derived.Test.YtpjbgcbjelcnbaaMem
import Derived.Deep.Slices
import Derived.OpenShut
import Derived.ChangeOld
namespace Go.Proofs.Ytpjbgcbjelcnbaa.rhyo
open Go.RowKit
open Go.ChangeShapes Go.WideShapes Go.ChangeAt
set_option linter.unusedVariables false

def InJ (n : Int) : Prop := -9223372036854775808 ≤ n ∧ n ≤ 9223372036854775807
theorem j_of_wf {n : Int} (h : (Lit.int .i64 n).wf = true) : InJ n := by
  have : -9223372036854775808 ≤ n ∧ n ≤ 9223372036854775807 := by simpa [Lit.wf, IntKind.min, IntKind.max, IntKind.signed, IntKind.bits] using h
  exact this

section
variable {H : Type} {enc : TypeId × Value → H} {w : World} {base : Nat}
set_option maxRecDepth 100000 in
theorem arr2_open {fuel : Nat} {cs : Array Value} (hsz : cs.size = 2) {x : DataW H × List MemPlace} (h : DataW.trod enc Try.prog w base (fun _ => true) true fuel 78 (Value.agg cs).cells.toList = some x) :
    ∃ a b, cs = #[.int .i64 a, .int .i64 b] ∧ (InJ a ∧ InJ b) := by
  obtain ⟨ys, m, _, _, hcl, hyl, hf⟩ := DataW.trod_array Try.underlying78 h
  obtain ⟨l⟩ := cs
  match l, ys, hsz, hyl, hf with
  | [c0, c1], [y0, y1], _, _, hf =>
    have f0 := hf 0 (by omega)
    have f1 := hf 1 (by omega)
    have o3 : Try.prog.cellsOf 3 = 1 := by kernel_rfl
    simp [o3, Value.cells] at f0 f1
    obtain ⟨k0, hk0, _, w0⟩ := DataW.trod_int Try.underlying3 f0
    obtain ⟨k1, hk1, _, w1⟩ := DataW.trod_int Try.underlying3 f1
    simp at hk0 hk1
    subst hk0 hk1
    exact ⟨k0, k1, rfl, j_of_wf w0, j_of_wf w1⟩
end
end Go.Proofs.Ytpjbgcbjelcnbaa.rhyo
