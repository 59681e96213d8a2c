/- Rates: the opener of an Ask. -/
import Derived.Test.YtonacdjaimokeaaTirO
namespace Go.Proofs.Ytonacdjaimokeaa.tirw
open Go.RowKit mem tirm intm
open Go.ChangeShapes Go.WideShapes Go.ChangeAt
set_option linter.unusedVariables false
section
variable {H : Type} {enc : TypeId × Value → H} {w : World} {base : Nat}
set_option maxRecDepth 100000 in
theorem ask_open {fuel : Nat} {cs : Array Value} (hsz : cs.size = 4) {x : DataW H × List MemPlace} (h : DataW.trod enc Try.prog w base (fun _ => true) true fuel 28 (Value.agg cs).cells.toList = some x) : ∃ p q r s, cs = #[.int .i64 p, .int .i64 q, .int .i64 r, .int .i64 s] ∧ InI p ∧ InI q ∧ InI r ∧ InI s := by
  obtain ⟨ys, n', _, _, hlen, hyl, hf⟩ := DataW.trod_struct Try.underlying28 h
  obtain ⟨l⟩ := cs
  match l, ys, hsz, hyl, hf with
  | [c0, c1, c2, c3], [y0, y1, y2, y3], _, _, hf =>
    have f0 := hf 0 _ rfl
    have f1 := hf 1 _ rfl
    have f2 := hf 2 _ rfl
    have f3 := hf 3 _ rfl
    have o3 : Try.prog.cellsOf 3 = 1 := by kernel_rfl
    simp [o3, Value.cells] at f0 f1 f2 f3
    obtain ⟨k0, hk0, _, w0⟩ := DataW.trod_int Try.underlying3 f0
    obtain ⟨k1, hk1, _, w1⟩ := DataW.trod_int Try.underlying3 f1
    obtain ⟨k2, hk2, _, w2⟩ := DataW.trod_int Try.underlying3 f2
    obtain ⟨k3, hk3, _, w3⟩ := DataW.trod_int Try.underlying3 f3
    simp at hk0 hk1 hk2 hk3
    subst hk0 hk1 hk2 hk3
    exact ⟨k0, k1, k2, k3, rfl, int_of_wf w0, int_of_wf w1, int_of_wf w2, int_of_wf w3⟩
end
end Go.Proofs.Ytonacdjaimokeaa.tirw
