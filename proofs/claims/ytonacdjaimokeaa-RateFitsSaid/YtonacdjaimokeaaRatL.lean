/- Rates: the opener of a plan. -/
import Derived.Test.YtonacdjaimokeaaRatK
import Derived.Test.YtonacdjaimokeaaTirO
namespace Go.Proofs.Ytonacdjaimokeaa.tirw
open Go.RowKit mem tirm intm bigm bigw
open Go.ChangeShapes Go.WideShapes Go.ChangeAt
set_option linter.unusedVariables false

section
variable {H : Type} {enc : TypeId × Value → H} {w : World} {base : Nat}
set_option maxRecDepth 100000 in
theorem plan_open {fuel : Nat} {cs : Array Value} (hsz : cs.size = 11) {x : DataW H × List MemPlace} (h : DataW.trod enc Try.prog w base (fun _ => true) true fuel 26 (Value.agg cs).cells.toList = some x) : ∃ D F T G1 M1 B1 a1 n1 c1 t1 G2 M2 B2 a2 n2 c2 t2, cs = #[.int .i64 D, .int .i64 F, .int .i64 T, .int .i64 G1, .int .i64 M1, .int .i64 B1, .slice a1 n1 c1, .int .i64 G2, .int .i64 M2, .int .i64 B2, .slice a2 n2 c2] ∧ TiersR w a1 n1 c1 t1 ∧ TiersR w a2 n2 c2 t2 := by
  obtain ⟨ys, n', _, _, hlen, hyl, hf⟩ := DataW.trod_struct Try.underlying26 h
  obtain ⟨l⟩ := cs
  match l, ys, hsz, hyl, hf with
  | [c0, c1, c2, c3, c4, c5, c6, c7, c8, c9, c10], [y0, y1, y2, y3, y4], _, _, hf =>
    have f0 := hf 0 _ rfl
    have f1 := hf 1 _ rfl
    have f2 := hf 2 _ rfl
    have f3 := hf 3 _ rfl
    have f4 := hf 4 _ rfl
    have o3 : Try.prog.cellsOf 3 = 1 := by kernel_rfl
    have o4 : Try.prog.cellsOf 24 = 4 := by kernel_rfl
    simp [o3, Value.cells] at f0 f1 f2
    simp [o4, Value.cells] at f3 f4
    obtain ⟨k0, hk0, _, w0⟩ := DataW.trod_int Try.underlying3 f0
    obtain ⟨k1, hk1, _, w1⟩ := DataW.trod_int Try.underlying3 f1
    obtain ⟨k2, hk2, _, w2⟩ := DataW.trod_int Try.underlying3 f2
    simp at hk0 hk1 hk2
    subst hk0 hk1 hk2
    obtain ⟨G1, M1, B1, a1, n1, q1, t1, e1, h1⟩ := tariff_open (cs := #[c3, c4, c5, c6]) rfl (by simpa [Value.cells] using f3)
    obtain ⟨G2, M2, B2, a2, n2, q2, t2, e2, h2⟩ := tariff_open (cs := #[c7, c8, c9, c10]) rfl (by simpa [Value.cells] using f4)
    simp at e1 e2
    obtain ⟨rfl, rfl, rfl, rfl⟩ := e1
    obtain ⟨rfl, rfl, rfl, rfl⟩ := e2
    exact ⟨k0, k1, k2, G1, M1, B1, a1, n1, q1, t1, G2, M2, B2, a2, n2, q2, t2, rfl, h1, h2⟩
end
end Go.Proofs.Ytonacdjaimokeaa.tirw
