/- GrantOrder returns true for every two plans, credit and two wants, and leaves what came in as it was; nothing is asked of the inputs. -/
import Derived.Test.YtghajamcjcflaaaMem
import Derived.Deep.Slices
import Derived.Test.YtghajamcjcflaaaGrN
import Derived.Test.YtghajamcjcflaaaRows
import Derived.WalkKit
import Derived.ProofKit
import Derived.OpenShut
import Derived.ShutString
import Derived.ChangeOld
import Derived.Below
import Derived.Test.YtghajamcjcflaaaRatP
namespace Go.Proofs.Ytghajamcjcflaaa.rhyo
open Go.RowKit
open Go.ChangeShapes Go.WideShapes Go.ChangeAt
set_option linter.unusedVariables false

def InJ (n : Int) : Prop := -9223372036854775808 ≤ n ∧ n ≤ 9223372036854775807
theorem j_of_wf {n : Int} (h : (Lit.int .i64 n).wf = true) : InJ n := by
  have : -9223372036854775808 ≤ n ∧ n ≤ 9223372036854775807 := by simpa [Lit.wf, IntKind.min, IntKind.max, IntKind.signed, IntKind.bits] using h
  exact this

section
variable {H : Type} {enc : TypeId × Value → H} {w : World} {base : Nat}
set_option maxRecDepth 100000 in
theorem arr4_open {fuel : Nat} {cs : Array Value} (hsz : cs.size = 4) {x : DataW H × List MemPlace} (h : DataW.trod enc Try.prog w base (fun _ => true) true fuel 61 (Value.agg cs).cells.toList = some x) :
    ∃ a b c d, cs = #[.int .i64 a, .int .i64 b, .int .i64 c, .int .i64 d] ∧ (InJ a ∧ InJ b ∧ InJ c ∧ InJ d) := by
  obtain ⟨ys, m, _, _, hcl, hyl, hf⟩ := DataW.trod_array Try.underlying61 h
  obtain ⟨l⟩ := cs
  match l, ys, hsz, hyl, hf with
  | [c0, c1, c2, c3], [y0, y1, y2, y3], _, _, hf =>
    have f0 := hf 0 (by omega)
    have f1 := hf 1 (by omega)
    have f2 := hf 2 (by omega)
    have f3 := hf 3 (by omega)
    have o3 : Try.prog.cellsOf 3 = 1 := by kernel_rfl
    simp [o3, Value.cells] at f0 f1 f2 f3
    obtain ⟨k0, hk0, _, w0⟩ := DataW.trod_int Try.underlying3 f0
    obtain ⟨k1, hk1, _, w1⟩ := DataW.trod_int Try.underlying3 f1
    obtain ⟨k2, hk2, _, w2⟩ := DataW.trod_int Try.underlying3 f2
    obtain ⟨k3, hk3, _, w3⟩ := DataW.trod_int Try.underlying3 f3
    simp at hk0 hk1 hk2 hk3
    subst hk0 hk1 hk2 hk3
    exact ⟨k0, k1, k2, k3, rfl, j_of_wf w0, j_of_wf w1, j_of_wf w2, j_of_wf w3⟩
set_option maxRecDepth 100000 in
theorem arr2_open {fuel : Nat} {cs : Array Value} (hsz : cs.size = 2) {x : DataW H × List MemPlace} (h : DataW.trod enc Try.prog w base (fun _ => true) true fuel 56 (Value.agg cs).cells.toList = some x) :
    ∃ a b, cs = #[.int .i64 a, .int .i64 b] ∧ (InJ a ∧ InJ b) := by
  obtain ⟨ys, m, _, _, hcl, hyl, hf⟩ := DataW.trod_array Try.underlying56 h
  obtain ⟨l⟩ := cs
  match l, ys, hsz, hyl, hf with
  | [c0, c1], [y0, y1], _, _, hf =>
    have f0 := hf 0 (by omega)
    have f1 := hf 1 (by omega)
    have o3 : Try.prog.cellsOf 3 = 1 := by kernel_rfl
    simp [o3, Value.cells] at f0 f1
    obtain ⟨k0, hk0, _, w0⟩ := DataW.trod_int Try.underlying3 f0
    obtain ⟨k1, hk1, _, w1⟩ := DataW.trod_int Try.underlying3 f1
    simp at hk0 hk1
    subst hk0 hk1
    exact ⟨k0, k1, rfl, j_of_wf w0, j_of_wf w1⟩
end
end Go.Proofs.Ytghajamcjcflaaa.rhyo
namespace Go.Proofs.Ytghajamcjcflaaa.tirw
open Go.RowKit mem tirm intm bigm bigw
set_option linter.unusedVariables false
theorem gorder_walk (D F T G1 M1 B1 : Int) (a1 : Option Addr) (n1 c1 : Nat) (t1 : List Tr) (G2 M2 B2 : Int) (a2 : Option Addr) (n2 c2 : Nat) (t2 : List Tr) (E H I K1 N1 C1 : Int) (b1 : Option Addr) (m1 d1 : Nat) (v1 : List Tr) (K2 N2 C2 : Int) (b2 : Option Addr) (m2 d2 : Nat) (v2 : List Tr) (cr j0 j1 : Int) (w : World) (h : TiersR w a1 n1 c1 t1 ∧ TiersR w a2 n2 c2 t2 ∧ TiersR w b1 m1 d1 v1 ∧ TiersR w b2 m2 d2 v2) (hcr : InI cr) (hj : (-9223372036854775808 ≤ j0 ∧ j0 ≤ 9223372036854775807) ∧ (-9223372036854775808 ≤ j1 ∧ j1 ≤ 9223372036854775807)) :
    Calls Try.prog 5 #[.agg #[.int .i64 D, .int .i64 F, .int .i64 T, .int .i64 G1, .int .i64 M1, .int .i64 B1, .slice a1 n1 c1, .int .i64 G2, .int .i64 M2, .int .i64 B2, .slice a2 n2 c2, .int .i64 E, .int .i64 H, .int .i64 I, .int .i64 K1, .int .i64 N1, .int .i64 C1, .slice b1 m1 d1, .int .i64 K2, .int .i64 N2, .int .i64 C2, .slice b2 m2 d2], .int .i64 cr, .agg #[.int .i64 j0, .int .i64 j1]] w fun e w' => e = .returned (.bool true) ∧ Below w.heap.size w w' :=
  (gorder_any D F T G1 M1 B1 G2 M2 B2 E H I K1 N1 C1 K2 N2 C2 a1 a2 b1 b2 n1 n2 c1 c2 m1 m2 d1 d2 t1 t2 v1 v2 cr j0 j1 w h.1 h.2.1 h.2.2.1 h.2.2.2 hcr (by unfold InI; omega) (by unfold InI; omega)).mono fun _ _ ⟨h1, h2⟩ => ⟨h1, h2.none⟩
end Go.Proofs.Ytghajamcjcflaaa.tirw

namespace Go.Proofs.Ytghajamcjcflaaa.tirw
open Go.RowKit mem tirm intm bigm bigw
open Go.ChangeShapes Go.WideShapes Go.ChangeAt
section
variable {H : Type} {enc : TypeId × Value → H} {w : World} {base : Nat}
set_option maxRecDepth 100000 in
theorem plan2_open {fuel : Nat} {cs : Array Value} (hsz : cs.size = 22) {x : DataW H × List MemPlace} (h : DataW.trod enc Try.prog w base (fun _ => true) true fuel 55 (Value.agg cs).cells.toList = some x) :
    ∃ D F T G1 M1 B1 a1 n1 c1 t1 G2 M2 B2 a2 n2 c2 t2 E H I K1 N1 C1 b1 m1 d1 v1 K2 N2 C2 b2 m2 d2 v2, cs = #[.int .i64 D, .int .i64 F, .int .i64 T, .int .i64 G1, .int .i64 M1, .int .i64 B1, .slice a1 n1 c1, .int .i64 G2, .int .i64 M2, .int .i64 B2, .slice a2 n2 c2, .int .i64 E, .int .i64 H, .int .i64 I, .int .i64 K1, .int .i64 N1, .int .i64 C1, .slice b1 m1 d1, .int .i64 K2, .int .i64 N2, .int .i64 C2, .slice b2 m2 d2] ∧ (TiersR w a1 n1 c1 t1 ∧ TiersR w a2 n2 c2 t2 ∧ TiersR w b1 m1 d1 v1 ∧ TiersR w b2 m2 d2 v2) := by
  obtain ⟨ys, m, _, _, hcl, hyl, hf⟩ := DataW.trod_array Try.underlying55 h
  obtain ⟨l⟩ := cs
  match l, ys, hsz, hyl, hf with
  | [k0, k1, k2, k3, k4, k5, k6, k7, k8, k9, k10, l0, l1, l2, l3, l4, l5, l6, l7, l8, l9, l10], [y0, y1], _, _, hf =>
    have f0 := hf 0 (by omega)
    have f1 := hf 1 (by omega)
    have o3 : Try.prog.cellsOf 37 = 11 := by kernel_rfl
    simp [o3, Value.cells] at f0 f1
    obtain ⟨D, F, T, G1, M1, B1, a1, n1, c1, t1, G2, M2, B2, a2, n2, c2, t2, e1, h1, h2⟩ := plan_open (cs := #[k0, k1, k2, k3, k4, k5, k6, k7, k8, k9, k10]) rfl (by simpa [Value.cells] using f0)
    obtain ⟨E, H, I, K1, N1, C1, b1, m1, d1, v1, K2, N2, C2, b2, m2, d2, v2, e2, h3, h4⟩ := plan_open (cs := #[l0, l1, l2, l3, l4, l5, l6, l7, l8, l9, l10]) rfl (by simpa [Value.cells] using f1)
    simp at e1 e2
    obtain ⟨rfl, rfl, rfl, rfl, rfl, rfl, rfl, rfl, rfl, rfl, rfl⟩ := e1
    obtain ⟨rfl, rfl, rfl, rfl, rfl, rfl, rfl, rfl, rfl, rfl, rfl⟩ := e2
    exact ⟨D, F, T, G1, M1, B1, a1, n1, c1, t1, G2, M2, B2, a2, n2, c2, t2, E, H, I, K1, N1, C1, b1, m1, d1, v1, K2, N2, C2, b2, m2, d2, v2, rfl, h1, h2, h3, h4⟩
end
end Go.Proofs.Ytghajamcjcflaaa.tirw
namespace Go.Proofs.Ytghajamcjcflaaa.grantOrder
open Go.ChangeShapes Go.WideShapes Go.ChangeAt Go.RowKit
set_option linter.unusedVariables false

theorem own : ownKnob Try.prog.godebug = none := by kernel_rfl
theorem laidOut : laidOutB Try.prog = true := by kernel_rfl

set_option maxRecDepth 100000 in
theorem lifted (os : Os) (started : os.Started) (H : Type) (enc : TypeId × Value → H) :
    ReturnsInHanded {} Try.checked os 5 .any (Rows.grantOrderSpec.pre6 enc Try.prog Try.f5 Rows.grantOrderRow.domain false) (Rows.grantOrderSpec.post enc Try.prog Try.f5 false true false false) := by
  refine returnsInHanded_of_change (C := Try.checked) own started (by kernel_rfl) Try.func5
    (ChangeSpec.witness6 (enc := enc) (C := Try.checked) false ⟨#[], #[.agg #[.int .i64 0, .int .i64 0, .int .i64 0, .int .i64 0, .int .i64 0, .int .i64 0, .slice none 0 0, .int .i64 0, .int .i64 0, .int .i64 0, .slice none 0 0, .int .i64 0, .int .i64 0, .int .i64 0, .int .i64 0, .int .i64 0, .int .i64 0, .slice none 0 0, .int .i64 0, .int .i64 0, .int .i64 0, .slice none 0 0], .int .i64 0, .agg #[.int .i64 0, .int .i64 0]], []⟩ 8 (by kernel_rfl) (by kernel_rfl) (by kernel_rfl) (by kernel_rfl)) ?_
  intro W base args ds gs before hval0 hW hcnd _
  have hval : ∀ (j : Nat) t v, Try.f5.params[j]? = some t → args[j]? = some v → Value.okWide Try.prog W .any base t v := hval0
  have hW' := hW
  obtain ⟨p, q, hA0, hV, rfl, hfz, hnd⟩ := hW
  have hA : DataW.TrodAll enc Try.prog W 0 (fun _ => true) true Try.f5.params.toList args.toList ds p := hA0
  rw [Try.params5] at hA hval
  obtain ⟨v0, vs0, d0, ds0, p0, q0, hargs, rfl, rfl, h0, r0⟩ := trodAll_cons hA
  obtain ⟨v1, vs1, d1, ds1, p1, q1, rfl, rfl, rfl, h1, r1⟩ := trodAll_cons r0
  obtain ⟨v2, vs2, d2, ds2, p2, q2, rfl, rfl, rfl, h2, r2⟩ := trodAll_cons r1
  obtain ⟨rfl, rfl, rfl⟩ := trodAll_nil r2
  obtain rfl : args = #[v0, v1, v2] := by cases args; simp_all
  obtain ⟨rfl, rfl⟩ := trodVars_none hV
  obtain ⟨cs0, rfl, sz0⟩ : ∃ cs, v0 = .agg cs ∧ cs.size = Try.prog.cellsOf 55 := by obtain ⟨cs, h1, h2, _⟩ : ∃ cs, v0 = .agg cs ∧ cs.size = Try.prog.cellsOf 55 ∧ Row.okWide Try.prog W .any base 55 cs := (by have := hval 0 55 v0 rfl rfl; simpa [Value.okWide, Try.underlying55] using this); exact ⟨cs, h1, h2⟩
  have k0 := h0
  have lt0 : ∀ x ∈ p0, x.block < W.heap.size := by obtain ⟨m, hm⟩ := k0; exact DataW.trod_lt m _ _ _ hm
  obtain ⟨D0, F0, T0, G0, M0, B0, ao0, len0, cap0, l0, GG0, MM0, BB0, bo0, lenb0, capb0, lb0, E0, H0, I0, K0, N0, C0, eo0, lene0, cape0, le0, KK0, NN0, CC0, fo0, lenf0, capf0, lf0, rfl, w0⟩ := Exists.elim h0 (fun _ hf => tirw.plan2_open sz0 hf)
  obtain ⟨a1, rfl, rfl, rfl, w1⟩ := open_int Try.underlying3 (hval 1 3 v1 rfl rfl) h1
  obtain ⟨cs2, rfl, sz2⟩ : ∃ cs, v2 = .agg cs ∧ cs.size = Try.prog.cellsOf 56 := by obtain ⟨cs, h1, h2, _⟩ : ∃ cs, v2 = .agg cs ∧ cs.size = Try.prog.cellsOf 56 ∧ Row.okWide Try.prog W .any base 56 cs := (by have := hval 2 56 v2 rfl rfl; simpa [Value.okWide, Try.underlying56] using this); exact ⟨cs, h1, h2⟩
  have k2 := h2
  have lt2 : ∀ x ∈ p2, x.block < W.heap.size := by obtain ⟨m, hm⟩ := k2; exact DataW.trod_lt m _ _ _ hm
  obtain ⟨x2, y2, rfl, w2⟩ := Exists.elim h2 (fun _ hf => rhyo.arr2_open sz2 hf)
  clear hA0 hval0
  refine Calls.mono (tirw.gorder_walk D0 F0 T0 G0 M0 B0 ao0 len0 cap0 l0 GG0 MM0 BB0 bo0 lenb0 capb0 lb0 E0 H0 I0 K0 N0 C0 eo0 lene0 cape0 le0 KK0 NN0 CC0 fo0 lenf0 capf0 lf0 a1 x2 y2 W w0 (tirw.int_of_wf w1) w2) fun e W' ⟨he, bel⟩ => ?_
  subst he
  exact ⟨_, rfl, _, _, _, [], _, [], hW', trodAll_mk1 (shut_bool Try.underlying4 _), (trodAll_cons_mk (Below.trod laidOut (by kernel_rfl) (of_decide_eq_true (by kernel_rfl)) k0 bel lt0) (trodAll_cons_mk (shut_int Try.underlying3 w1) (trodAll_cons_mk (Below.trod laidOut (by kernel_rfl) (of_decide_eq_true (by kernel_rfl)) k2 bel lt2) trodAll_mk0))), rfl, bel.frame _, fun h => by cases h⟩

theorem over : Rows.grantOrderRow.holds Try.pinned (OpenSpec.ofChange Rows.grantOrderSpec) :=
  OpenClaim.holds_of_wide 5 Try.f5 rfl rfl rfl rfl rfl rfl rfl ⟨rfl, rfl, rfl, rfl, rfl⟩ rfl rfl rfl rfl rfl (by kernel_rfl) Try.func5 (by kernel_rfl)
    (of_decide_eq_true (by kernel_rfl)) (by unfold Func.isWrapper; first | (rw [if_pos (by decide +kernel)]; kernel_rfl) | (rw [if_neg (by decide +kernel)]; exact ⟨rfl, rfl⟩))
    (fun os started H enc _ => lifted os started H enc)

/-- THE STATEMENT -/
theorem proved : Rows.GrantOrderSaid := over
end Go.Proofs.Ytghajamcjcflaaa.grantOrder
