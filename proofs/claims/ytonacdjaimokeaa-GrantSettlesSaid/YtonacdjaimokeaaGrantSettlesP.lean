/- GrantSettles returns true for every grant, plan and three numbers, and leaves what came in as it was; nothing is asked of the inputs. -/
import Derived.Test.YtonacdjaimokeaaTirO
import Derived.Deep.Slices
import Derived.Test.YtonacdjaimokeaaRows
import Derived.WalkKit
import Derived.ProofKit
import Derived.OpenShut
import Derived.ShutString
import Derived.ChangeOld
import Derived.Below
import Derived.Test.YtonacdjaimokeaaRatP
import Derived.Test.YtonacdjaimokeaaGrH
namespace Go.Proofs.Ytonacdjaimokeaa.tirw
open Go.RowKit mem tirm intm
open Go.ChangeShapes Go.WideShapes Go.ChangeAt
set_option linter.unusedVariables false
section
variable {H : Type} {enc : TypeId × Value → H} {w : World} {base : Nat}
set_option maxRecDepth 100000 in
theorem rgrant_open {fuel : Nat} {cs : Array Value} (hsz : cs.size = 4) {x : DataW H × List MemPlace} (h : DataW.trod enc Try.prog w base (fun _ => true) true fuel 75 (Value.agg cs).cells.toList = some x) : ∃ p q r f, cs = #[.int .i64 p, .int .i64 q, .int .i64 r, .bool f] ∧ InI p ∧ InI q ∧ InI r := by
  obtain ⟨ys, n', _, _, hlen, hyl, hf⟩ := DataW.trod_struct Try.underlying75 h
  obtain ⟨l⟩ := cs
  match l, ys, hsz, hyl, hf with
  | [c0, c1, c2, c3], [y0, y1, y2, y3], _, _, hf =>
    have f0 := hf 0 _ rfl
    have f1 := hf 1 _ rfl
    have f2 := hf 2 _ rfl
    have f3 := hf 3 _ rfl
    have o3 : Try.prog.cellsOf 3 = 1 := by kernel_rfl
    have o4 : Try.prog.cellsOf 4 = 1 := by kernel_rfl
    simp [o3, Value.cells] at f0 f1 f2
    simp [o4, Value.cells] at f3
    obtain ⟨k0, hk0, _, w0⟩ := DataW.trod_int Try.underlying3 f0
    obtain ⟨k1, hk1, _, w1⟩ := DataW.trod_int Try.underlying3 f1
    obtain ⟨k2, hk2, _, w2⟩ := DataW.trod_int Try.underlying3 f2
    obtain ⟨k3, hk3, _⟩ := DataW.trod_bool Try.underlying4 f3
    simp at hk0 hk1 hk2 hk3
    subst hk0 hk1 hk2 hk3
    exact ⟨k0, k1, k2, k3, rfl, int_of_wf w0, int_of_wf w1, int_of_wf w2⟩
set_option maxRecDepth 100000 in
theorem arr3_open {fuel : Nat} {cs : Array Value} (hsz : cs.size = 3) {x : DataW H × List MemPlace} (h : DataW.trod enc Try.prog w base (fun _ => true) true fuel 90 (Value.agg cs).cells.toList = some x) :
    ∃ a b c, cs = #[.int .i64 a, .int .i64 b, .int .i64 c] ∧ (InI a ∧ InI b ∧ InI c) := by
  obtain ⟨ys, m, _, _, hcl, hyl, hf⟩ := DataW.trod_array Try.underlying90 h
  obtain ⟨l⟩ := cs
  match l, ys, hsz, hyl, hf with
  | [c0, c1, c2], [y0, y1, y2], _, _, hf =>
    have f0 := hf 0 (by omega)
    have f1 := hf 1 (by omega)
    have f2 := hf 2 (by omega)
    have o3 : Try.prog.cellsOf 3 = 1 := by kernel_rfl
    simp [o3, Value.cells] at f0 f1 f2
    obtain ⟨k0, hk0, _, w0⟩ := DataW.trod_int Try.underlying3 f0
    obtain ⟨k1, hk1, _, w1⟩ := DataW.trod_int Try.underlying3 f1
    obtain ⟨k2, hk2, _, w2⟩ := DataW.trod_int Try.underlying3 f2
    simp at hk0 hk1 hk2
    subst hk0 hk1 hk2
    exact ⟨k0, k1, k2, rfl, int_of_wf w0, int_of_wf w1, int_of_wf w2⟩
end
end Go.Proofs.Ytonacdjaimokeaa.tirw
namespace Go.Proofs.Ytonacdjaimokeaa.grantSettles
open Go.ChangeShapes Go.WideShapes Go.ChangeAt Go.RowKit
set_option linter.unusedVariables false

theorem own : ownKnob Try.prog.godebug = none := by kernel_rfl
theorem laidOut : laidOutB Try.prog = true := by kernel_rfl

set_option maxRecDepth 100000 in
theorem lifted (os : Os) (started : os.Started) (H : Type) (enc : TypeId × Value → H) :
    ReturnsInHanded {} Try.checked os 12 .any (Rows.grantSettlesSpec.pre6 enc Try.prog Try.f12 Rows.grantSettlesRow.domain false) (Rows.grantSettlesSpec.post enc Try.prog Try.f12 false true false false) := by
  refine returnsInHanded_of_change (C := Try.checked) own started (by kernel_rfl) Try.func12
    (ChangeSpec.witness6 (enc := enc) (C := Try.checked) false ⟨#[], #[.agg #[.int .i64 0, .int .i64 0, .int .i64 0, .bool false], .agg #[.int .i64 0, .int .i64 0, .int .i64 0, .int .i64 0, .int .i64 0, .int .i64 0, .slice none 0 0, .int .i64 0, .int .i64 0, .int .i64 0, .slice none 0 0], .agg #[.int .i64 0, .int .i64 0, .int .i64 0]], []⟩ 8 (by kernel_rfl) (by kernel_rfl) (by kernel_rfl) (by kernel_rfl)) ?_
  intro W base args ds gs before hval0 hW hcnd _
  have hval : ∀ (j : Nat) t v, Try.f12.params[j]? = some t → args[j]? = some v → Value.okWide Try.prog W .any base t v := hval0
  have hW' := hW
  obtain ⟨p, q, hA0, hV, rfl, hfz, hnd⟩ := hW
  have hA : DataW.TrodAll enc Try.prog W 0 (fun _ => true) true Try.f12.params.toList args.toList ds p := hA0
  rw [Try.params12] at hA hval
  obtain ⟨v0, vs0, d0, ds0, p0, q0, hargs, rfl, rfl, h0, r0⟩ := trodAll_cons hA
  obtain ⟨v1, vs1, d1, ds1, p1, q1, rfl, rfl, rfl, h1, r1⟩ := trodAll_cons r0
  obtain ⟨v2, vs2, d2, ds2, p2, q2, rfl, rfl, rfl, h2, r2⟩ := trodAll_cons r1
  obtain ⟨rfl, rfl, rfl⟩ := trodAll_nil r2
  obtain rfl : args = #[v0, v1, v2] := by cases args; simp_all
  obtain ⟨rfl, rfl⟩ := trodVars_none hV
  obtain ⟨cs0, rfl, sz0⟩ := okWide_struct Try.underlying75 (hval 0 75 v0 rfl rfl)
  have k0 := h0
  have lt0 : ∀ x ∈ p0, x.block < W.heap.size := by obtain ⟨m, hm⟩ := k0; exact DataW.trod_lt m _ _ _ hm
  obtain ⟨gg0, gu0, ga0, gf0, rfl, w0⟩ := Exists.elim h0 (fun _ hf => tirw.rgrant_open sz0 hf)
  obtain ⟨cs1, rfl, sz1⟩ := okWide_struct Try.underlying26 (hval 1 26 v1 rfl rfl)
  have k1 := h1
  have lt1 : ∀ x ∈ p1, x.block < W.heap.size := by obtain ⟨m, hm⟩ := k1; exact DataW.trod_lt m _ _ _ hm
  obtain ⟨D1, F1, T1, G1, M1, B1, ao1, len1, cap1, l1, GG1, MM1, BB1, bo1, lenb1, capb1, lb1, rfl, w1⟩ := Exists.elim h1 (fun _ hf => tirw.plan_open sz1 hf)
  obtain ⟨cs2, rfl, sz2⟩ : ∃ cs, v2 = .agg cs ∧ cs.size = Try.prog.cellsOf 90 := by obtain ⟨cs, h1, h2, _⟩ : ∃ cs, v2 = .agg cs ∧ cs.size = Try.prog.cellsOf 90 ∧ Row.okWide Try.prog W .any base 90 cs := (by have := hval 2 90 v2 rfl rfl; simpa [Value.okWide, Try.underlying90] using this); exact ⟨cs, h1, h2⟩
  have k2 := h2
  have lt2 : ∀ x ∈ p2, x.block < W.heap.size := by obtain ⟨m, hm⟩ := k2; exact DataW.trod_lt m _ _ _ hm
  obtain ⟨x2, y2, z2, rfl, w2⟩ := Exists.elim h2 (fun _ hf => tirw.arr3_open sz2 hf)
  clear hA0 hval0
  refine Calls.mono (tirw.gsettles_walk gg0 gu0 ga0 gf0 D1 F1 T1 G1 M1 B1 GG1 MM1 BB1 ao1 bo1 len1 lenb1 cap1 capb1 l1 lb1 x2 y2 z2 W w1.1 w1.2 w2.1 w0.2.2) fun e W' ⟨he, bel⟩ => ?_
  subst he
  exact ⟨_, rfl, _, _, _, [], _, [], hW', trodAll_mk1 (shut_bool Try.underlying4 _), (trodAll_cons_mk (Below.trod laidOut (by kernel_rfl) (of_decide_eq_true (by kernel_rfl)) k0 bel lt0) (trodAll_cons_mk (Below.trod laidOut (by kernel_rfl) (of_decide_eq_true (by kernel_rfl)) k1 bel lt1) (trodAll_cons_mk (Below.trod laidOut (by kernel_rfl) (of_decide_eq_true (by kernel_rfl)) k2 bel lt2) trodAll_mk0))), rfl, bel.frame _, fun h => by cases h⟩

theorem over : Rows.grantSettlesRow.holds Try.pinned (OpenSpec.ofChange Rows.grantSettlesSpec) :=
  OpenClaim.holds_of_wide 12 Try.f12 rfl rfl rfl rfl rfl rfl rfl ⟨rfl, rfl, rfl, rfl, rfl⟩ rfl rfl rfl rfl rfl (by kernel_rfl) Try.func12 (by kernel_rfl)
    (of_decide_eq_true (by kernel_rfl)) (by unfold Func.isWrapper; first | (rw [if_pos (by decide +kernel)]; kernel_rfl) | (rw [if_neg (by decide +kernel)]; exact ⟨rfl, rfl⟩))
    (fun os started H enc _ => lifted os started H enc)

/-- THE STATEMENT -/
theorem proved : Rows.GrantSettlesSaid := over
end Go.Proofs.Ytonacdjaimokeaa.grantSettles
