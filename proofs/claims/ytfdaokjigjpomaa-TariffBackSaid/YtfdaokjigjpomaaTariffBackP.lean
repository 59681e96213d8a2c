/- TariffBack returns true for every plan, and leaves what came in as it was; nothing is asked of the input. -/
import Derived.Test.YtfdaokjigjpomaaTirL
import Derived.Test.YtfdaokjigjpomaaSumAT
import Derived.Deep.RegionWith
import Derived.Deep.Slices
import Derived.Test.YtfdaokjigjpomaaCodP
import Derived.Test.YtfdaokjigjpomaaTirM
import Derived.Test.YtfdaokjigjpomaaWrG
import Derived.Test.YtfdaokjigjpomaaTirB
import Derived.Test.YtfdaokjigjpomaaTirG
import Derived.Test.YtfdaokjigjpomaaStepApp
import Derived.Test.YtfdaokjigjpomaaHeldL
import Derived.Deep.CutRange
import Derived.Test.YtfdaokjigjpomaaRdS
import Derived.Test.YtfdaokjigjpomaaRatB
import Derived.Test.YtfdaokjigjpomaaRatG
import Derived.Test.YtfdaokjigjpomaaTirR
import Derived.Test.YtfdaokjigjpomaaStrM
import Derived.Test.YtfdaokjigjpomaaRows
import Derived.WalkKit
import Derived.ProofKit
import Derived.OpenShut
import Derived.ShutString
import Derived.ChangeOld
import Derived.Below
namespace Go.Proofs.Ytfdaokjigjpomaa.tirw
open Go.RowKit mem tirm intm
set_option linter.unusedVariables false

theorem run_append_none_any {P : Program} {w : World} (base : Nat) (t ty e : TypeId) (i : TypeInfo) (size : Nat) (ht : P.underlying t = some (.slice e)) (hi : P.info? e = some i)
    (v : Value) (n : Nat) (xs : List Value) (c : Nat) (hown : w.ownsRow base e size v n xs) :
    (Builtin.append_ #[t, t] ty #[v, .slice none 0 c]).run P w = .ok v w := by
  rcases hown.2 with ⟨rfl, rfl⟩ | ⟨g, cap, cur, rfl, _, _, hnc, _⟩
  · simp [Builtin.append_, run_underlying ht, sizeOf, typeInfo, hi, Builtin.lenOf, Builtin.firstCells]
  · simp [Builtin.append_, run_underlying ht, sizeOf, typeInfo, hi, Builtin.lenOf, Builtin.firstCells, hnc, storeCells]
theorem append_none_any {P : Program} {w : World} {ops : Array Oper} {rest : List Oper} {o : Oper} {a : Act} {Q : Exit → Act → World → Prop} (hgd : o.guard = none) (s x : Operand) (t : TypeId)
    (ho : o.op = .call { callee := .builtin .append, args := #[s, x], argTypes := #[t, t] })
    (base : Nat) (e : TypeId) (i : TypeInfo) (size : Nat) (ht : P.underlying t = some (.slice e)) (hi : P.info? e = some i)
    (v : Value) (n : Nat) (xs : List Value) (c : Nat) (hs : a.eval s = v) (hown : w.ownsRow base e size v n xs) (hx : a.eval x = .slice none 0 c)
    (h : wpList P ops Q rest (a.put o.dst v) w) : wpList P ops Q (o :: rest) a w := by
  refine wpList_plain hgd fun K hK => ?_
  have hrun := run_append_none_any (P := P) (w := w) base t o.type e i size ht hi v n xs c hown
  unfold Oper.wp
  simp [execOp, ho, resolve, invoke, builtin, hs, hx, hrun, Result.andThen]
  exact hK _ _ h

theorem newsN {w : World} {x : Addr} {n : Nat} {ls : List Ln} (h : ReadsN w (some x) n ls) : ∀ j u, (lvn ls)[j]? = some u → w.cell? (x.add j) = some u := by
  intro j u hu
  have hj : j < ls.length * 3 := by
    rcases Nat.lt_or_ge j (ls.length * 3) with h' | h'
    · exact h'
    · rw [List.getElem?_eq_none (by rw [lvn_length]; exact h')] at hu; cases hu
  rcases h.2 with h0 | ⟨b, off, ha, hc⟩
  · have := h.1; omega
  · obtain rfl : x = ⟨b, off, none⟩ := by injection ha
    rw [add_none]
    have hi : j / 3 < n := by have := h.1; omega
    obtain ⟨c0, c1, c2⟩ := hc (j / 3) hi
    have hm : j % 3 = 0 ∨ j % 3 = 1 ∨ j % 3 = 2 := by omega
    have hg := lvn_get ls (j / 3) (j % 3) (by have := h.1; omega) (by omega)
    rw [show j / 3 * 3 + j % 3 = j by omega, hu] at hg
    rcases hm with e | e | e
    · rw [e] at hg
      rw [show off + j = off + j / 3 * 3 by omega, c0, hg]; rfl
    · rw [e] at hg
      rw [show off + j = off + j / 3 * 3 + 1 by omega, c1, hg]; rfl
    · rw [e] at hg
      rw [show off + j = off + j / 3 * 3 + 2 by omega, c2, hg]; rfl

end Go.Proofs.Ytfdaokjigjpomaa.tirw
namespace Go.Proofs.Ytfdaokjigjpomaa.bigw
open Go.RowKit mem bigm intm
set_option linter.unusedVariables false

/-- cells stored one behind the other -/
def puts (g : Nat) : Nat → List Value → World → World
  | _, [], w => w
  | o, v :: vs, w => puts g (o + 1) vs (w.setCell ⟨g, o, none⟩ v)

theorem puts_frozen (g : Nat) : ∀ (vs : List Value) (o : Nat) (w : World) (p : Addr), (puts g o vs w).frozen? p = w.frozen? p := by
  intro vs
  induction vs with
  | nil => intro o w p; rfl
  | cons v vs ih => intro o w p; exact (ih (o + 1) _ p).trans frozen_set

theorem puts_only {S : Nat → Prop} (g : Nat) : ∀ (vs : List Value) (o : Nat) (a w : World), Only S a w → (S g ∨ a.heap.size ≤ g) → Only S a (puts g o vs w) := by
  intro vs
  induction vs with
  | nil => intro o a w h _; exact h
  | cons v vs ih => intro o a w h hg; exact ih (o + 1) a _ (h.setCell (p := ⟨g, o, none⟩) hg v) hg

theorem puts_cell (g : Nat) : ∀ (vs : List Value) (o : Nat) (w : World), (∀ j, j < o + vs.length → ∃ u, w.cell? ⟨g, j, none⟩ = some u) →
    ∀ j v, (j < o ∧ w.cell? ⟨g, j, none⟩ = some v ∨ o ≤ j ∧ vs[j - o]? = some v) → (puts g o vs w).cell? ⟨g, j, none⟩ = some v := by
  intro vs
  induction vs with
  | nil =>
    intro o w h j v hj
    rcases hj with ⟨_, h1⟩ | ⟨_, h1⟩
    · exact h1
    · simp at h1
  | cons x vs ih =>
    intro o w h j v hj
    have hx : ∀ i, i < (o + 1) + vs.length → ∃ u, (w.setCell ⟨g, o, none⟩ x).cell? ⟨g, i, none⟩ = some u := by
      intro i hi
      obtain ⟨u, hu⟩ := h i (by simp; omega)
      by_cases e : i = o
      · subst e; exact ⟨x, cell_same hu⟩
      · exact ⟨u, by rw [cell_other (off_ne (by omega))]; exact hu⟩
    refine ih (o + 1) _ hx j v ?_
    obtain ⟨u, hu⟩ := h o (by simp)
    rcases hj with ⟨h1, h2⟩ | ⟨h1, h2⟩
    · exact .inl ⟨by omega, by rw [cell_other (off_ne (by omega))]; exact h2⟩
    · by_cases e : j = o
      · subst e
        refine .inl ⟨by omega, ?_⟩
        rw [cell_same hu]
        simpa using h2
      · refine .inr ⟨by omega, ?_⟩
        rw [show j - o = (j - (o + 1)) + 1 by omega] at h2
        simpa using h2

/-- the eleven cells of a number -/
def lits (z : Int) : List Value := [.int .u64 (limb z.natAbs 0 : Int), .int .u64 (limb z.natAbs 1 : Int), .int .u64 (limb z.natAbs 2 : Int), .int .u64 (limb z.natAbs 3 : Int), .int .u64 (limb z.natAbs 4 : Int), .int .u64 (limb z.natAbs 5 : Int), .int .u64 (limb z.natAbs 6 : Int), .int .u64 (limb z.natAbs 7 : Int), .int .u64 (limb z.natAbs 8 : Int), .int .u64 (limb z.natAbs 9 : Int), .bool (decide (z < 0))]

theorem sb_lit (z : Int) : sb z = .agg (lits z).toArray := by rfl
theorem sb_lit2 (z : Int) : sb z = .agg #[.int .u64 (limb z.natAbs 0 : Int), .int .u64 (limb z.natAbs 1 : Int), .int .u64 (limb z.natAbs 2 : Int), .int .u64 (limb z.natAbs 3 : Int), .int .u64 (limb z.natAbs 4 : Int), .int .u64 (limb z.natAbs 5 : Int), .int .u64 (limb z.natAbs 6 : Int), .int .u64 (limb z.natAbs 7 : Int), .int .u64 (limb z.natAbs 8 : Int), .int .u64 (limb z.natAbs 9 : Int), .bool (decide (z < 0))] := by rfl

/-- a number's box at the head of a loop -/
def HeadS (w wr : World) (z : Int) : Prop :=
  (∀ j v, (lits z)[j]? = some v → wr.cell? ⟨w.heap.size, j, none⟩ = some v ∧ wr.frozen? ⟨w.heap.size, j, none⟩ = false) ∧ Only (fun _ => False) w wr ∧ w.heap.size < wr.heap.size

theorem heads_put {w wr w2 : World} {z y : Int} (h : HeadS w wr z) (ho : Only (fun _ => False) wr w2) : HeadS w (puts w.heap.size 0 (lits y) w2) y := by
  have hw2 : ∀ j v, (lits z)[j]? = some v → w2.cell? ⟨w.heap.size, j, none⟩ = some v ∧ w2.frozen? ⟨w.heap.size, j, none⟩ = false := fun j v hj =>
    ⟨ho.cell' (h.1 j v hj).1 (fun f => f), (ho.frozen (p := ⟨w.heap.size, j, none⟩) h.2.2 (fun f => f)).trans (h.1 j v hj).2⟩
  have hex : ∀ j, j < 11 → ∃ u, (lits z)[j]? = some u := fun j hj => ⟨(lits z)[j]'hj, List.getElem?_eq_getElem _⟩
  have ho2 := puts_only (S := fun _ => False) w.heap.size (lits y) 0 w w2 (h.2.1.trans ho) (.inr (Nat.le_refl _))
  refine ⟨?_, ho2, ?_⟩
  · intro j v hj
    refine ⟨puts_cell w.heap.size (lits y) 0 w2 ?_ j v (.inr ⟨Nat.zero_le _, by rw [Nat.sub_zero]; exact hj⟩), ?_⟩
    · intro i hi
      obtain ⟨u, hu⟩ := hex i (by rw [Nat.zero_add] at hi; exact hi)
      exact ⟨u, (hw2 i u hu).1⟩
    · rw [puts_frozen]
      have hlt : j < 11 := by
        rcases Nat.lt_or_ge j 11 with g | g
        · exact g
        · rw [List.getElem?_eq_none (show (lits y).length ≤ j from g)] at hj; cases hj
      obtain ⟨u, hu⟩ := hex j hlt
      exact (hw2 j u hu).2
  · have := (puts_only (S := fun _ => True) w.heap.size (lits y) 0 w2 w2 (Only.refl _ _) (.inl trivial)).size
    have h3 := ho.size
    have h4 := h.2.2
    omega

theorem sb_zero : sb 0 = .agg #[.int .u64 0, .int .u64 0, .int .u64 0, .int .u64 0, .int .u64 0, .int .u64 0, .int .u64 0, .int .u64 0, .int .u64 0, .int .u64 0, .bool false] := by rfl

end Go.Proofs.Ytfdaokjigjpomaa.bigw
namespace Go.Proofs.Ytfdaokjigjpomaa.tirw
open Go.RowKit mem tirm intm
open Go.ChangeShapes Go.WideShapes Go.ChangeAt
set_option linter.unusedVariables false

theorem int_of_wf {n : Int} (h : (Lit.int .i64 n).wf = true) : InI n := by
  have : -9223372036854775808 ≤ n ∧ n ≤ 9223372036854775807 := by simpa [Lit.wf, IntKind.min, IntKind.max, IntKind.signed, IntKind.bits] using h
  exact this
/-- the int of a value -/
def intV : Option Value → Int
  | some (.int _ n) => n
  | _ => 0

section
variable {H : Type} {enc : TypeId × Value → H} {w : World} {base : Nat}

set_option maxRecDepth 100000 in
theorem tiers_open {fuel : Nat} {ao : Option Addr} {len cap : Nat} {x : DataW H × List MemPlace} (h : DataW.trod enc Try.prog w base (fun _ => true) true fuel 22 [.slice ao len cap] = some x) : ∃ ts, TiersR w ao len cap ts := by
  rcases Go.Deep.open_slice Try.underlying22 h with ⟨hcs, _⟩ | ⟨a, len2, cap2, m, n, D, Pl, hcs, hb, hl, hm, hmm, hx, hi⟩
  · simp at hcs
    obtain ⟨rfl, rfl, rfl⟩ := hcs
    exact ⟨[], ReadsT.nil _ _, by omega, by omega, fun _ => rfl⟩
  · simp at hcs
    obtain ⟨rfl, rfl, rfl⟩ := hcs
    unfold maxLen at hm
    simp at hmm
    have hC : Try.prog.cellsOf 74 = 2 := by kernel_rfl
    rw [hC] at hi
    have key : ∀ i, i < len → ∃ l : Tr, (InI l.u ∧ InI l.p) ∧ w.cell? ((a.add (i * 2)).add 0) = some (.int .i64 l.u) ∧ w.cell? ((a.add (i * 2)).add 1) = some (.int .i64 l.p) := by
      intro i hil
      obtain ⟨cs', hc, ht'⟩ := hi i (by omega)
      obtain ⟨ys, n', _, _, hlen, hyl, hf⟩ := DataW.trod_struct Try.underlying74 ht'
      obtain ⟨_, hcl, hat⟩ := World.cells?_some hc
      match cs', ys, hcl, hyl, hat, hf with
      | [c0, c1], [y0, y1], _, _, hat, hf =>
        have f0 := hf 0 _ rfl
        have f1 := hf 1 _ rfl
        have o3 : Try.prog.cellsOf 3 = 1 := by kernel_rfl
        simp [o3] at f0 f1
        obtain ⟨k0, hk0, _, w0⟩ := DataW.trod_int Try.underlying3 f0
        obtain ⟨k1, hk1, _, w1⟩ := DataW.trod_int Try.underlying3 f1
        simp at hk0 hk1
        subst hk0 hk1
        exact ⟨⟨k0, k1⟩, ⟨int_of_wf w0, int_of_wf w1⟩, by simpa using hat 0 (by omega), by simpa using hat 1 (by omega)⟩
    by_cases h0 : len = 0
    · subst h0
      exact ⟨[], ReadsT.nil _ _, hl, hm, fun e => by cases e⟩
    · obtain ⟨b, off, spot⟩ := a
      obtain ⟨l0, _, d0, _⟩ := key 0 (by omega)
      have hspot : spot = none := by simpa [Addr.add] using World.cell?_spot d0
      subst hspot
      refine ⟨(List.range len).map (fun i => ⟨intV (w.cell? ⟨b, off + i * 2, none⟩), intV (w.cell? ⟨b, off + i * 2 + 1, none⟩)⟩), ⟨by simp, by omega, ?_, .inr ⟨b, off, rfl, fun i hil => ?_⟩⟩, hl, hm, fun e => by cases e⟩
      · intro l hl'
        obtain ⟨i, hi', rfl⟩ := List.mem_map.1 hl'
        obtain ⟨l1, hin, d0, d1⟩ := key i (List.mem_range.1 hi')
        rw [add_none, add_none] at d0 d1
        rw [Nat.add_zero] at d0
        rw [d0, d1]
        exact hin
      · obtain ⟨l1, hin, d0, d1⟩ := key i hil
        rw [add_none, add_none] at d0 d1
        rw [Nat.add_zero] at d0
        have e : ((List.range len).map (fun i => (⟨intV (w.cell? ⟨b, off + i * 2, none⟩), intV (w.cell? ⟨b, off + i * 2 + 1, none⟩)⟩ : Tr))).getD i default = l1 := by
          rw [List.getD_eq_getElem?_getD, List.getElem?_map, List.getElem?_range hil]
          show (⟨_, _⟩ : Tr) = l1
          rw [d0, d1]; rfl
        rw [e]
        exact ⟨d0, d1⟩

set_option maxRecDepth 100000 in
theorem tariff_open {fuel : Nat} {cs : Array Value} (hsz : cs.size = 4) {x : DataW H × List MemPlace} (h : DataW.trod enc Try.prog w base (fun _ => true) true fuel 24 (Value.agg cs).cells.toList = some x) : ∃ G M B ao len cap ts, cs = #[.int .i64 G, .int .i64 M, .int .i64 B, .slice ao len cap] ∧ TiersR w ao len cap ts := by
  obtain ⟨ys, n', _, _, hlen, hyl, hf⟩ := DataW.trod_struct Try.underlying24 h
  obtain ⟨l⟩ := cs
  match l, ys, hsz, hyl, hf with
  | [c0, c1, c2, c3], [y0, y1, y2, y3], _, _, hf =>
    have f0 := hf 0 _ rfl
    have f1 := hf 1 _ rfl
    have f2 := hf 2 _ rfl
    have f3 := hf 3 _ rfl
    have o3 : Try.prog.cellsOf 3 = 1 := by kernel_rfl
    have o4 : Try.prog.cellsOf 22 = 1 := by kernel_rfl
    simp [o3, Value.cells] at f0 f1 f2
    simp [o4, Value.cells] at f3
    obtain ⟨k0, hk0, _, w0⟩ := DataW.trod_int Try.underlying3 f0
    obtain ⟨k1, hk1, _, w1⟩ := DataW.trod_int Try.underlying3 f1
    obtain ⟨k2, hk2, _, w2⟩ := DataW.trod_int Try.underlying3 f2
    simp at hk0 hk1 hk2
    subst hk0 hk1 hk2
    rcases Go.Deep.open_slice Try.underlying22 f3 with ⟨hcs, _⟩ | ⟨a, len2, cap2, m, n, D, Pl, hcs, _⟩
    · simp at hcs
      subst hcs
      obtain ⟨ts, hl⟩ := tiers_open f3
      exact ⟨k0, k1, k2, none, 0, 0, ts, rfl, hl⟩
    · simp at hcs
      subst hcs
      obtain ⟨ts, hl⟩ := tiers_open f3
      exact ⟨k0, k1, k2, some a, len2, cap2, ts, rfl, hl⟩
end
end Go.Proofs.Ytfdaokjigjpomaa.tirw
namespace Go.Proofs.Ytfdaokjigjpomaa.tirw
open Go.RowKit mem tirm intm bigm bigw
set_option linter.unusedVariables false

/-- what usage comes to -/
def RateAt (L : List Ln) (k c p er : Int) (w : World) (e : Ending) (w' : World) : Prop :=
  ∃ a cap, e = .returned (.tuple #[.agg #[.slice a L.length cap, .int .i64 k, .int .i64 c, .int .i64 p], .int .i64 er]) ∧ ReadsN w' a L.length L ∧ Only (fun _ => False) w w'

/-- a box of a Rated's noughts is none of a line's -/
theorem rated_apart {W w4 w5 : World} {q : Nat} {al : Option Addr} {L : List Ln} (hb : ∀ j, W.cell? ⟨q, j, none⟩ = (#[.slice none 0 0, .int .i64 0, .int .i64 0, .int .i64 0] : Array Value)[j]?) (hq : q < W.heap.size) (ho : Only (fun _ => False) W w4) (hr : ReadsN w4 al L.length L) (hpos : ∀ x ∈ L, 0 < x.b) (h5 : Only (fun k => k = q) w4 w5) : ReadsN w5 al L.length L := by
  by_cases h0 : L.length = 0
  · exact ⟨rfl, .inl h0⟩
  · obtain ⟨b, off, rfl, hc⟩ := hr.2.resolve_left h0
    refine hr.only h5 (fun x hx e => ?_)
    injection hx with hx
    subst hx
    have e' : b = q := e
    subst e'
    have c1 := (hc 0 (by omega)).2.1
    rw [ho.cell (p := ⟨b, off + 0 * 3 + 1, none⟩) hq (fun f => f), hb] at c1
    have hp := hpos _ (getN_mem L 0 (by omega))
    generalize (L.getD 0 default).b = x at *
    have hj : off + 0 * 3 + 1 = off + 1 := by omega
    rw [hj] at c1
    match off, c1 with
    | 0, c1 => simp at c1; omega
    | 1, c1 => simp at c1; omega
    | 2, c1 => simp at c1; omega
    | n + 3, c1 => simp at c1

end Go.Proofs.Ytfdaokjigjpomaa.tirw

namespace Go.Proofs.Ytfdaokjigjpomaa.tirw
open Go.RowKit mem tirm intm bigm bigw
set_option linter.unusedVariables false

/-- what fits -/
def FitNo (D F T G1 M1 B1 G2 M2 B2 : Int) (t1 t2 : List Tr) (cr u : Int) : Prop := ¬ CanP D F T G1 M1 B1 G2 M2 B2 t1 t2 u ∨ cr < 0
instance (D F T G1 M1 B1 G2 M2 B2 : Int) (t1 t2 : List Tr) (cr u : Int) : Decidable (FitNo D F T G1 M1 B1 G2 M2 B2 t1 t2 cr u) := inferInstanceAs (Decidable (_ ∨ _))
def fitU (D F T G1 M1 B1 G2 M2 B2 : Int) (t1 t2 : List Tr) (cr u : Int) : Int :=
  if FitNo D F T G1 M1 B1 G2 M2 B2 t1 t2 cr u then 0 else if bk u B1 * dearP t1 t2 ≤ cr then u else cr / dearP t1 t2 * B1
def fitC (D F T G1 M1 B1 G2 M2 B2 : Int) (t1 t2 : List Tr) (cr u : Int) : Int :=
  if FitNo D F T G1 M1 B1 G2 M2 B2 t1 t2 cr u then 0 else if bk u B1 * dearP t1 t2 ≤ cr then bk u B1 * dearP t1 t2 else cr / dearP t1 t2 * dearP t1 t2
def fitE (D F T G1 M1 B1 G2 M2 B2 : Int) (t1 t2 : List Tr) (cr u : Int) : Int := if FitNo D F T G1 M1 B1 G2 M2 B2 t1 t2 cr u then 1 else 0
/-- fewer blocks than those wanted -/
theorem fit_less {k d cr : Int} (h : cr < k * d) (h0 : 0 ≤ cr) (hd : 0 ≤ d) : 0 < d ∧ 0 ≤ cr / d ∧ cr / d < k ∧ cr / d * d ≤ cr ∧ cr < (cr / d + 1) * d := by
  have hd1 : 0 < d := by
    rcases Int.lt_or_le 0 d with e | e
    · exact e
    · have : d = 0 := by omega
      rw [this] at h; simp at h; omega
  have h1 := Int.mul_ediv_add_emod cr d
  have h2 := Int.ediv_nonneg h0 hd
  have h3 := Int.emod_nonneg cr (show d ≠ 0 by omega)
  have h4 := Int.emod_lt_of_pos cr hd1
  have h5 : d * (cr / d) = cr / d * d := Int.mul_comm _ _
  have h6 : cr / d < k := by
    rcases Int.lt_or_le (cr / d) k with e | e
    · exact e
    · have := Int.mul_le_mul_of_nonneg_right e hd
      omega
  have h7 : (cr / d + 1) * d = cr / d * d + d := by rw [Int.add_mul, Int.one_mul]
  exact ⟨hd1, h2, h6, by omega, by omega⟩

end Go.Proofs.Ytfdaokjigjpomaa.tirw

namespace Go.Proofs.Ytfdaokjigjpomaa.tirw
open Go.RowKit mem tirm intm bigm bigw
set_option linter.unusedVariables false

def oneT : List Tr := [⟨0, 3⟩]
theorem one_reads (W : World) (g : Nat) (hg : g = W.heap.size) : ReadsT (W.alloc (.cells #[.int .i64 0, .int .i64 3] 74)) (some ⟨g, 0, none⟩) 1 oneT := by
  refine ⟨rfl, by omega, ?_, .inr ⟨g, 0, rfl, fun i hi => ?_⟩⟩
  · intro x hx
    simp [oneT] at hx
    subst hx
    unfold InI
    dsimp only
    omega
  · obtain rfl : i = 0 := by omega
    exact ⟨alloc_new _ _ _ _ _ _ hg rfl, alloc_new _ _ _ _ _ _ hg rfl⟩
end Go.Proofs.Ytfdaokjigjpomaa.tirw

namespace Go.Proofs.Ytfdaokjigjpomaa.tirw
open Go.RowKit mem tirm intm bigm bigw
set_option linter.unusedVariables false

/-- a row of tiers of the call's own grows by what a slice reads -/
def OwnT (w : World) (v : Value) (ts : List Tr) : Prop := w.ownsRow 0 74 2 v ts.length (tv ts)
theorem tv_append (a b : List Tr) : tv (a ++ b) = tv a ++ tv b := by simp [tv]
theorem own_readsT3 {w : World} {v : Value} {ts : List Tr} (h : OwnT w v ts) (hb : ∀ x ∈ ts, InI x.u ∧ InI x.p) (hm : ts.length ≤ 1000000) : ∃ a cap, v = .slice a ts.length cap ∧ ReadsT w a ts.length ts := by
  have h0 := h
  rcases h.2 with ⟨hv, hn⟩ | ⟨g, cap, cur, hv, hg, hh, hc, hmm, _⟩
  · exact ⟨none, 0, by rw [hv, hn], ⟨rfl, by omega, hb, .inl hn⟩⟩
  · refine ⟨some ⟨g, 0, none⟩, cap, hv, ?_⟩
    have h1 : w.ownsRow 0 74 2 (.slice (some ⟨g, 0, none⟩) ts.length cap) ts.length (tv ts) := by rw [← hv]; exact h0
    exact own_readsT h1 (by omega) hb
theorem append_tiers {w : World} {ops : Array Oper} {rest : List Oper} {o : Oper} {ac : Act} {Q : Exit → Act → World → Prop} (hgd : o.guard = none) (s x : Operand)
    (ho : o.op = .call { callee := .builtin .append, args := #[s, x], argTypes := #[22, 22] })
    (v : Value) (xs : List Tr) (hs : ac.eval s = v) (hown : OwnT w v xs) (a : Option Addr) (m c : Nat) (ts : List Tr) (hx : ac.eval x = .slice a m c) (hr : ReadsT w a m ts) (hb : xs.length + m ≤ 1000000)
    (h : ∀ v' w', OwnT w' v' (xs ++ ts) → w.grownBy w' v.ownBlock → (∀ k, v'.ownBlock = some k → v.ownBlock = some k ∨ w.heap.size ≤ k) → wpList Try.prog ops Q rest (ac.put o.dst v') w') : wpList Try.prog ops Q (o :: rest) ac w := by
  obtain ⟨i0, hi, hz0, hz1, hz2⟩ := info_parts info_tier
  rcases a with _ | ad
  · have hm : m = 0 := hr.2.2.2.elim id (fun ⟨b, off, e, _⟩ => by cases e)
    subst hm
    have hl : ts = [] := List.eq_nil_of_length_eq_zero hr.1
    subst hl
    refine append_none_any hgd s x 22 ho 0 74 i0 2 Try.underlying22 hi v xs.length _ c hs hown hx ?_
    exact h v w (by rw [List.append_nil]; exact hown) ⟨rfl, rfl, rfl, Nat.le_refl _, fun _ _ _ => rfl⟩ (fun k hk => .inl hk)
  · refine append_mine hgd s x 22 ho 74 i0 _ 2 16 Try.underlying22 hi hz0 hz1 hz2 rfl (by decide) v xs.length _ hs hown ad m c (tv ts) hx (by rw [tv_length, hr.1]) (newsT hr) (tv_one ts) (by unfold maxLen; omega) (by omega) ?_
    intro v' w' h1 h2 h3
    refine h v' w' ?_ h2 h3
    unfold OwnT
    rw [List.length_append, hr.1, tv_append]
    exact h1
end Go.Proofs.Ytfdaokjigjpomaa.tirw

namespace Go.Proofs.Ytfdaokjigjpomaa.tirw
open Go.RowKit mem tirm intm bigm bigw
open Go.ChangeShapes Go.WideShapes Go.ChangeAt
set_option linter.unusedVariables false

section
variable {H : Type} {enc : TypeId × Value → H} {w : World} {base : Nat}
set_option maxRecDepth 100000 in
theorem plan_open {fuel : Nat} {cs : Array Value} (hsz : cs.size = 11) {x : DataW H × List MemPlace} (h : DataW.trod enc Try.prog w base (fun _ => true) true fuel 26 (Value.agg cs).cells.toList = some x) : ∃ D F T G1 M1 B1 a1 n1 c1 t1 G2 M2 B2 a2 n2 c2 t2, cs = #[.int .i64 D, .int .i64 F, .int .i64 T, .int .i64 G1, .int .i64 M1, .int .i64 B1, .slice a1 n1 c1, .int .i64 G2, .int .i64 M2, .int .i64 B2, .slice a2 n2 c2] ∧ TiersR w a1 n1 c1 t1 ∧ TiersR w a2 n2 c2 t2 := by
  obtain ⟨ys, n', _, _, hlen, hyl, hf⟩ := DataW.trod_struct Try.underlying26 h
  obtain ⟨l⟩ := cs
  match l, ys, hsz, hyl, hf with
  | [c0, c1, c2, c3, c4, c5, c6, c7, c8, c9, c10], [y0, y1, y2, y3, y4], _, _, hf =>
    have f0 := hf 0 _ rfl
    have f1 := hf 1 _ rfl
    have f2 := hf 2 _ rfl
    have f3 := hf 3 _ rfl
    have f4 := hf 4 _ rfl
    have o3 : Try.prog.cellsOf 3 = 1 := by kernel_rfl
    have o4 : Try.prog.cellsOf 24 = 4 := by kernel_rfl
    simp [o3, Value.cells] at f0 f1 f2
    simp [o4, Value.cells] at f3 f4
    obtain ⟨k0, hk0, _, w0⟩ := DataW.trod_int Try.underlying3 f0
    obtain ⟨k1, hk1, _, w1⟩ := DataW.trod_int Try.underlying3 f1
    obtain ⟨k2, hk2, _, w2⟩ := DataW.trod_int Try.underlying3 f2
    simp at hk0 hk1 hk2
    subst hk0 hk1 hk2
    obtain ⟨G1, M1, B1, a1, n1, q1, t1, e1, h1⟩ := tariff_open (cs := #[c3, c4, c5, c6]) rfl (by simpa [Value.cells] using f3)
    obtain ⟨G2, M2, B2, a2, n2, q2, t2, e2, h2⟩ := tariff_open (cs := #[c7, c8, c9, c10]) rfl (by simpa [Value.cells] using f4)
    simp at e1 e2
    obtain ⟨rfl, rfl, rfl, rfl⟩ := e1
    obtain ⟨rfl, rfl, rfl, rfl⟩ := e2
    exact ⟨k0, k1, k2, G1, M1, B1, a1, n1, q1, t1, G2, M2, B2, a2, n2, q2, t2, rfl, h1, h2⟩
end
end Go.Proofs.Ytfdaokjigjpomaa.tirw

namespace Go.Proofs.Ytfdaokjigjpomaa.tirw
open Go.RowKit mem tirm intm bigm bigw
set_option linter.unusedVariables false

/-- a box's cells, and not shared -/
def BoxV (w : World) (g : Nat) (vs : List Value) : Prop := ∀ j v, vs[j]? = some v → w.cell? ⟨g, j, none⟩ = some v ∧ w.frozen? ⟨g, j, none⟩ = false
theorem BoxV.only {S : Nat → Prop} {w w' : World} {g : Nat} {vs : List Value} (h : BoxV w g vs) (ho : Only S w w') (hs : ¬ S g) : BoxV w' g vs := fun j v hj => by
  obtain ⟨h1, h2⟩ := h j v hj
  exact ⟨ho.cell' h1 hs, (ho.frozen (p := ⟨g, j, none⟩) (World.block_lt_of_cell? w _ h1) hs).trans h2⟩
theorem BoxV.new (w : World) (vs : List Value) (t : TypeId) (g : Nat) (hg : g = w.heap.size) : BoxV (w.alloc (.cells vs.toArray t)) g vs := fun j v hj => by
  subst hg
  exact ⟨alloc_new _ _ _ _ _ _ rfl (by rw [List.getElem?_toArray]; exact hj), alloc_froz _ _ _ _ _ rfl⟩
theorem BoxV.put {w : World} {g : Nat} {xs : List Value} (h : BoxV w g xs) (ys : List Value) (hl : ys.length = xs.length) : BoxV (puts g 0 ys w) g ys := by
  have hex : ∀ j, j < ys.length → ∃ u, xs[j]? = some u := fun j hj => ⟨xs[j]'(by omega), List.getElem?_eq_getElem _⟩
  intro j v hj
  refine ⟨puts_cell g ys 0 w ?_ j v (.inr ⟨Nat.zero_le _, by rw [Nat.sub_zero]; exact hj⟩), ?_⟩
  · intro i hi
    obtain ⟨u, hu⟩ := hex i (by rw [Nat.zero_add] at hi; exact hi)
    exact ⟨u, (h i u hu).1⟩
  · rw [puts_frozen]
    have hlt : j < ys.length := by
      rcases Nat.lt_or_ge j ys.length with g | g
      · exact g
      · rw [List.getElem?_eq_none g] at hj; cases hj
    obtain ⟨u, hu⟩ := hex j hlt
    exact (h j u hu).2
theorem BoxV.set {w : World} {g : Nat} {xs : List Value} (h : BoxV w g xs) (k : Nat) (v : Value) (hk : k < xs.length) : BoxV (w.setCell ⟨g, k, none⟩ v) g (xs.set k v) := by
  intro j u hj
  have ho := Only.set (fun q => q = g) w g k v rfl
  by_cases e : j = k
  · subst e
    rw [List.getElem?_set_self hk] at hj
    cases hj
    obtain ⟨h1, h2⟩ := h j _ (List.getElem?_eq_getElem hk)
    exact ⟨cell_same h1, by rw [World.frozen?_setCell]; exact h2⟩
  · rw [List.getElem?_set_ne (by omega)] at hj
    obtain ⟨h1, h2⟩ := h j u hj
    exact ⟨by rw [cell_other (off_ne (by omega))]; exact h1, by rw [World.frozen?_setCell]; exact h2⟩
/-- a plan's cells -/
def plV (D F T G1 M1 B1 G2 M2 B2 : Int) (a1 a2 : Option Addr) (n1 n2 c1 c2 : Nat) : List Value := [.int .i64 D, .int .i64 F, .int .i64 T, .int .i64 G1, .int .i64 M1, .int .i64 B1, .slice a1 n1 c1, .int .i64 G2, .int .i64 M2, .int .i64 B2, .slice a2 n2 c2]
def zerosP : List Value := [.int .i64 0, .int .i64 0, .int .i64 0, .int .i64 0, .int .i64 0, .int .i64 0, .slice none 0 0, .int .i64 0, .int .i64 0, .int .i64 0, .slice none 0 0]
/-- the facts of a plan's box, one by one -/
def Plan22 (w : World) (g : Nat) (D F T G1 M1 B1 G2 M2 B2 : Int) (a1 a2 : Option Addr) (n1 n2 c1 c2 : Nat) : Prop := PlanAt w g D F T G1 M1 B1 G2 M2 B2 a1 a2 n1 n2 c1 c2 ∧ (w.frozen? ⟨g, 0, none⟩ = false ∧ w.frozen? ⟨g, 1, none⟩ = false ∧ w.frozen? ⟨g, 2, none⟩ = false ∧ w.frozen? ⟨g, 3, none⟩ = false ∧ w.frozen? ⟨g, 4, none⟩ = false ∧ w.frozen? ⟨g, 5, none⟩ = false ∧ w.frozen? ⟨g, 6, none⟩ = false ∧ w.frozen? ⟨g, 7, none⟩ = false ∧ w.frozen? ⟨g, 8, none⟩ = false ∧ w.frozen? ⟨g, 9, none⟩ = false ∧ w.frozen? ⟨g, 10, none⟩ = false)
theorem BoxV.all {w : World} {g : Nat} {D F T G1 M1 B1 G2 M2 B2 : Int} {a1 a2 : Option Addr} {n1 n2 c1 c2 : Nat} (h : BoxV w g (plV D F T G1 M1 B1 G2 M2 B2 a1 a2 n1 n2 c1 c2)) : Plan22 w g D F T G1 M1 B1 G2 M2 B2 a1 a2 n1 n2 c1 c2 :=
  ⟨⟨(h 0 _ rfl).1, (h 1 _ rfl).1, (h 2 _ rfl).1, (h 3 _ rfl).1, (h 4 _ rfl).1, (h 5 _ rfl).1, (h 6 _ rfl).1, (h 7 _ rfl).1, (h 8 _ rfl).1, (h 9 _ rfl).1, (h 10 _ rfl).1⟩, (h 0 _ rfl).2, (h 1 _ rfl).2, (h 2 _ rfl).2, (h 3 _ rfl).2, (h 4 _ rfl).2, (h 5 _ rfl).2, (h 6 _ rfl).2, (h 7 _ rfl).2, (h 8 _ rfl).2, (h 9 _ rfl).2, (h 10 _ rfl).2⟩
theorem plan_set6 {w : World} {g : Nat} {D F T G1 M1 B1 G2 M2 B2 : Int} {a1 a2 : Option Addr} {n1 n2 c1 c2 : Nat} (h : BoxV w g (plV D F T G1 M1 B1 G2 M2 B2 a1 a2 n1 n2 c1 c2)) (a : Option Addr) (n c : Nat) : BoxV (w.setCell ⟨g, 6, none⟩ (.slice a n c)) g (plV D F T G1 M1 B1 G2 M2 B2 a a2 n n2 c c2) := h.set 6 _ (show 6 < 11 by decide)
theorem plan_set10 {w : World} {g : Nat} {D F T G1 M1 B1 G2 M2 B2 : Int} {a1 a2 : Option Addr} {n1 n2 c1 c2 : Nat} (h : BoxV w g (plV D F T G1 M1 B1 G2 M2 B2 a1 a2 n1 n2 c1 c2)) (a : Option Addr) (n c : Nat) : BoxV (w.setCell ⟨g, 10, none⟩ (.slice a n c)) g (plV D F T G1 M1 B1 G2 M2 B2 a1 a n1 n c1 c) := h.set 10 _ (show 10 < 11 by decide)
theorem plan_put {wn : World} {g : Nat} {xs : List Value} (h : BoxV wn g xs) (hl : xs.length = 11) (D F T G1 M1 B1 G2 M2 B2 : Int) (a1 a2 : Option Addr) (n1 n2 c1 c2 : Nat) : ∃ W, BoxV W g (plV D F T G1 M1 B1 G2 M2 B2 a1 a2 n1 n2 c1 c2) ∧ Only (fun q => q = g) wn W ∧ W = (((((((((((wn.setCell ⟨g, 0, none⟩ (.int .i64 D)).setCell ⟨g, 1, none⟩ (.int .i64 F)).setCell ⟨g, 2, none⟩ (.int .i64 T)).setCell ⟨g, 3, none⟩ (.int .i64 G1)).setCell ⟨g, 4, none⟩ (.int .i64 M1)).setCell ⟨g, 5, none⟩ (.int .i64 B1)).setCell ⟨g, 6, none⟩ (.slice a1 n1 c1)).setCell ⟨g, 7, none⟩ (.int .i64 G2)).setCell ⟨g, 8, none⟩ (.int .i64 M2)).setCell ⟨g, 9, none⟩ (.int .i64 B2)).setCell ⟨g, 10, none⟩ (.slice a2 n2 c2)) :=
  ⟨_, h.put (plV D F T G1 M1 B1 G2 M2 B2 a1 a2 n1 n2 c1 c2) (by rw [hl]; rfl), puts_only g (plV D F T G1 M1 B1 G2 M2 B2 a1 a2 n1 n2 c1 c2) 0 wn wn (Only.refl (fun q => q = g) _) (.inl rfl), rfl⟩
end Go.Proofs.Ytfdaokjigjpomaa.tirw

namespace Go.Proofs.Ytfdaokjigjpomaa.tirw
open Go.RowKit mem tirm intm bigm bigw
set_option linter.unusedVariables false
end Go.Proofs.Ytfdaokjigjpomaa.tirw

namespace Go.Proofs.Ytfdaokjigjpomaa.tirw
open Go.RowKit mem tirm intm bigm bigw
set_option linter.unusedVariables false
end Go.Proofs.Ytfdaokjigjpomaa.tirw

namespace Go.Proofs.Ytfdaokjigjpomaa.tirw
open Go.RowKit mem tirm intm bigm bigw
set_option linter.unusedVariables false
end Go.Proofs.Ytfdaokjigjpomaa.tirw

namespace Go.Proofs.Ytfdaokjigjpomaa.tfw
open codm codp tirm
set_option linter.unusedVariables false

/-- the bytes of a tier, a tariff, a plan -/
def trB (x : Tr) : List Nat := enc x.u.toNat ++ enc x.p.toNat
structure Tf where
  g : Int
  m : Int
  b : Int
  ts : List Tr
structure Pl where
  d : Int
  f : Int
  t : Int
  a : Tf
  o : Tf
def Tf.zero : Tf := ⟨0, 0, 0, []⟩
def tarB (x : Tf) : List Nat := enc x.g.toNat ++ (enc x.m.toNat ++ (enc x.b.toNat ++ (enc x.ts.length ++ x.ts.flatMap trB)))
def plB (x : Pl) : List Nat := enc x.d.toNat ++ (enc x.f.toNat ++ (enc x.t.toNat ++ (tarB x.a ++ (if x.d = 0 then [] else tarB x.o))))
/-- read, on states -/
def u40 (s : Option (List Nat)) : Nat × Option (List Nat) := uS 1099511627776 s
def rdTr (s : Option (List Nat)) : Tr × Option (List Nat) := (⟨((u40 s).1 : Int), ((u40 (u40 s).2).1 : Int)⟩, (u40 (u40 s).2).2)
def rdTs : Nat → Option (List Nat) → List Tr × Option (List Nat)
  | 0, s => ([], s)
  | k + 1, s => ((rdTs k s).1 ++ [(rdTr (rdTs k s).2).1], (rdTr (rdTs k s).2).2)
def tn (s : Option (List Nat)) : Nat := (uS 6 (u40 (u40 (u40 s).2).2).2).1
def t4 (s : Option (List Nat)) : Option (List Nat) := (uS 6 (u40 (u40 (u40 s).2).2).2).2
def rdT (s : Option (List Nat)) : Tf × Option (List Nat) := (⟨((u40 s).1 : Int), ((u40 (u40 s).2).1 : Int), ((u40 (u40 (u40 s).2).2).1 : Int), (rdTs (tn s) (t4 s)).1⟩, (rdTs (tn s) (t4 s)).2)
/-- a plan's numbers ahead of its tariffs -/
def p3 (b : List Nat) : Option (List Nat) := (u40 (u40 (u40 (some b)).2).2).2
def pD (b : List Nat) : Nat := (u40 (some b)).1
def rdO (d : Nat) (s : Option (List Nat)) : Tf × Option (List Nat) := if d = 0 then (Tf.zero, s) else rdT s
def rdP (b : List Nat) : Pl × Option (List Nat) := (⟨(pD b : Int), ((u40 (u40 (some b)).2).1 : Int), ((u40 (u40 (u40 (some b)).2).2).1 : Int), (rdT (p3 b)).1, (rdO (pD b) (rdT (p3 b)).2).1⟩, (rdO (pD b) (rdT (p3 b)).2).2)
theorem rdTs_len (s : Option (List Nat)) : ∀ k, (rdTs k s).1.length = k := by
  intro k
  induction k with
  | zero => rfl
  | succ k ih => show ((rdTs k s).1 ++ [_]).length = _; rw [List.length_append, ih]; rfl
theorem SOk.u40 {s : Option (List Nat)} (h : SOk s) : SOk (tfw.u40 s).2 := h.uS _
theorem SOk.tr {s : Option (List Nat)} (h : SOk s) : SOk (rdTr s).2 := (SOk.u40 (SOk.u40 h))
theorem SOk.ts {s : Option (List Nat)} (h : SOk s) : ∀ k, SOk (rdTs k s).2 := by
  intro k
  induction k with
  | zero => exact h
  | succ k ih => exact SOk.tr ih
theorem SOk.t4 {s : Option (List Nat)} (h : SOk s) : SOk (tfw.t4 s) := (SOk.u40 (SOk.u40 (SOk.u40 h))).uS _
theorem SOk.tar {s : Option (List Nat)} (h : SOk s) : SOk (rdT s).2 := SOk.ts (SOk.t4 h) _
theorem u40_bd {s : Option (List Nat)} (h : SOk s) : ((tfw.u40 s).1 : Int) ≤ 1099511627776 := uS_bd s h (by omega)
theorem tn_bd {s : Option (List Nat)} (h : SOk s) : tn s ≤ 6 := by
  have := uS_bd (most := 6) _ (SOk.u40 (SOk.u40 (SOk.u40 h))) (by omega)
  unfold tn
  omega
/-- a tier that was read is one of numbers that aren't below nought -/
def TrIn (x : Tr) : Prop := (0 ≤ x.u ∧ x.u ≤ 1099511627776) ∧ 0 ≤ x.p ∧ x.p ≤ 1099511627776
theorem tr_in {s : Option (List Nat)} (h : SOk s) : TrIn (rdTr s).1 := by
  have h1 := u40_bd h
  have h2 := u40_bd (SOk.u40 h)
  exact ⟨⟨Int.natCast_nonneg _, h1⟩, Int.natCast_nonneg _, h2⟩
theorem ts_in {s : Option (List Nat)} (h : SOk s) : ∀ k, ∀ x ∈ (rdTs k s).1, TrIn x := by
  intro k
  induction k with
  | zero => intro x hx; cases hx
  | succ k ih =>
    intro x hx
    have e : (rdTs (k + 1) s).1 = (rdTs k s).1 ++ [(rdTr (rdTs k s).2).1] := rfl
    rw [e] at hx
    rcases List.mem_append.1 hx with hx | hx
    · exact ih x hx
    · rw [List.mem_singleton.1 hx]; exact tr_in (SOk.ts h k)
theorem rdTs_none (k i : Nat) (s : Option (List Nat)) (h : (rdTs i s).2 = none) (hk : i ≤ k) : (rdTs k s).2 = none := by
  obtain ⟨d, rfl⟩ := Nat.le.dest hk
  clear hk
  induction d with
  | zero => exact h
  | succ d ih =>
    show (rdTr (rdTs (i + d) s).2).2 = none
    rw [ih]; rfl
/-- what was read says what the bytes were -/
theorem u40_app {s : Option (List Nat)} {r : List Nat} (h : SOk s) (hr : (tfw.u40 s).2 = some r) : s = some (enc (tfw.u40 s).1 ++ r) := by
  obtain ⟨l, e, hp⟩ := uS_some hr
  rw [show (tfw.u40 s).1 = (uS 1099511627776 s).1 from rfl, ← (pUint_is (h l e).1 hp).1]; exact e
theorem rdTr_app {s : Option (List Nat)} {r : List Nat} (h : SOk s) (hr : (rdTr s).2 = some r) : s = some (trB (rdTr s).1 ++ r) := by
  have h1 := u40_app (SOk.u40 h) hr
  have h0 := u40_app h h1
  have e : trB (rdTr s).1 = enc (tfw.u40 s).1 ++ enc (tfw.u40 (tfw.u40 s).2).1 := by
    unfold trB rdTr
    simp
  rw [e, List.append_assoc]
  exact h0
theorem rdTs_app {s : Option (List Nat)} (h : SOk s) : ∀ (k : Nat) (r : List Nat), (rdTs k s).2 = some r → s = some ((rdTs k s).1.flatMap trB ++ r) := by
  intro k
  induction k with
  | zero => intro r hr; simpa [rdTs] using hr
  | succ k ih =>
    intro r hr
    have h2 := rdTr_app (SOk.ts h k) (show (rdTr (rdTs k s).2).2 = some r from hr)
    have h3 := ih _ h2
    have e : (rdTs (k + 1) s).1 = (rdTs k s).1 ++ [(rdTr (rdTs k s).2).1] := rfl
    rw [e, List.flatMap_append, List.append_assoc]
    simpa using h3
theorem rdT_app {s : Option (List Nat)} {r : List Nat} (h : SOk s) (hr : (rdT s).2 = some r) : s = some (tarB (rdT s).1 ++ r) := by
  have e4 : t4 s = some ((rdT s).1.ts.flatMap trB ++ r) := rdTs_app (SOk.t4 h) (tn s) r hr
  have e3 : (tfw.u40 (tfw.u40 (tfw.u40 s).2).2).2 = some (enc (tn s) ++ ((rdT s).1.ts.flatMap trB ++ r)) := by
    obtain ⟨l, e, hp⟩ := uS_some (show (uS 6 (tfw.u40 (tfw.u40 (tfw.u40 s).2).2).2).2 = some _ from e4)
    unfold tn
    rw [← (pUint_is (SOk.u40 (SOk.u40 (SOk.u40 h)) l e).1 hp).1]; exact e
  have e2 := u40_app (SOk.u40 (SOk.u40 h)) e3
  have e1 := u40_app (SOk.u40 h) e2
  have e0 := u40_app h e1
  have hl : (rdT s).1.ts.length = tn s := rdTs_len _ _
  have e : tarB (rdT s).1 ++ r = enc (tfw.u40 s).1 ++ (enc (tfw.u40 (tfw.u40 s).2).1 ++ (enc (tfw.u40 (tfw.u40 (tfw.u40 s).2).2).1 ++ (enc (tn s) ++ ((rdT s).1.ts.flatMap trB ++ r)))) := by
    unfold tarB
    rw [hl]
    simp only [List.append_assoc]
    unfold rdT
    simp
  rw [e]
  exact e0
theorem pl_of {b : List Nat} (hb : By b) (h : (rdP b).2 = some []) : plB (rdP b).1 = b := by
  have hs0 : SOk (some b) := fun l hl => by injection hl with hl; rw [← hl]; exact hb
  have hs3 : SOk (p3 b) := SOk.u40 (SOk.u40 (SOk.u40 hs0))
  have hst : SOk (rdT (p3 b)).2 := SOk.tar hs3
  have ho : (rdT (p3 b)).2 = some ((if pD b = 0 then [] else tarB (rdP b).1.o) ++ []) := by
    have h2 : (rdO (pD b) (rdT (p3 b)).2).2 = some [] := h
    have h3 : (rdP b).1.o = (rdO (pD b) (rdT (p3 b)).2).1 := rfl
    rw [h3]
    unfold rdO at h2 ⊢
    by_cases hd : pD b = 0
    · rw [if_pos hd] at h2 ⊢; exact h2
    · rw [if_neg hd] at h2 ⊢
      rw [if_neg hd]
      exact rdT_app hst h2
  have e3 := rdT_app hs3 ho
  have e2 := u40_app (SOk.u40 (SOk.u40 hs0)) e3
  have e1 := u40_app (SOk.u40 hs0) e2
  have e0 := u40_app hs0 e1
  injection e0 with e0
  have hd : (rdP b).1.d = (pD b : Int) := rfl
  unfold plB
  rw [hd]
  have e : (if (pD b : Int) = 0 then [] else tarB (rdP b).1.o) = (if pD b = 0 then [] else tarB (rdP b).1.o) := by
    by_cases hz : pD b = 0
    · rw [if_pos hz, if_pos (by omega)]
    · rw [if_neg hz, if_neg (by omega)]
  rw [e]
  rw [List.append_nil] at e0
  have f1 : (pD b : Int).toNat = (tfw.u40 (some b)).1 := by unfold pD; simp
  have f2 : (rdP b).1.f.toNat = (tfw.u40 (tfw.u40 (some b)).2).1 := by unfold rdP; simp
  have f3 : (rdP b).1.t.toNat = (tfw.u40 (tfw.u40 (tfw.u40 (some b)).2).2).1 := by unfold rdP; simp
  rw [f1, f2, f3]
  exact e0.symm
/-- what was written reads back -/
theorem u40_enc {n : Int} (h0 : 0 ≤ n) (h : n ≤ 1099511627776) (r : List Nat) : tfw.u40 (some (enc n.toNat ++ r)) = (n.toNat, some r) := uS_enc (by omega) (by omega) r
theorem rdTr_trB {x : Tr} (h : TrIn x) (r : List Nat) : rdTr (some (trB x ++ r)) = (x, some r) := by
  obtain ⟨⟨h1, h2⟩, h3, h4⟩ := h
  unfold rdTr trB
  rw [List.append_assoc, u40_enc h1 h2]
  dsimp only
  rw [u40_enc h3 h4]
  dsimp only
  rw [Int.toNat_of_nonneg h1, Int.toNat_of_nonneg h3]
theorem rdTs_trs (K : List Tr) (hk : ∀ x ∈ K, TrIn x) (r : List Nat) : ∀ k, k ≤ K.length → rdTs k (some (K.flatMap trB ++ r)) = (K.take k, some ((K.drop k).flatMap trB ++ r)) := by
  intro k
  induction k with
  | zero => intro _; simp [rdTs]
  | succ k ih =>
    intro h
    have ih := ih (by omega)
    have hd : K.drop k = K[k] :: K.drop (k + 1) := List.drop_eq_getElem_cons (by omega)
    have ht : K.take (k + 1) = K.take k ++ [K[k]] := List.take_succ_eq_append_getElem (by omega)
    have he := rdTr_trB (hk K[k] (List.getElem_mem _)) ((K.drop (k + 1)).flatMap trB ++ r)
    show ((rdTs k (some (K.flatMap trB ++ r))).1 ++ [(rdTr (rdTs k (some (K.flatMap trB ++ r))).2).1], (rdTr (rdTs k (some (K.flatMap trB ++ r))).2).2) = _
    rw [ih]
    dsimp only
    rw [hd, List.flatMap_cons, List.append_assoc, he, ht]
/-- a tariff whose numbers can be written -/
def TfIn (x : Tf) : Prop := (0 ≤ x.g ∧ x.g ≤ 1099511627776) ∧ (0 ≤ x.m ∧ x.m ≤ 1099511627776) ∧ (0 ≤ x.b ∧ x.b ≤ 1099511627776) ∧ x.ts.length ≤ 6 ∧ ∀ y ∈ x.ts, TrIn y
theorem rdT_tarB {x : Tf} (h : TfIn x) (r : List Nat) : rdT (some (tarB x ++ r)) = (x, some r) := by
  obtain ⟨⟨h1, h2⟩, ⟨h3, h4⟩, ⟨h5, h6⟩, h7, h8⟩ := h
  have e : tarB x ++ r = enc x.g.toNat ++ (enc x.m.toNat ++ (enc x.b.toNat ++ (enc x.ts.length ++ (x.ts.flatMap trB ++ r)))) := by unfold tarB; simp only [List.append_assoc]
  rw [e]
  have a1 := u40_enc h1 h2 (enc x.m.toNat ++ (enc x.b.toNat ++ (enc x.ts.length ++ (x.ts.flatMap trB ++ r))))
  have a2 := u40_enc h3 h4 (enc x.b.toNat ++ (enc x.ts.length ++ (x.ts.flatMap trB ++ r)))
  have a3 := u40_enc h5 h6 (enc x.ts.length ++ (x.ts.flatMap trB ++ r))
  have a4 : uS 6 (some (enc x.ts.length ++ (x.ts.flatMap trB ++ r))) = (x.ts.length, some (x.ts.flatMap trB ++ r)) := uS_enc (by omega) (by omega) _
  have a5 := rdTs_trs x.ts h8 r x.ts.length (Nat.le_refl _)
  rw [List.take_length, List.drop_length] at a5
  unfold rdT tn t4
  rw [a1]; dsimp only
  rw [a2]; dsimp only
  rw [a3]; dsimp only
  rw [a4]; dsimp only
  rw [a5]
  dsimp only
  rw [Int.toNat_of_nonneg h1, Int.toNat_of_nonneg h3, Int.toNat_of_nonneg h5]
  simp
/-- a plan whose numbers can be written -/
def PlIn (x : Pl) : Prop := (0 ≤ x.d ∧ x.d ≤ 1099511627776) ∧ (0 ≤ x.f ∧ x.f ≤ 1099511627776) ∧ (0 ≤ x.t ∧ x.t ≤ 1099511627776) ∧ TfIn x.a ∧ (if x.d = 0 then x.o = Tf.zero else TfIn x.o)
theorem rdP_plB {x : Pl} (h : PlIn x) : rdP (plB x) = (x, some []) := by
  obtain ⟨⟨h1, h2⟩, ⟨h3, h4⟩, ⟨h5, h6⟩, h7, h8⟩ := h
  have a1 := u40_enc h1 h2 (enc x.f.toNat ++ (enc x.t.toNat ++ (tarB x.a ++ (if x.d = 0 then [] else tarB x.o))))
  have a2 := u40_enc h3 h4 (enc x.t.toNat ++ (tarB x.a ++ (if x.d = 0 then [] else tarB x.o)))
  have a3 := u40_enc h5 h6 (tarB x.a ++ (if x.d = 0 then [] else tarB x.o))
  have a4 := rdT_tarB h7 (if x.d = 0 then [] else tarB x.o)
  have a5 : rdO x.d.toNat (some (if x.d = 0 then [] else tarB x.o)) = (x.o, some []) := by
    unfold rdO
    by_cases hd : x.d = 0
    · rw [if_pos hd] at h8 ⊢
      rw [if_pos (by omega), h8]
    · rw [if_neg hd] at h8 ⊢
      rw [if_neg (by omega)]
      have := rdT_tarB h8 []
      rwa [List.append_nil] at this
  unfold rdP pD p3
  rw [show plB x = enc x.d.toNat ++ (enc x.f.toNat ++ (enc x.t.toNat ++ (tarB x.a ++ (if x.d = 0 then [] else tarB x.o)))) from rfl]
  rw [a1]; dsimp only
  rw [a2]; dsimp only
  rw [a3]; dsimp only
  rw [a4]; dsimp only
  rw [a5]; dsimp only
  rw [Int.toNat_of_nonneg h1, Int.toNat_of_nonneg h3, Int.toNat_of_nonneg h5]
end Go.Proofs.Ytfdaokjigjpomaa.tfw
namespace Go.Proofs.Ytfdaokjigjpomaa.tfw
open Go.RowKit mem codm codp codw tirm tirw
set_option linter.unusedVariables false

/-- a writer made since w, and cells of boxes that it doesn't own -/
def WrB (w : World) (p : Nat) (wx : World) (l : List Nat) (Q : Nat → Nat → Value → Prop) : Prop := ∃ v, WrV w p v wx l ∧ ∀ g j u, Q g j u → Apt p v g ∧ wx.cell? ⟨g, j, none⟩ = some u
theorem WrB.only {w wx : World} {p : Nat} {l : List Nat} {Q : Nat → Nat → Value → Prop} (h : WrB w p wx l Q) : Only (fun _ => False) w wx := by obtain ⟨v, h1, -⟩ := h; exact h1.2.1
theorem WrB.cell {w wx : World} {p : Nat} {l : List Nat} {Q : Nat → Nat → Value → Prop} (h : WrB w p wx l Q) {g j : Nat} {u : Value} (q : Q g j u) : wx.cell? ⟨g, j, none⟩ = some u := by obtain ⟨v, -, h2⟩ := h; exact (h2 g j u q).2
theorem WrB.less {w wx : World} {p : Nat} {l : List Nat} {Q Q' : Nat → Nat → Value → Prop} (h : WrB w p wx l Q) (hq : ∀ g j u, Q' g j u → Q g j u) : WrB w p wx l Q' := by
  obtain ⟨v, h1, h2⟩ := h
  exact ⟨v, h1, fun g j u q => h2 g j u (hq g j u q)⟩
theorem WrB.quiet {w wx w' : World} {p : Nat} {l : List Nat} {Q : Nat → Nat → Value → Prop} (h : WrB w p wx l Q) (ho : Only (fun _ => False) wx w') : WrB w p w' l Q := by
  obtain ⟨v, h1, h2⟩ := h
  exact ⟨v, h1.quiet ho, fun g j u q => ⟨(h2 g j u q).1, ho.cell' (h2 g j u q).2 (fun f => f)⟩⟩
/-- and a box more -/
def Box (Q : Nat → Nat → Value → Prop) (b : Nat) (cs : Array Value) : Nat → Nat → Value → Prop := fun g j u => Q g j u ∨ (g = b ∧ cs[j]? = some u)
theorem WrB.box {w wx w' : World} {p : Nat} {l : List Nat} {Q : Nat → Nat → Value → Prop} (h : WrB w p wx l Q) {cs : Array Value} {t : TypeId} {b : Nat} (hw : w' = wx.alloc (.cells cs t)) (hb : b = wx.heap.size) : WrB w p w' l (Box Q b cs) := by
  have ho : Only (fun _ => False) wx w' := by rw [hw]; exact (Only.refl _ _).alloc _
  obtain ⟨v, h1, h2⟩ := h
  refine ⟨v, h1.quiet ho, fun g j u q => ?_⟩
  rcases q with q | ⟨rfl, q⟩
  · exact ⟨(h2 g j u q).1, ho.cell' (h2 g j u q).2 (fun f => f)⟩
  · exact ⟨WrV.new h1 (by omega), by rw [hw]; exact alloc_new wx cs t g j u hb q⟩
theorem Box.old {Q : Nat → Nat → Value → Prop} {b : Nat} {cs : Array Value} {g j : Nat} {u : Value} (h : Q g j u) : Box Q b cs g j u := .inl h
theorem Box.new {Q : Nat → Nat → Value → Prop} {b : Nat} {cs : Array Value} {j : Nat} {u : Value} (h : cs[j]? = some u) : Box Q b cs b j u := .inr ⟨rfl, h⟩
theorem wb_uint {w wx : World} {p : Nat} {l : List Nat} {Q : Nat → Nat → Value → Prop} (h : WrB w p wx l Q) (n : Int) (h0 : 0 ≤ n) (hn : n ≤ 9223372036854775807) (hlen : l.length ≤ 100000000) : Calls Try.prog 17 #[.pointer (some ⟨p, 0, none⟩), .int .i64 n] wx fun e w' => e = .returned (.tuple #[]) ∧ WrB w p w' (l ++ enc n.toNat) Q := by
  obtain ⟨v, h1, h2⟩ := h
  refine (wv_uint h1 n h0 hn hlen).mono ?_
  rintro e w' ⟨he, v', h3, h4, h5⟩
  exact ⟨he, v', h3, fun g j u q => ⟨h5 g (World.block_lt_of_cell? wx _ (h2 g j u q).2) (h2 g j u q).1, WvAft.cell h4 (h2 g j u q).1 (h2 g j u q).2⟩⟩
theorem trs_snoc (K : List Tr) (i : Nat) (h : i < K.length) : (K.take (i + 1)).flatMap trB = (K.take i).flatMap trB ++ trB (K.getD i default) := by
  rw [List.take_succ_eq_append_getElem h, List.flatMap_append]
  simp [List.getD, h]
theorem trB_len (x : Tr) : (trB x).length ≤ 22 := by
  unfold trB
  rw [List.length_append]
  have h1 := (enc_length x.u.toNat).1
  have h2 := (enc_length x.p.toNat).1
  omega
theorem trs_len : ∀ (K : List Tr), (K.flatMap trB).length ≤ K.length * 22 := by
  intro K
  induction K with
  | nil => simp
  | cons x r ih =>
    rw [List.flatMap_cons, List.length_append, List.length_cons]
    have := trB_len x
    omega
set_option maxRecDepth 100000 in
set_option maxHeartbeats 8000000 in
theorem twrite_any (w wx : World) (wp : Nat) (l : List Nat) (Q : Nat → Nat → Value → Prop) (h : WrB w wp wx l Q) (G M B : Int) (ts : List Tr) (a : Option Addr) (n c : Nat) (hr : ReadsT w a n ts) (hi : TfIn ⟨G, M, B, ts⟩) (hl : l.length ≤ 1000) :
    Calls Try.prog 18 #[.pointer (some ⟨wp, 0, none⟩), .agg #[.int .i64 G, .int .i64 M, .int .i64 B, .slice a n c]] wx fun e w' => e = .returned (.tuple #[]) ∧ WrB w wp w' (l ++ tarB ⟨G, M, B, ts⟩) Q := by
  obtain ⟨⟨g1, g2⟩, ⟨m1, m2⟩, ⟨b1, b2⟩, hn6, hts⟩ := hi
  dsimp only at g1 g2 m1 m2 b1 b2 hn6 hts
  have HTS := Lib.hid hts
  have HR := Lib.hid hr
  have HN : Hid (ts.length = n) := Lib.hid hr.1
  have hn7 : n ≤ 6 := by rw [← hr.1]; exact hn6
  obtain ⟨w1, hw1⟩ : ∃ x, x = wx.alloc (.cells #[.int .i64 G, .int .i64 M, .int .i64 B, .slice a n c] 24) := ⟨_, rfl⟩
  obtain ⟨g, hg⟩ : ∃ x, x = wx.heap.size := ⟨_, rfl⟩
  have H1 := Lib.hid (h.box hw1 hg)
  obtain ⟨Q1, hQ1⟩ : ∃ x, x = Box Q g #[.int .i64 G, .int .i64 M, .int .i64 B, .slice a n c] := ⟨_, rfl⟩
  have HQ0 : Hid (∀ g j u, Q g j u → Q1 g j u) := Lib.hid (fun _ _ _ q => by rw [hQ1]; exact .inl q)
  have HQ1 : Hid (Q1 g 0 (.int .i64 G) ∧ Q1 g 1 (.int .i64 M) ∧ Q1 g 2 (.int .i64 B) ∧ Q1 g 3 (.slice a n c)) := Lib.hid (by rw [hQ1]; exact ⟨.inr ⟨rfl, rfl⟩, .inr ⟨rfl, rfl⟩, .inr ⟨rfl, rfl⟩, .inr ⟨rfl, rfl⟩⟩)
  rw [← hQ1] at H1
  have HTB : Hid (l ++ enc G.toNat ++ enc M.toNat ++ enc B.toNat ++ enc n ++ ts.flatMap trB = l ++ tarB ⟨G, M, B, ts⟩) := Lib.hid (by unfold tarB; dsimp only; rw [HN.out]; simp only [List.append_assoc])
  have HLL : Hid ((l ++ enc G.toNat).length ≤ 1020 ∧ (l ++ enc G.toNat ++ enc M.toNat).length ≤ 1040 ∧ (l ++ enc G.toNat ++ enc M.toNat ++ enc B.toNat).length ≤ 1060 ∧ (l ++ enc G.toNat ++ enc M.toNat ++ enc B.toNat ++ enc n).length ≤ 1080) := Lib.hid (by
    have h1 := (enc_length G.toNat).1
    have h2 := (enc_length M.toNat).1
    have h3 := (enc_length B.toNat).1
    have h4 := (enc_length n).1
    simp only [List.length_append]
    omega)
  clear h hr hts hn6 hQ1
  go_enter Try.func18, Try.ntmps18
  go_upto_region 1 with fail
  simp only [← hw1, ← hg]
  clear hw1 hg
  have d0 := H1.out.cell HQ1.out.1
  go_wp2_with fail
  refine (wb_uint H1.out G g1 (by omega) (by omega)).mono ?_
  rintro _ w2 ⟨rfl, hwr⟩
  have H2 := Lib.hid hwr
  clear hwr d0 H1
  have d0 := H2.out.cell HQ1.out.2.1
  go_wp2_with fail
  refine (wb_uint H2.out M m1 (by omega) (by have := HLL.out.1; omega)).mono ?_
  rintro _ w3 ⟨rfl, hwr⟩
  have H3 := Lib.hid hwr
  clear hwr d0 H2
  have d0 := H3.out.cell HQ1.out.2.2.1
  go_wp2_with fail
  refine (wb_uint H3.out B b1 (by omega) (by have := HLL.out.2.1; omega)).mono ?_
  rintro _ w4 ⟨rfl, hwr⟩
  have H4 := Lib.hid hwr
  clear hwr d0 H3
  have d0 := H4.out.cell HQ1.out.2.2.2
  go_wp2_with fail
  refine (wb_uint H4.out (n : Int) (by omega) (by omega) (by have := HLL.out.2.2.1; omega)).mono ?_
  rintro _ w5 ⟨rfl, hwr⟩
  have H5 := Lib.hid hwr
  rw [Int.toNat_natCast] at H5
  clear hwr d0 H4
  have d0 := H5.out.cell HQ1.out.2.2.2
  obtain ⟨H, hH⟩ : ∃ x, x = l ++ enc G.toNat ++ enc M.toNat ++ enc B.toNat ++ enc n := ⟨_, rfl⟩
  rw [← hH] at H5 HTB HLL
  clear hH
  go_wp2_with fail
  go_loopw [26] (fun iv wr => ∃ (i : Nat), i ≤ n ∧ iv = .int .i64 (i : Int) ∧ Hid (WrB w wp wr (H ++ (ts.take i).flatMap trB) Q1)) (fun iv _ => n - (intOf iv).toNat)
  case atStart => exact ⟨0, by omega, rfl, by simpa using H5⟩
  case round =>
    clear d0 H5
    obtain ⟨i, hi, rfl, HWR⟩ := hrel
    rename World => wr
    by_cases h8 : i < n
    · obtain ⟨-, -, -, hcs⟩ := HR.out
      obtain ⟨b, off, rfl, hcell⟩ := hcs.resolve_left (by omega)
      obtain ⟨c0, c1⟩ := hcell i h8
      replace c0 := HWR.out.only.cell' c0 (fun f => f)
      replace c1 := HWR.out.only.cell' c1 (fun f => f)
      have hin : (i : Int) < n := by omega
      have hi0 : (0 : Int) ≤ i := by omega
      have hi64 : (i : Int) ≤ 64 := by omega
      have hx : TrIn (ts.getD i default) := HTS.out _ (getT_mem ts i (by rw [HN.out]; exact h8))
      have HSN : Hid (H ++ (ts.take i).flatMap trB ++ enc (ts.getD i default).u.toNat ++ enc (ts.getD i default).p.toNat = H ++ (ts.take (i + 1)).flatMap trB) := Lib.hid (by
        rw [trs_snoc ts i (by rw [HN.out]; exact h8)]
        unfold trB
        simp only [List.append_assoc])
      have HPL : Hid ((H ++ (ts.take i).flatMap trB).length ≤ 3000 ∧ (H ++ (ts.take i).flatMap trB ++ enc (ts.getD i default).u.toNat).length ≤ 3020) := Lib.hid (by
        have h1 := trs_len (ts.take i)
        have h2 : (ts.take i).length ≤ 6 := by rw [List.length_take]; omega
        have h3 := (enc_length (ts.getD i default).u.toNat).1
        have h4 := HLL.out.2.2.2
        simp only [List.length_append] at h4 ⊢
        omega)
      generalize ts.getD i default = x at *
      obtain ⟨xu, xp⟩ := x
      obtain ⟨⟨x1, x2⟩, x3, x4⟩ := hx
      dsimp only at c0 c1 HSN HPL x1 x2 x3 x4
      clear hcell hcs
      go_upto_region 8 with fail
      obtain ⟨w7, hw7⟩ : ∃ x, x = wr.alloc (.cells #[.int .i64 xu, .int .i64 xp] 74) := ⟨_, rfl⟩
      obtain ⟨g7, hg7⟩ : ∃ x, x = wr.heap.size := ⟨_, rfl⟩
      have H7 := Lib.hid (HWR.out.box hw7 hg7)
      simp only [← hw7, ← hg7]
      clear hw7 hg7 HWR c0 c1
      have d0 := H7.out.cell (.inr ⟨rfl, rfl⟩ : Box Q1 g7 #[.int .i64 xu, .int .i64 xp] g7 0 (.int .i64 xu))
      go_wp2_with fail
      refine (wb_uint H7.out xu x1 (by omega) (by have := HPL.out.1; omega)).mono ?_
      rintro _ w8 ⟨rfl, hwr⟩
      have H8 := Lib.hid hwr
      clear hwr d0 H7
      have d0 := H8.out.cell (.inr ⟨rfl, rfl⟩ : Box Q1 g7 #[.int .i64 xu, .int .i64 xp] g7 1 (.int .i64 xp))
      go_wp2_with fail
      refine (wb_uint H8.out xp x3 (by omega) (by have := HPL.out.2; omega)).mono ?_
      rintro _ w9 ⟨rfl, hwr⟩
      have H9 : Hid (WrB w wp w9 (H ++ (ts.take (i + 1)).flatMap trB) Q1) := Lib.hid (by rw [← HSN.out]; exact hwr.less (fun _ _ _ q => .inl q))
      clear hwr d0 H8 HSN HPL
      go_wp2_with fail
      go_roundw
      case rel => exact ⟨i + 1, by omega, by go_num, H9⟩
      case measure => simp [intOf]; omega
    · obtain rfl : i = n := by omega
      have hnl : ¬ (i : Int) < i := by omega
      have HF : Hid (WrB w wp wr (l ++ tarB ⟨G, M, B, ts⟩) Q) := Lib.hid (by
        have := HWR.out
        rw [List.take_of_length_le (by rw [HN.out]; omega), HTB.out] at this
        exact this.less HQ0.out)
      clear HWR
      go_wp2_with fail
      go_end0
      exact ⟨rfl, HF.out⟩
end Go.Proofs.Ytfdaokjigjpomaa.tfw
namespace Go.Proofs.Ytfdaokjigjpomaa.tfw
open Go.RowKit mem codm codp codw tirm tirw
set_option linter.unusedVariables false

/-- a row of tiers of the call's own -/
def OwnT (w : World) (v : Value) (ts : List Tr) : Prop := w.ownsRow 0 74 2 v ts.length (tv ts)
theorem OwnT.nil (w : World) : OwnT w (.slice none 0 0) [] := World.ownsRow_nil _ _ _ _
theorem OwnT.only {S : Nat → Prop} {w w' : World} {v : Value} {l : List Tr} (h : OwnT w v l) (ho : Only S w w') (hs : ∀ k, v.ownBlock = some k → ¬ S k) : OwnT w' v l := owns_only ho h hs
theorem OwnT.lt {w : World} {v : Value} {l : List Tr} (h : OwnT w v l) {q : Nat} (hq : v.ownBlock = some q) : q < w.heap.size := by
  rcases h.2 with ⟨hv, hn⟩ | ⟨g, cap, cur, hv, hg, hh, _⟩
  · rw [hv] at hq; simp [Value.ownBlock] at hq
  · rw [hv] at hq
    have e : g = q := by simpa [Value.ownBlock] using hq
    rw [← e]; exact heap_lt hh
theorem tv_app (a b : List Tr) : tv (a ++ b) = tv a ++ tv b := by simp [tv]
theorem OwnT.reads {w : World} {v : Value} {ts : List Tr} (h : OwnT w v ts) (hb : ∀ x ∈ ts, InI x.u ∧ InI x.p) (hm : ts.length ≤ 1000000) : ∃ a cap, v = .slice a ts.length cap ∧ ReadsT w a ts.length ts := by
  have h0 := h
  rcases h.2 with ⟨hv, hn⟩ | ⟨g, cap, cur, hv, hg, hh, hc, hmm, _⟩
  · exact ⟨none, 0, by rw [hv, hn], ⟨rfl, by omega, hb, .inl hn⟩⟩
  · refine ⟨some ⟨g, 0, none⟩, cap, hv, ?_⟩
    have h1 : w.ownsRow 0 74 2 (.slice (some ⟨g, 0, none⟩) ts.length cap) ts.length (tv ts) := by rw [← hv]; exact h0
    exact own_readsT h1 (by omega) hb
theorem info_tr2 : (Try.prog.info? 74).map (fun i => (i.zero, i.size, i.bytes)) = some (some (.agg #[.int .i64 0, .int .i64 0]), 2, 16) := by kernel_rfl
theorem news_tr {w : World} {x : Tr} {g : Nat} (hg : g = w.heap.size) (t : TypeId) : ∀ j u, (tv [x])[j]? = some u → (w.alloc (.cells #[.int .i64 x.u, .int .i64 x.p] t)).cell? ((Addr.mk g 0 none).add j) = some u := by
  intro j u h
  match j with
  | 0 => injection h with h; subst h; exact alloc_new w _ t g 0 _ hg rfl
  | 1 => injection h with h; subst h; exact alloc_new w _ t g 1 _ hg rfl
  | j + 2 => cases h
theorem step_tr {ops : Array Oper} {o : Oper} {a : Act} {w : World} {K : Act → World → Prop} {Q : Exit → Act → World → Prop} {E : Prop}
    (hg : o.guard = none) (s x : Operand) (ho : o.op = Op.call { callee := Callee.builtin Builtin.append, args := #[s, x], argTypes := #[22, 22] })
    (v : Value) (xs : List Tr) (hs : a.eval s = v) (hown : OwnT w v xs) (g c : Nat) (d : Tr) (hx : a.eval x = .slice (some ⟨g, 0, none⟩) 1 c) (hn : ∀ j u, (tv [d])[j]? = some u → w.cell? ((Addr.mk g 0 none).add j) = some u) (hb : xs.length ≤ 1000)
    (hK : ∀ v' w', OwnT w' v' (xs ++ [d]) → w.grownBy w' v.ownBlock → (∀ k, v'.ownBlock = some k → v.ownBlock = some k ∨ w.heap.size ≤ k) → K (a.put o.dst v') w') :
    if Region.wanted o (yielded ops a.tmps) = true then Oper.wp Try.prog o a w K Q else E := by
  obtain ⟨i0, hi, hz0, hz1, hz2⟩ := info_parts info_tr2
  refine step_mine hg s x 22 ho 74 i0 _ 2 16 Try.underlying22 hi hz0 hz1 hz2 rfl (by decide) v xs.length _ hs hown ⟨g, 0, none⟩ 1 c (tv [d]) hx rfl hn (tv_one [d]) (by unfold maxLen; omega) (by omega) ?_
  intro v' w' h1 h2 h3
  refine hK v' w' ?_ h2 h3
  unfold OwnT
  rw [List.length_append, tv_app]
  exact h1
theorem OwnT.form {w : World} {v : Value} {l : List Tr} (h : OwnT w v l) : ∃ a c, v = .slice a l.length c := by
  rcases h.2 with ⟨hv, hn⟩ | ⟨g, cap, cur, hv, hg, -⟩
  · exact ⟨none, 0, by rw [hv, hn]⟩
  · exact ⟨_, cap, hv⟩
/-- what is while the program reads a tariff -/
structure StT (B : Nat → Prop) (w wr : World) (rp g : Nat) (x y z : Int) (v : Value) (K : List Tr) (s : Option (List Nat)) : Prop where
  rs : RS B wr rp s
  c0 : wr.cell? ⟨g, 0, none⟩ = some (.int .i64 x)
  c1 : wr.cell? ⟨g, 1, none⟩ = some (.int .i64 y)
  c2 : wr.cell? ⟨g, 2, none⟩ = some (.int .i64 z)
  c3 : wr.cell? ⟨g, 3, none⟩ = some v
  f3 : wr.frozen? ⟨g, 3, none⟩ = false
  own : OwnT wr v K
  nr : g ≠ rp
  vr : v.ownBlock ≠ some rp
  vg : v.ownBlock ≠ some g
  gw : w.heap.size ≤ g
  vw : ∀ k, v.ownBlock = some k → w.heap.size ≤ k
  only : Only (fun q => q = rp) w wr
theorem StT.lt {B : Nat → Prop} {w wr : World} {rp g : Nat} {x y z : Int} {v : Value} {K : List Tr} {s : Option (List Nat)} (h : StT B w wr rp g x y z v K s) : g < wr.heap.size := World.block_lt_of_cell? wr _ h.c0
theorem StT.rd {B : Nat → Prop} {w wr w' : World} {rp g : Nat} {x y z : Int} {v : Value} {K : List Tr} {s s' : Option (List Nat)} (h : StT B w wr rp g x y z v K s) (hr : RS B w' rp s') (ho : Only (fun q => q = rp) wr w') : StT B w w' rp g x y z v K s' :=
  ⟨hr, ho.cell' h.c0 h.nr, ho.cell' h.c1 h.nr, ho.cell' h.c2 h.nr, ho.cell' h.c3 h.nr, (ho.frozen (p := ⟨g, 3, none⟩) h.lt h.nr).trans h.f3, h.own.only ho (fun k e s => h.vr (by rw [e, s])), h.nr, h.vr, h.vg, h.gw, h.vw, h.only.trans ho⟩
set_option maxRecDepth 100000 in
set_option maxHeartbeats 8000000 in
theorem tread_any (B : Nat → Prop) (rp : Nat) (s : Option (List Nat)) (w : World) (h : RS B w rp s) (hB : ∀ q, B q → q < w.heap.size ∧ q ≠ rp) :
    Calls Try.prog 26 #[.pointer (some ⟨rp, 0, none⟩)] w fun e w' => ∃ v, e = .returned (.agg #[.int .i64 (rdT s).1.g, .int .i64 (rdT s).1.m, .int .i64 (rdT s).1.b, v]) ∧ OwnT w' v (rdT s).1.ts ∧ (∀ k, v.ownBlock = some k → w.heap.size ≤ k) ∧ RS B w' rp (rdT s).2 ∧ Only (fun q => q = rp) w w' := by
  have HS0 : Hid (SOk s) := Lib.hid h.sok
  obtain ⟨na, hna⟩ : ∃ x, x = (u40 s).1 := ⟨_, rfl⟩
  obtain ⟨nb, hnb⟩ : ∃ x, x = (u40 (u40 s).2).1 := ⟨_, rfl⟩
  obtain ⟨nc, hnc⟩ : ∃ x, x = (u40 (u40 (u40 s).2).2).1 := ⟨_, rfl⟩
  obtain ⟨n, hn⟩ : ∃ x, x = tn s := ⟨_, rfl⟩
  have hn6 : n ≤ 6 := by rw [hn]; exact tn_bd h.sok
  have HNA : Hid ((rdT s).1.g = (na : Int) ∧ (rdT s).1.m = (nb : Int) ∧ (rdT s).1.b = (nc : Int) ∧ (rdT s).1.ts = (rdTs n (t4 s)).1 ∧ (rdT s).2 = (rdTs n (t4 s)).2) := Lib.hid (by rw [hna, hnb, hnc, hn]; exact ⟨rfl, rfl, rfl, rfl, rfl⟩)
  have HN1 : Hid ((uS 1099511627776 s).1 = na ∧ (uS 1099511627776 (u40 s).2).1 = nb ∧ (uS 1099511627776 (u40 (u40 s).2).2).1 = nc ∧ (uS 6 (u40 (u40 (u40 s).2).2).2).1 = n) := Lib.hid ⟨hna.symm, hnb.symm, hnc.symm, hn.symm⟩
  clear hna hnb hnc hn
  obtain ⟨w1, hw1⟩ : ∃ x, x = w.alloc (.cells #[.int .i64 0, .int .i64 0, .int .i64 0, .slice none 0 0] 24) := ⟨_, rfl⟩
  obtain ⟨g2, hg2⟩ : ∃ x, x = w.heap.size := ⟨_, rfl⟩
  have hal1 : Only (fun _ => False) w w1 := by rw [hw1]; exact (Only.refl _ _).alloc _
  have HQ2 : Hid (w1.cell? ⟨g2, 0, none⟩ = some (.int .i64 0) ∧ w1.cell? ⟨g2, 1, none⟩ = some (.int .i64 0) ∧ w1.cell? ⟨g2, 2, none⟩ = some (.int .i64 0) ∧ w1.cell? ⟨g2, 3, none⟩ = some (.slice none 0 0) ∧ ∀ k, w1.frozen? ⟨g2, k, none⟩ = false) := Lib.hid (by
    rw [hw1]
    exact ⟨alloc_new w _ _ g2 0 _ hg2 rfl, alloc_new w _ _ g2 1 _ hg2 rfl, alloc_new w _ _ g2 2 _ hg2 rfl, alloc_new w _ _ g2 3 _ hg2 rfl, fun k => alloc_froz w _ _ g2 k hg2⟩)
  have HR1 := Lib.hid (h.only hal1 (fun f => f) (fun _ _ f => f))
  have HO1 := Lib.hid hal1
  have HRP : Hid (rp < w.heap.size) := Lib.hid h.lt
  have HG2 : Hid (g2 = w.heap.size) := Lib.hid hg2
  have HBB : Hid (∀ q, B q → q < w1.heap.size ∧ q ≠ rp) := Lib.hid (fun q b => ⟨by have := (hB q b).1; have := hal1.size; omega, (hB q b).2⟩)
  have HO0 := Lib.hid hal1
  have HB0 : Hid (∀ q, B q → q < w.heap.size) := Lib.hid (fun q b => (hB q b).1)
  clear h hal1 hB
  go_enter Try.func26, Try.ntmps26
  go_upto_region 1 with fail
  simp only [← hw1, ← hg2]
  clear hw1 hg2
  go_wp2_with fail
  refine (guint B rp 1099511627776 s w1 HR1.out).mono ?_
  rintro _ w2 ⟨rfl, hrs, ho⟩
  have HR2 := Lib.hid hrs
  have HO2 : Hid (Only (fun q => q = rp) w w2) := Lib.hid ((HO1.out.mono (fun _ _ f => f.elim)).trans ho)
  have HP2 : Hid (Only (fun q => q = rp) w1 w2) := Lib.hid ho
  clear hrs ho HR1 HO1
  rw [HN1.out.1]
  go_wp2_with fail
  refine (guint B rp 1099511627776 (u40 s).2 w2 HR2.out).mono ?_
  rintro _ w3 ⟨rfl, hrs, ho⟩
  have HR3 := Lib.hid hrs
  have HO3 := Lib.hid (HO2.out.trans ho)
  have HP3 := Lib.hid (HP2.out.trans ho)
  clear hrs ho HR2 HO2 HP2
  rw [HN1.out.2.1]
  go_wp2_with fail
  refine (guint B rp 1099511627776 (u40 (u40 s).2).2 w3 HR3.out).mono ?_
  rintro _ w4 ⟨rfl, hrs, ho⟩
  have HR4 := Lib.hid hrs
  have HO4 := Lib.hid (HO3.out.trans ho)
  have HP4 := Lib.hid (HP3.out.trans ho)
  clear hrs ho HR3 HO3 HP3
  rw [HN1.out.2.2.1]
  go_upto_region 2 with fail
  obtain ⟨w5, hw5⟩ : ∃ x, x = w4.alloc (.cells #[.int .i64 na, .int .i64 nb, .int .i64 nc, .slice none 0 0] 24) := ⟨_, rfl⟩
  obtain ⟨g, hg⟩ : ∃ x, x = w4.heap.size := ⟨_, rfl⟩
  have hal5 : Only (fun _ => False) w4 w5 := by rw [hw5]; exact (Only.refl _ _).alloc _
  have HST5 : Hid (StT B w1 w5 rp g (na : Int) (nb : Int) (nc : Int) (.slice none 0 0) [] (u40 (u40 (u40 s).2).2).2) := Lib.hid (by
    have := HP4.out.size
    have := HR4.out.lt
    refine ⟨HR4.out.only hal5 (fun f => f) (fun _ _ f => f), ?_, ?_, ?_, ?_, ?_, OwnT.nil _, by omega, by simp [Value.ownBlock], by simp [Value.ownBlock], by omega, fun q e => by simp [Value.ownBlock] at e, HP4.out.trans (hal5.mono (fun _ _ f => f.elim))⟩
    · rw [hw5]; exact alloc_new w4 _ _ g 0 _ hg rfl
    · rw [hw5]; exact alloc_new w4 _ _ g 1 _ hg rfl
    · rw [hw5]; exact alloc_new w4 _ _ g 2 _ hg rfl
    · rw [hw5]; exact alloc_new w4 _ _ g 3 _ hg rfl
    · rw [hw5]; exact alloc_froz w4 _ _ g 3 hg)
  have HNR : Hid (¬ g2 = rp) := Lib.hid (by have := HRP.out; have := HG2.out; omega)
  simp only [← hw5, ← hg]
  clear hw5 hg hal5 HR4 HO4 HP4
  go_wp2_with fail
  refine (guint B rp 6 (u40 (u40 (u40 s).2).2).2 w5 HST5.out.rs).mono ?_
  rintro _ w6 ⟨rfl, hrs, ho⟩
  have HST6 : Hid (StT B w1 w6 rp g (rdT s).1.g (rdT s).1.m (rdT s).1.b (.slice none 0 0) (rdTs 0 (t4 s)).1 (rdTs 0 (t4 s)).2) := Lib.hid (by rw [HNA.out.1, HNA.out.2.1, HNA.out.2.2.1]; exact HST5.out.rd hrs ho)
  clear hrs ho HST5
  rw [HN1.out.2.2.2]
  go_wp2_with fail
  go_loopw [13] (fun iv wr => ∃ (i : Nat) (v : Value), i ≤ n ∧ iv = .int .i64 (i : Int) ∧ Hid (StT B w1 wr rp g (rdT s).1.g (rdT s).1.m (rdT s).1.b v (rdTs i (t4 s)).1 (rdTs i (t4 s)).2)) (fun iv _ => n - (intOf iv).toNat)
  case atStart => exact ⟨0, _, by omega, rfl, HST6⟩
  case round =>
    clear HST6
    obtain ⟨i, v, hi, rfl, HST⟩ := hrel
    rename World => wr
    by_cases h8 : i < n
    · have hin : (i : Int) < n := by omega
      have hi0 : (0 : Int) ≤ i := by omega
      have hi64 : (i : Int) ≤ 64 := by omega
      obtain ⟨si, hsi⟩ : ∃ x, x = (rdTs i (t4 s)).2 := ⟨_, rfl⟩
      obtain ⟨xu, hxu⟩ : ∃ x : Int, ((u40 si).1 : Int) = x := ⟨_, rfl⟩
      obtain ⟨xp, hxp⟩ : ∃ x : Int, ((u40 (u40 si).2).1 : Int) = x := ⟨_, rfl⟩
      have HU1 : Hid (∀ w', RS B w' rp (rdTs i (t4 s)).2 → Calls Try.prog 25 #[.pointer (some ⟨rp, 0, none⟩), .int .i64 1099511627776] w' (AftG B rp w' (.int .i64 xu) (u40 si).2)) := Lib.hid (fun w' h => by rw [← hsi] at h; have := guint B rp 1099511627776 si w' h; rwa [show ((uS 1099511627776 si).1 : Int) = xu from hxu] at this)
      have HU2 : Hid (∀ w', RS B w' rp (u40 si).2 → Calls Try.prog 25 #[.pointer (some ⟨rp, 0, none⟩), .int .i64 1099511627776] w' (AftG B rp w' (.int .i64 xp) (rdTs (i + 1) (t4 s)).2)) := Lib.hid (fun w' h => by
        have := guint B rp 1099511627776 (u40 si).2 w' h
        rw [show ((uS 1099511627776 (u40 si).2).1 : Int) = xp from hxp] at this
        have e : (rdTs (i + 1) (t4 s)).2 = (uS 1099511627776 (u40 si).2).2 := by rw [hsi]; rfl
        rw [e]
        exact this)
      have HLE : Hid ((rdTs (i + 1) (t4 s)).1 = (rdTs i (t4 s)).1 ++ [⟨xu, xp⟩]) := Lib.hid (by
        show (rdTs i (t4 s)).1 ++ [(rdTr (rdTs i (t4 s)).2).1] = _
        rw [← hsi, ← hxu, ← hxp]; rfl)
      have HKL9 : Hid ((rdTs i (t4 s)).1.length ≤ 1000) := Lib.hid (by rw [rdTs_len]; omega)
      have HSL : Hid (∀ w', Only (fun q => q = rp) wr w' → w'.cell? ⟨g, 3, none⟩ = some v ∧ True) := Lib.hid (fun w' h => ⟨h.cell' HST.out.c3 HST.out.nr, trivial⟩)
      clear hsi hxu hxp
      go_upto_region 4 with fail
      refine wp_region_noPanic ?_
      refine late.region (fun w' => w'.cell? ⟨g, 3, none⟩ = some v ∧ True) (fun j => [10].contains j) (by kernel_rfl) (HSL.out _ ((Only.refl _ _).drew)) (fun hHeld => ?_)
      obtain ⟨y0, hy0⟩ : ∃ x, x = wr.drew := ⟨_, rfl⟩
      rw [← hy0] at hHeld ⊢
      have hot : Hid (Only (fun q => q = rp) wr y0) := Lib.hid (by rw [hy0]; exact (Only.refl _ _).drew)
      have HRS : Hid (RS B y0 rp (rdTs i (t4 s)).2) := Lib.hid (HST.out.rs.only (S := fun _ => False) (by rw [hy0]; exact (Only.refl _ _).drew) (fun f => f) (fun _ _ f => f))
      clear hy0
      refine late.take (i := 0) [1, 8, 9, 10] (v := ?_) rfl (by kernel_rfl) (by kernel_rfl) (by kernel_rfl) (by kernel_rfl) (fun _ _ _ h => h) (Or.inl ⟨by rfl, ?_⟩) (by assumption) ?_
      rotate_left 1
      · intro w' hSw
        try dsimp only at hSw
        go_simp
        try with_reducible rfl
      try simp only [List.getElem_toArray, List.getElem_cons_zero, Act.put, List.setIfInBounds_toArray, List.set_cons_zero, List.set_cons_succ]
      refine late.take (i := 1) [8, 9, 10] (v := ?_) rfl (by kernel_rfl) (by kernel_rfl) (by kernel_rfl) (by kernel_rfl) (fun _ _ _ h => h) (Or.inl ⟨by rfl, ?_⟩) (by assumption) ?_
      rotate_left 1
      · intro w' hSw
        try dsimp only at hSw
        go_simp
        try with_reducible rfl
      try simp only [List.getElem_toArray, List.getElem_cons_zero, List.getElem_cons_succ, Act.put, List.setIfInBounds_toArray, List.set_cons_zero, List.set_cons_succ]
      refine late.take (i := 2) [3, 5, 6, 7, 8, 9, 10] (v := ?_) rfl (by kernel_rfl) (by kernel_rfl) (by kernel_rfl) (by kernel_rfl) (fun _ _ _ h => h) (Or.inl ⟨by rfl, ?_⟩) (by assumption) ?_
      rotate_left 1
      · intro w' hSw
        try dsimp only at hSw
        go_simp
        try with_reducible rfl
      try simp only [List.getElem_toArray, List.getElem_cons_zero, List.getElem_cons_succ, Act.put, List.setIfInBounds_toArray, List.set_cons_zero, List.set_cons_succ]
      refine late.take (i := 4) [5, 6, 7, 8, 9, 10] (v := ?_) rfl (by kernel_rfl) (by kernel_rfl) (by kernel_rfl) (by kernel_rfl) (fun _ _ _ h => h) (Or.inl ⟨by rfl, ?_⟩) (by assumption) ?_
      rotate_left 1
      · intro w' hSw
        try dsimp only at hSw
        go_simp
        try with_reducible rfl
      try simp only [List.getElem_toArray, List.getElem_cons_zero, List.getElem_cons_succ, Act.put, List.setIfInBounds_toArray, List.set_cons_zero, List.set_cons_succ]
      refine late.ready (rs := [3]) (by kernel_rfl) (by simp) ?_
      refine late.Each.cons rfl (fun K hK => ?_) late.Each.nil
      try simp only [List.getElem_toArray, List.getElem_cons_zero, List.getElem_cons_succ]
      go_simp
      go_at_call 25
      with_reducible refine (HU1.out _ HRS.out).mono ?_
      rintro _ W1 ⟨rfl, hrs, ho⟩
      replace HRS := Lib.hid hrs
      replace hot := Lib.hid (hot.out.trans ho)
      clear hrs ho HU1
      try dsimp only
      refine hK.out _ _ (fun _ => HSL.out _ hot.out) (fun hHeld1 => ?_)
      replace hHeld1 := hHeld1 rfl
      clear hK K
      try simp only [List.getElem_toArray, List.getElem_cons_zero, List.getElem_cons_succ, Act.put, List.setIfInBounds_toArray, List.set_cons_zero, List.set_cons_succ]
      refine late.ready (rs := [5]) (by kernel_rfl) (by simp) ?_
      refine late.Each.cons rfl (fun K hK => ?_) late.Each.nil
      try simp only [List.getElem_toArray, List.getElem_cons_zero, List.getElem_cons_succ]
      go_simp
      go_at_call 25
      with_reducible refine (HU2.out _ HRS.out).mono ?_
      rintro _ W2 ⟨rfl, hrs, ho⟩
      replace HRS := Lib.hid hrs
      replace hot := Lib.hid (hot.out.trans ho)
      clear hrs ho HU2
      try dsimp only
      refine hK.out _ _ (fun _ => HSL.out _ hot.out) (fun hHeld2 => ?_)
      replace hHeld2 := hHeld2 rfl
      clear hK K
      try simp only [List.getElem_toArray, List.getElem_cons_zero, List.getElem_cons_succ, Act.put, List.setIfInBounds_toArray, List.set_cons_zero, List.set_cons_succ]
      refine late.take (i := 6) [7, 8, 9, 10] (v := ?_) rfl (by kernel_rfl) (by kernel_rfl) (by kernel_rfl) (by kernel_rfl) (fun _ _ _ h => h) (Or.inl ⟨by rfl, ?_⟩) (by assumption) ?_
      rotate_left 1
      · intro w' hSw
        try dsimp only at hSw
        go_simp
        try with_reducible rfl
      try simp only [List.getElem_toArray, List.getElem_cons_zero, List.getElem_cons_succ, Act.put, List.setIfInBounds_toArray, List.set_cons_zero, List.set_cons_succ]
      refine late.ready (rs := [7]) (by kernel_rfl) (by simp) ?_
      refine late.Each.cons rfl (fun K hK => ?_) late.Each.nil
      try simp only [List.getElem_toArray, List.getElem_cons_zero, List.getElem_cons_succ]
      go_simp
      obtain ⟨w9, hw9⟩ : ∃ x, x = W2 := ⟨_, rfl⟩
      rw [← hw9] at hot HRS ⊢
      clear hw9
      obtain ⟨W3, hW3⟩ : ∃ x, x = w9.alloc (.cells #[.int .i64 xu, .int .i64 xp] 74) := ⟨_, rfl⟩
      obtain ⟨g3, hg3⟩ : ∃ x, x = w9.heap.size := ⟨_, rfl⟩
      rw [← hW3, ← hg3]
      have hal : Only (fun _ => False) w9 W3 := by rw [hW3]; exact (Only.refl _ _).alloc _
      have HNW : Hid (∀ j u, (tv [(⟨xu, xp⟩ : Tr)])[j]? = some u → W3.cell? ((Addr.mk g3 0 none).add j) = some u) := Lib.hid (by rw [hW3]; exact news_tr (x := ⟨xu, xp⟩) hg3 _)
      have HSZ : Hid (wr.heap.size ≤ W3.heap.size) := Lib.hid (by have := hot.out.size; have := hal.size; omega)
      replace HRS := Lib.hid (HRS.out.only hal (fun f => f) (fun _ _ f => f))
      replace hot := Lib.hid (hot.out.trans (hal.mono (fun _ _ f => f.elim)))
      clear hW3 hg3 hal
      refine hK.out _ _ (fun _ => HSL.out _ hot.out) (fun hHeld3 => ?_)
      replace hHeld3 := hHeld3 rfl
      clear hK K
      try simp only [List.getElem_toArray, List.getElem_cons_zero, List.getElem_cons_succ, Act.put, List.setIfInBounds_toArray, List.set_cons_zero, List.set_cons_succ]
      refine late.ready (rs := [8]) (by kernel_rfl) (by simp) ?_
      refine late.Each.cons rfl (fun K hK => ?_) late.Each.nil
      refine step_tr (a := { tmps := _, defers := _ }) rfl _ _ rfl v _ rfl (HST.out.own.only hot.out (fun k e s => HST.out.vr (by rw [e, s]))) g3 1 ⟨xu, xp⟩ rfl HNW.out HKL9.out ?_
      rintro v4 W4 hown hgrow hkk
      obtain ⟨gq, bc, hvf, -, -, hbc, -⟩ := owns_form hown (by simp)
      generalize hnl : ((rdTs i (t4 s)).1 ++ [(⟨xu, xp⟩ : Tr)]).length = nl at hvf hbc
      subst hvf
      clear hnl
      have HOW9 : Hid (OwnT W4 (.slice (some ⟨gq, 0, none⟩) nl bc : Value) (rdTs (i + 1) (t4 s)).1) := Lib.hid (by rw [HLE.out]; exact hown)
      have HKK : Hid (∀ k, (.slice (some ⟨gq, 0, none⟩) nl bc : Value).ownBlock = some k → v.ownBlock = some k ∨ wr.heap.size ≤ k) := Lib.hid (fun k e => (hkk k e).imp (fun x => x) (fun e2 => Nat.le_trans HSZ.out e2))
      have hgo := Only.of_grown hgrow
      have HGV : Hid (Only (fun x => x = rp ∨ v.ownBlock = some x) wr W4) := Lib.hid ((hot.out.mono (fun _ _ e => Or.inl e)).trans (hgo.mono (fun _ _ e => Or.inr e)))
      have HRS2 : Hid (RS B W4 rp (rdTs (i + 1) (t4 s)).2) := Lib.hid (HRS.out.only hgo HST.out.vr (fun q b e => by have := HST.out.vw q e; have := (HBB.out q b).1; omega))
      have d2 : W4.cell? ⟨g, 3, none⟩ = some v := HGV.out.cell' HST.out.c3 (fun e => e.elim HST.out.nr HST.out.vg)
      have f2 : W4.frozen? ⟨g, 3, none⟩ = false := (HGV.out.frozen (p := ⟨g, 3, none⟩) HST.out.lt (fun e => e.elim HST.out.nr HST.out.vg)).trans HST.out.f3
      clear hown hgrow hkk hgo HNW HRS
      refine hK.out _ _ (fun _ => ⟨d2, trivial⟩) (fun hHeld4 => ?_)
      replace hHeld4 := hHeld4 rfl
      clear hK K
      try simp only [List.getElem_toArray, List.getElem_cons_zero, List.getElem_cons_succ, Act.put, List.setIfInBounds_toArray, List.set_cons_zero, List.set_cons_succ]
      refine late.take (i := 9) [10] (v := ?_) rfl (by kernel_rfl) (by kernel_rfl) (by kernel_rfl) (by kernel_rfl) (fun _ _ _ h => h) (Or.inl ⟨by rfl, ?_⟩) (by assumption) ?_
      rotate_left 1
      · intro w' hSw
        try dsimp only at hSw
        go_simp
        try with_reducible rfl
      try simp only [List.getElem_toArray, List.getElem_cons_zero, List.getElem_cons_succ, Act.put, List.setIfInBounds_toArray, List.set_cons_zero, List.set_cons_succ]
      refine late.ready (rs := [10]) (by kernel_rfl) (by simp) ?_
      refine late.Each.cons rfl (fun K hK => ?_) late.Each.nil
      clear hHeld
      try simp only [List.getElem_toArray, List.getElem_cons_zero, List.getElem_cons_succ]
      go_simp
      refine hK.out _ _ (fun h => by cases h) (fun _ => ?_)
      clear hK K
      try simp only [List.getElem_toArray, List.getElem_cons_zero, List.getElem_cons_succ, Act.put, List.setIfInBounds_toArray, List.set_cons_zero, List.set_cons_succ]
      refine late.done (by kernel_rfl) ?_ _
      refine NoPanic.normal ?_
      obtain ⟨w8, hw8⟩ : ∃ x, x = W4.setCell ⟨g, 3, none⟩ (.slice (some ⟨gq, 0, none⟩) nl bc : Value) := ⟨_, rfl⟩
      have hsv : Only (fun x => x = g) W4 w8 := by rw [hw8]; exact Only.set _ _ g 3 _ rfl
      have HS8 : Hid (StT B w1 w8 rp g (rdT s).1.g (rdT s).1.m (rdT s).1.b (.slice (some ⟨gq, 0, none⟩) nl bc : Value) (rdTs (i + 1) (t4 s)).1 (rdTs (i + 1) (t4 s)).2) := Lib.hid (by
        have a := HST.out
        have hg1 : ∀ e : g = rp ∨ v.ownBlock = some g, False := fun e => e.elim a.nr a.vg
        have hvg : (.slice (some ⟨gq, 0, none⟩) nl bc : Value).ownBlock ≠ some g := fun e => (HKK.out g e).elim a.vg (fun e => by have := a.lt; omega)
        refine ⟨HRS2.out.only hsv (fun e => a.nr e.symm) (fun q b e => by have := (HBB.out q b).1; have := a.gw; omega), ?_, ?_, ?_, ?_, ?_, HOW9.out.only hsv (fun k e e2 => hvg (by rw [e, e2])), a.nr, fun e => (HKK.out rp e).elim a.vr (fun e => by have := a.rs.lt; omega), hvg, a.gw, fun k e => (HKK.out k e).elim (a.vw k) (fun e => by have := a.only.size; omega), ?_⟩
        · rw [hw8, cell_other (fun e => by injection e with _ e _; omega)]; exact HGV.out.cell' a.c0 hg1
        · rw [hw8, cell_other (fun e => by injection e with _ e _; omega)]; exact HGV.out.cell' a.c1 hg1
        · rw [hw8, cell_other (fun e => by injection e with _ e _; omega)]; exact HGV.out.cell' a.c2 hg1
        · rw [hw8]; exact cell_same d2
        · rw [hw8]; exact frozen_set.trans f2
        · exact (a.only.then HGV.out (fun q hq e => e.elim (fun e => e) (fun e => by have := a.vw q e; omega))).then hsv (fun q hq e => by have := a.gw; omega))
      rw [← hw8]
      clear hw8 d2 f2 hot HOW9 HKK HGV hsv HST HSL HKL9 HSZ HRS2
      go_wp2_with fail
      go_roundw
      case rel => exact ⟨i + 1, (.slice (some ⟨gq, 0, none⟩) nl bc : Value), by omega, by go_num, HS8⟩
      case measure => simp [intOf]; omega
    · obtain rfl : i = n := by omega
      have hnl : ¬ (i : Int) < i := by omega
      have a := HST.out
      obtain ⟨r0, r1, r2, r3, rf⟩ := id HQ2.out
      have hg2 := World.block_lt_of_cell? w1 _ r0
      replace r0 := a.only.cell' r0 HNR.out
      replace r1 := a.only.cell' r1 HNR.out
      replace r2 := a.only.cell' r2 HNR.out
      replace r3 := a.only.cell' r3 HNR.out
      have f0 := (a.only.frozen (p := ⟨g2, 0, none⟩) hg2 HNR.out).trans (rf 0)
      have f1 := (a.only.frozen (p := ⟨g2, 1, none⟩) hg2 HNR.out).trans (rf 1)
      have f2 := (a.only.frozen (p := ⟨g2, 2, none⟩) hg2 HNR.out).trans (rf 2)
      have f3 := (a.only.frozen (p := ⟨g2, 3, none⟩) hg2 HNR.out).trans (rf 3)
      have e0 := a.c0
      have e1 := a.c1
      have e2 := a.c2
      have e3 := a.c3
      obtain ⟨ao, co, hvf⟩ := a.own.form
      generalize hnl : (rdTs i (t4 s)).1.length = nl at hvf
      clear hnl
      subst hvf
      have HGG : Hid (g2 < w1.heap.size) := Lib.hid hg2
      clear a rf hg2
      obtain ⟨G, hG⟩ : ∃ x, x = (rdT s).1.g := ⟨_, rfl⟩
      obtain ⟨M, hM⟩ : ∃ x, x = (rdT s).1.m := ⟨_, rfl⟩
      obtain ⟨Bk, hBk⟩ : ∃ x, x = (rdT s).1.b := ⟨_, rfl⟩
      rw [← hG] at e0
      rw [← hM] at e1
      rw [← hBk] at e2
      have HV := Lib.hid (And.intro hG (And.intro hM hBk))
      clear hG hM hBk
      go_wp2_with fail
      obtain ⟨wf, hwf⟩ : ∃ x, x = (((wr.setCell ⟨g2, 0, none⟩ (.int .i64 G)).setCell ⟨g2, 1, none⟩ (.int .i64 M)).setCell ⟨g2, 2, none⟩ (.int .i64 Bk)).setCell ⟨g2, 3, none⟩ (.slice ao nl co) := ⟨_, rfl⟩
      rw [← hwf]
      have hset : Only (fun q => q = g2) wr wf := by
        rw [hwf]
        exact (((Only.set (fun q => q = g2) _ g2 0 _ rfl).trans (Only.set (fun q => q = g2) _ g2 1 _ rfl)).trans (Only.set (fun q => q = g2) _ g2 2 _ rfl)).trans (Only.set (fun q => q = g2) _ g2 3 _ rfl)
      have z0 : wf.cell? ⟨g2, 0, none⟩ = some (.int .i64 G) := by
        rw [hwf, cell_other (off_ne (by omega)), cell_other (off_ne (by omega)), cell_other (off_ne (by omega))]
        exact cell_same r0
      have z1 : wf.cell? ⟨g2, 1, none⟩ = some (.int .i64 M) := by
        rw [hwf, cell_other (off_ne (by omega)), cell_other (off_ne (by omega))]
        exact cell_same (by rw [cell_other (off_ne (by omega))]; exact r1)
      have z2 : wf.cell? ⟨g2, 2, none⟩ = some (.int .i64 Bk) := by
        rw [hwf, cell_other (off_ne (by omega))]
        exact cell_same (by rw [cell_other (off_ne (by omega)), cell_other (off_ne (by omega))]; exact r2)
      have z3 : wf.cell? ⟨g2, 3, none⟩ = some (.slice ao nl co) := by
        rw [hwf]
        exact cell_same (by rw [cell_other (off_ne (by omega)), cell_other (off_ne (by omega)), cell_other (off_ne (by omega))]; exact r3)
      clear hwf r0 r1 r2 r3 e0 e1 e2 e3 f0 f1 f2 f3
      have a := HST.out
      refine bodyPost_ret (v := .agg #[.int .i64 G, .int .i64 M, .int .i64 Bk, .slice ao nl co]) (by simp [results, Try.results26, go_sem, z0, z1, z2, z3]) rfl ⟨_, by rw [HV.out.1, HV.out.2.1, HV.out.2.2], ?_, ?_, ?_, ?_⟩
      · rw [HNA.out.2.2.2.1]
        exact a.own.only hset (fun k e e2 => by have := a.vw k e; have := HGG.out; omega)
      · intro k e
        have := a.vw k e
        have := HO0.out.size
        omega
      · rw [HNA.out.2.2.2.2]
        exact a.rs.only hset (fun e => HNR.out e.symm) (fun q b e => by have := HB0.out q b; have := HG2.out; omega)
      · exact ((HO0.out.mono (fun _ _ f => f.elim)).trans a.only).then hset (fun q hq e => by have := HG2.out; omega)
end Go.Proofs.Ytfdaokjigjpomaa.tfw
namespace Go.Proofs.Ytfdaokjigjpomaa.tfw
open Go.RowKit mem codm codp codw tirm tirw rdr
set_option linter.unusedVariables false

theorem append_tr {w : World} {ops : Array Oper} {rest : List Oper} {o : Oper} {ac : Act} {Q : Exit → Act → World → Prop} (hgd : o.guard = none) (s x : Operand)
    (ho : o.op = .call { callee := .builtin .append, args := #[s, x], argTypes := #[22, 22] })
    (v : Value) (xs : List Tr) (hs : ac.eval s = v) (hown : OwnT w v xs) (g c : Nat) (d : Tr) (hx : ac.eval x = .slice (some ⟨g, 0, none⟩) 1 c) (hn : ∀ j u, (tv [d])[j]? = some u → w.cell? ((Addr.mk g 0 none).add j) = some u) (hb : xs.length ≤ 1000)
    (h : ∀ v' w', OwnT w' v' (xs ++ [d]) → w.grownBy w' v.ownBlock → (∀ k, v'.ownBlock = some k → v.ownBlock = some k ∨ w.heap.size ≤ k) → wpList Try.prog ops Q rest (ac.put o.dst v') w') : wpList Try.prog ops Q (o :: rest) ac w := by
  obtain ⟨i0, hi, hz0, hz1, hz2⟩ := info_parts info_tr2
  refine append_mine hgd s x 22 ho 74 i0 _ 2 16 Try.underlying22 hi hz0 hz1 hz2 rfl (by decide) v xs.length _ hs hown ⟨g, 0, none⟩ 1 c (tv [d]) hx rfl hn (tv_one [d]) (by unfold maxLen; omega) (by omega) ?_
  intro v' w' h1 h2 h3
  refine h v' w' ?_ h2 h3
  unfold OwnT
  rw [List.length_append, tv_app]
  exact h1
/-- what is while the document takes a tariff -/
structure SrT (w wr : World) (rp g : Nat) (x y z : Int) (v : Value) (K : List Tr) (s : Option (List Nat)) : Prop where
  rs : RR wr rp s
  c0 : wr.cell? ⟨g, 0, none⟩ = some (.int .i64 x)
  c1 : wr.cell? ⟨g, 1, none⟩ = some (.int .i64 y)
  c2 : wr.cell? ⟨g, 2, none⟩ = some (.int .i64 z)
  c3 : wr.cell? ⟨g, 3, none⟩ = some v
  ff : ∀ k, wr.frozen? ⟨g, k, none⟩ = false
  own : OwnT wr v K
  nr : g ≠ rp
  vr : v.ownBlock ≠ some rp
  vg : v.ownBlock ≠ some g
  gw : w.heap.size ≤ g
  vw : ∀ k, v.ownBlock = some k → w.heap.size ≤ k
  only : Only (fun q => q = rp) w wr
theorem RR.lt {w : World} {p : Nat} {s : Option (List Nat)} (h : RR w p s) : p < w.heap.size := by
  obtain ⟨l, e, h1, -⟩ := h
  exact h1.lt
theorem SrT.lt {w wr : World} {rp g : Nat} {x y z : Int} {v : Value} {K : List Tr} {s : Option (List Nat)} (h : SrT w wr rp g x y z v K s) : g < wr.heap.size := World.block_lt_of_cell? wr _ h.c0
theorem SrT.rd {w wr w' : World} {rp g : Nat} {x y z : Int} {v : Value} {K : List Tr} {s s' : Option (List Nat)} (h : SrT w wr rp g x y z v K s) (hr : RR w' rp s') (ho : Only (fun q => q = rp) wr w') : SrT w w' rp g x y z v K s' :=
  ⟨hr, ho.cell' h.c0 h.nr, ho.cell' h.c1 h.nr, ho.cell' h.c2 h.nr, ho.cell' h.c3 h.nr, fun k => (ho.frozen (p := ⟨g, k, none⟩) h.lt h.nr).trans (h.ff k), h.own.only ho (fun k e s => h.vr (by rw [e, s])), h.nr, h.vr, h.vg, h.gw, h.vw, h.only.trans ho⟩
theorem SrT.quiet {w wr w' : World} {rp g : Nat} {x y z : Int} {v : Value} {K : List Tr} {s : Option (List Nat)} (h : SrT w wr rp g x y z v K s) (ho : Only (fun _ => False) wr w') : SrT w w' rp g x y z v K s :=
  h.rd (h.rs.only ho (fun f => f)) (ho.mono (fun _ _ f => f.elim))
theorem SrT.s1 {w wr : World} {rp g : Nat} {x y z : Int} {v : Value} {K : List Tr} {s : Option (List Nat)} (h : SrT w wr rp g x y z v K s) (n : Int) : SrT w (wr.setCell ⟨g, 1, none⟩ (.int .i64 n)) rp g x n z v K s := by
  have ho : Only (fun q => q = g) wr (wr.setCell ⟨g, 1, none⟩ (.int .i64 n)) := Only.set _ wr g 1 _ rfl
  refine ⟨h.rs.only ho (fun e => h.nr e.symm), ?_, cell_same h.c1, ?_, ?_, fun k => frozen_set.trans (h.ff k), h.own.only ho (fun k e s => h.vg (by rw [e, s])), h.nr, h.vr, h.vg, h.gw, h.vw, h.only.then ho (fun q hq e => by have := h.gw; omega)⟩
  · rw [cell_other (off_ne (by omega))]; exact h.c0
  · rw [cell_other (off_ne (by omega))]; exact h.c2
  · rw [cell_other (off_ne (by omega))]; exact h.c3
theorem SrT.s2 {w wr : World} {rp g : Nat} {x y z : Int} {v : Value} {K : List Tr} {s : Option (List Nat)} (h : SrT w wr rp g x y z v K s) (n : Int) : SrT w (wr.setCell ⟨g, 2, none⟩ (.int .i64 n)) rp g x y n v K s := by
  have ho : Only (fun q => q = g) wr (wr.setCell ⟨g, 2, none⟩ (.int .i64 n)) := Only.set _ wr g 2 _ rfl
  refine ⟨h.rs.only ho (fun e => h.nr e.symm), ?_, ?_, cell_same h.c2, ?_, fun k => frozen_set.trans (h.ff k), h.own.only ho (fun k e s => h.vg (by rw [e, s])), h.nr, h.vr, h.vg, h.gw, h.vw, h.only.then ho (fun q hq e => by have := h.gw; omega)⟩
  · rw [cell_other (off_ne (by omega))]; exact h.c0
  · rw [cell_other (off_ne (by omega))]; exact h.c1
  · rw [cell_other (off_ne (by omega))]; exact h.c3
/-- a cell of another box -/
theorem SrT.far {w wr : World} {rp g q j : Nat} {x y z : Int} {v u : Value} {K : List Tr} {s : Option (List Nat)} (h : SrT w wr rp g x y z v K s) (hq : q ≠ rp ∧ q ≠ g ∧ v.ownBlock ≠ some q ∧ w.heap.size ≤ q) : SrT w (wr.setCell ⟨q, j, none⟩ u) rp g x y z v K s := by
  have ho : Only (fun k => k = q) wr (wr.setCell ⟨q, j, none⟩ u) := Only.set _ wr q j u rfl
  have hg : ¬ g = q := fun e => hq.2.1 e.symm
  exact ⟨h.rs.only ho (fun e => hq.1 e.symm), ho.cell' h.c0 hg, ho.cell' h.c1 hg, ho.cell' h.c2 hg, ho.cell' h.c3 hg, fun k => (ho.frozen (p := ⟨g, k, none⟩) h.lt hg).trans (h.ff k), h.own.only ho (fun k e s => hq.2.2.1 (by rw [e, s])), h.nr, h.vr, h.vg, h.gw, h.vw, h.only.then ho (fun k hk e => by have := hq.2.2.2; omega)⟩
theorem SrT.new {w wr : World} {rp g q : Nat} {x y z : Int} {v : Value} {K : List Tr} {s : Option (List Nat)} (h : SrT w wr rp g x y z v K s) (hq : q = wr.heap.size) : q ≠ rp ∧ q ≠ g ∧ v.ownBlock ≠ some q ∧ w.heap.size ≤ q := by
  have h1 := RR.lt h.rs
  have h2 := h.lt
  have h3 := h.only.size
  exact ⟨by omega, by omega, fun e => by have := h.own.lt e; omega, by omega⟩
/-- what take answers -/
def TakeR (w : World) (rp : Nat) (s : Option (List Nat)) (e : Ending) (w' : World) : Prop := ∃ v K, e = .returned (.agg #[.int .i64 (rdT s).1.g, .int .i64 (rdT s).1.m, .int .i64 (rdT s).1.b, v]) ∧ OwnT w' v K ∧ ((rdT s).2 = none ∨ K = (rdT s).1.ts) ∧ (∀ x ∈ K, TrIn x) ∧ K.length ≤ 6 ∧ (∀ k, v.ownBlock = some k → w.heap.size ≤ k) ∧ RR w' rp (rdT s).2 ∧ Only (fun q => q = rp) w w'
set_option maxRecDepth 100000 in
set_option maxHeartbeats 8000000 in
theorem rtake_any (rp : Nat) (s : Option (List Nat)) (w : World) (h : RR w rp s) : Calls Try.prog 32 #[.pointer (some ⟨rp, 0, none⟩)] w (TakeR w rp s) := by
  have HS0 : Hid (SOk (t4 s)) := Lib.hid (SOk.t4 h.sok)
  obtain ⟨na, hna⟩ : ∃ x, x = (tfw.u40 s).1 := ⟨_, rfl⟩
  obtain ⟨nb, hnb⟩ : ∃ x, x = (tfw.u40 (tfw.u40 s).2).1 := ⟨_, rfl⟩
  obtain ⟨nc, hnc⟩ : ∃ x, x = (tfw.u40 (tfw.u40 (tfw.u40 s).2).2).1 := ⟨_, rfl⟩
  obtain ⟨n, hn⟩ : ∃ x, x = tn s := ⟨_, rfl⟩
  have hn6 : n ≤ 6 := by rw [hn]; exact tn_bd h.sok
  have HNA : Hid ((rdT s).1.g = (na : Int) ∧ (rdT s).1.m = (nb : Int) ∧ (rdT s).1.b = (nc : Int) ∧ (rdT s).1.ts = (rdTs n (t4 s)).1 ∧ (rdT s).2 = (rdTs n (t4 s)).2) := Lib.hid (by rw [hna, hnb, hnc, hn]; exact ⟨rfl, rfl, rfl, rfl, rfl⟩)
  have HN1 : Hid ((uS 1099511627776 s).1 = na ∧ (uS 1099511627776 (tfw.u40 s).2).1 = nb ∧ (uS 1099511627776 (tfw.u40 (tfw.u40 s).2).2).1 = nc ∧ (uS 6 (tfw.u40 (tfw.u40 (tfw.u40 s).2).2).2).1 = n) := Lib.hid ⟨hna.symm, hnb.symm, hnc.symm, hn.symm⟩
  clear hna hnb hnc hn
  obtain ⟨w1, hw1⟩ : ∃ x, x = w.alloc (.cells #[.int .i64 0, .int .i64 0, .int .i64 0, .slice none 0 0] 24) := ⟨_, rfl⟩
  obtain ⟨g2, hg2⟩ : ∃ x, x = w.heap.size := ⟨_, rfl⟩
  have hal1 : Only (fun _ => False) w w1 := by rw [hw1]; exact (Only.refl _ _).alloc _
  have HQ2 : Hid (w1.cell? ⟨g2, 0, none⟩ = some (.int .i64 0) ∧ w1.cell? ⟨g2, 1, none⟩ = some (.int .i64 0) ∧ w1.cell? ⟨g2, 2, none⟩ = some (.int .i64 0) ∧ w1.cell? ⟨g2, 3, none⟩ = some (.slice none 0 0) ∧ ∀ k, w1.frozen? ⟨g2, k, none⟩ = false) := Lib.hid (by
    rw [hw1]
    exact ⟨alloc_new w _ _ g2 0 _ hg2 rfl, alloc_new w _ _ g2 1 _ hg2 rfl, alloc_new w _ _ g2 2 _ hg2 rfl, alloc_new w _ _ g2 3 _ hg2 rfl, fun k => alloc_froz w _ _ g2 k hg2⟩)
  have HR1 := Lib.hid (h.only hal1 (fun f => f))
  have HRP : Hid (rp < w.heap.size) := Lib.hid (RR.lt h)
  have HG2 : Hid (g2 = w.heap.size) := Lib.hid hg2
  have HO0 := Lib.hid hal1
  clear h hal1
  go_enter Try.func32, Try.ntmps32
  go_upto_region 1 with fail
  simp only [← hw1, ← hg2]
  clear hw1 hg2
  go_wp2_with fail
  refine (ruint_s rp 1099511627776 s w1 HR1.out (by omega)).mono ?_
  rintro _ w2 ⟨rfl, hrs, ho⟩
  have HR2 := Lib.hid hrs
  have HP2 : Hid (Only (fun q => q = rp) w1 w2) := Lib.hid ho
  clear hrs ho HR1
  rw [HN1.out.1]
  go_upto_region 2 with fail
  obtain ⟨w3, hw3⟩ : ∃ x, x = w2.alloc (.cells #[.int .i64 na, .int .i64 0, .int .i64 0, .slice none 0 0] 24) := ⟨_, rfl⟩
  obtain ⟨g, hg⟩ : ∃ x, x = w2.heap.size := ⟨_, rfl⟩
  have hal5 : Only (fun _ => False) w2 w3 := by rw [hw3]; exact (Only.refl _ _).alloc _
  have HST3 : Hid (SrT w1 w3 rp g (na : Int) 0 0 (.slice none 0 0) [] (tfw.u40 s).2) := Lib.hid (by
    have := HP2.out.size
    have := RR.lt HR2.out
    refine ⟨HR2.out.only hal5 (fun f => f), ?_, ?_, ?_, ?_, ?_, OwnT.nil _, by omega, by simp [Value.ownBlock], by simp [Value.ownBlock], by omega, fun q e => by simp [Value.ownBlock] at e, HP2.out.trans (hal5.mono (fun _ _ f => f.elim))⟩
    · rw [hw3]; exact alloc_new w2 _ _ g 0 _ hg rfl
    · rw [hw3]; exact alloc_new w2 _ _ g 1 _ hg rfl
    · rw [hw3]; exact alloc_new w2 _ _ g 2 _ hg rfl
    · rw [hw3]; exact alloc_new w2 _ _ g 3 _ hg rfl
    · intro k; rw [hw3]; exact alloc_froz w2 _ _ g k hg)
  have HNR : Hid (¬ g2 = rp) := Lib.hid (by have := HRP.out; have := HG2.out; omega)
  simp only [← hw3, ← hg]
  clear hw3 hg hal5 HR2 HP2
  go_wp2_with fail
  refine (ruint_s rp 1099511627776 (tfw.u40 s).2 w3 HST3.out.rs (by omega)).mono ?_
  rintro _ w4 ⟨rfl, hrs, ho⟩
  have HST4 := Lib.hid (HST3.out.rd hrs ho)
  clear hrs ho HST3
  rw [HN1.out.2.1]
  have y1 := HST4.out.c1
  have y2 := HST4.out.ff 1
  go_upto_region 3 with fail
  obtain ⟨w5, hw5⟩ : ∃ x, x = w4.setCell ⟨g, 1, none⟩ (.int .i64 nb) := ⟨_, rfl⟩
  have HST5 := Lib.hid (HST4.out.s1 (nb : Int))
  rw [← hw5] at HST5
  simp only [← hw5]
  clear hw5 y1 y2 HST4
  go_wp2_with fail
  refine (ruint_s rp 1099511627776 (tfw.u40 (tfw.u40 s).2).2 w5 HST5.out.rs (by omega)).mono ?_
  rintro _ w6 ⟨rfl, hrs, ho⟩
  have HST6 := Lib.hid (HST5.out.rd hrs ho)
  clear hrs ho HST5
  rw [HN1.out.2.2.1]
  have y1 := HST6.out.c2
  have y2 := HST6.out.ff 2
  go_upto_region 4 with fail
  obtain ⟨w7, hw7⟩ : ∃ x, x = w6.setCell ⟨g, 2, none⟩ (.int .i64 nc) := ⟨_, rfl⟩
  have HST7 := Lib.hid (HST6.out.s2 (nc : Int))
  rw [← hw7] at HST7
  simp only [← hw7]
  clear hw7 y1 y2 HST6
  go_wp2_with fail
  refine (ruint_s rp 6 (tfw.u40 (tfw.u40 (tfw.u40 s).2).2).2 w7 HST7.out.rs (by omega)).mono ?_
  rintro _ w8 ⟨rfl, hrs, ho⟩
  have HST8 : Hid (SrT w1 w8 rp g (rdT s).1.g (rdT s).1.m (rdT s).1.b (.slice none 0 0) (rdTs 0 (t4 s)).1 (rdTs 0 (t4 s)).2) := Lib.hid (by rw [HNA.out.1, HNA.out.2.1, HNA.out.2.2.1]; exact HST7.out.rd hrs ho)
  clear hrs ho HST7
  rw [HN1.out.2.2.2]
  go_wp2_with fail
  go_loopw [5] (fun iv wr => ∃ (i : Nat) (v : Value), i ≤ n ∧ iv = .int .i64 (i : Int) ∧ Hid (SrT w1 wr rp g (rdT s).1.g (rdT s).1.m (rdT s).1.b v (rdTs i (t4 s)).1 (rdTs i (t4 s)).2)) (fun iv _ => n - (intOf iv).toNat)
  case atStart => exact ⟨0, _, by omega, rfl, HST8⟩
  case round =>
    clear HST8
    obtain ⟨i, v, hi, rfl, HST⟩ := hrel
    rename World => wr
    have hi0 : (0 : Int) ≤ i := by omega
    have hi64 : (i : Int) ≤ 64 := by omega
    by_cases h8 : i < n ∧ (rdTs i (t4 s)).2 ≠ none
    · obtain ⟨h8, hne⟩ := h8
      have hin : (i : Int) < n := by omega
      obtain ⟨si, hsi⟩ : ∃ x, x = (rdTs i (t4 s)).2 := ⟨_, rfl⟩
      have z1 : wr.cell? ⟨rp, 1, none⟩ = some (.int .i64 0) := by
        obtain ⟨l9, e9, r9, r10, r11⟩ := HST.out.rs
        obtain ⟨l8, hl8⟩ := Option.ne_none_iff_exists'.1 hne
        rw [hl8] at r11
        obtain ⟨rfl, -⟩ := r11
        exact r9.c1
      obtain ⟨xu, hxu⟩ : ∃ x : Int, ((tfw.u40 si).1 : Int) = x := ⟨_, rfl⟩
      obtain ⟨xp, hxp⟩ : ∃ x : Int, ((tfw.u40 (tfw.u40 si).2).1 : Int) = x := ⟨_, rfl⟩
      have HU1 : Hid (∀ w', RR w' rp (rdTs i (t4 s)).2 → Calls Try.prog 31 #[.pointer (some ⟨rp, 0, none⟩), .int .i64 1099511627776] w' (Aft rp w' (.int .i64 xu) (tfw.u40 si).2)) := Lib.hid (fun w' h => by rw [← hsi] at h; have := ruint_s rp 1099511627776 si w' h (by omega); rwa [show ((uS 1099511627776 si).1 : Int) = xu from hxu] at this)
      have HU2 : Hid (∀ w', RR w' rp (tfw.u40 si).2 → Calls Try.prog 31 #[.pointer (some ⟨rp, 0, none⟩), .int .i64 1099511627776] w' (Aft rp w' (.int .i64 xp) (rdTs (i + 1) (t4 s)).2)) := Lib.hid (fun w' h => by
        have := ruint_s rp 1099511627776 (tfw.u40 si).2 w' h (by omega)
        rw [show ((uS 1099511627776 (tfw.u40 si).2).1 : Int) = xp from hxp] at this
        have e : (rdTs (i + 1) (t4 s)).2 = (uS 1099511627776 (tfw.u40 si).2).2 := by rw [hsi]; rfl
        rw [e]
        exact this)
      have HLE : Hid ((rdTs (i + 1) (t4 s)).1 = (rdTs i (t4 s)).1 ++ [⟨xu, xp⟩]) := Lib.hid (by
        show (rdTs i (t4 s)).1 ++ [(rdTr (rdTs i (t4 s)).2).1] = _
        rw [← hsi, ← hxu, ← hxp]; rfl)
      have HKL9 : Hid ((rdTs i (t4 s)).1.length ≤ 1000) := Lib.hid (by rw [rdTs_len]; omega)
      clear hsi hxu hxp hne
      go_wp2_with fail
      refine (HU1.out wr HST.out.rs).mono ?_
      rintro _ wa ⟨rfl, hrs, ho⟩
      have HSA := Lib.hid (HST.out.rd hrs ho)
      clear hrs ho z1 HU1 HST
      go_upto_region 9 with fail
      obtain ⟨wb, hwb⟩ : ∃ x, x = wa.alloc (.cells #[.int .i64 xu, .int .i64 0] 74) := ⟨_, rfl⟩
      obtain ⟨q, hq⟩ : ∃ x, x = wa.heap.size := ⟨_, rfl⟩
      have q0 : wb.cell? ⟨q, 0, none⟩ = some (.int .i64 xu) := by rw [hwb]; exact alloc_new wa _ _ q 0 _ hq rfl
      have q1 : wb.cell? ⟨q, 1, none⟩ = some (.int .i64 0) := by rw [hwb]; exact alloc_new wa _ _ q 1 _ hq rfl
      have qf : wb.frozen? ⟨q, 1, none⟩ = false := by rw [hwb]; exact alloc_froz wa _ _ q 1 hq
      have HQN := Lib.hid (HSA.out.new hq)
      have HSB := Lib.hid (HSA.out.quiet (w' := wb) (by rw [hwb]; exact (Only.refl _ _).alloc _))
      simp only [← hwb, ← hq]
      clear hwb hq HSA
      go_wp2_with fail
      refine (HU2.out wb HSB.out.rs).mono ?_
      rintro _ wc ⟨rfl, hrs, ho⟩
      have HSC := Lib.hid (HSB.out.rd hrs ho)
      have hql := World.block_lt_of_cell? wb _ q0
      replace q0 := ho.cell' q0 HQN.out.1
      replace q1 := ho.cell' q1 HQN.out.1
      replace qf := (ho.frozen (p := ⟨q, 1, none⟩) hql HQN.out.1).trans qf
      clear hrs ho HSB HU2 hql
      go_upto_region 10 with fail
      obtain ⟨wd, hwd⟩ : ∃ x, x = wc.setCell ⟨q, 1, none⟩ (.int .i64 xp) := ⟨_, rfl⟩
      have HSD := Lib.hid (HSC.out.far (j := 1) (u := .int .i64 xp) HQN.out)
      rw [← hwd] at HSD
      have p0 : wd.cell? ⟨q, 0, none⟩ = some (.int .i64 xu) := by rw [hwd, cell_other (off_ne (by omega))]; exact q0
      have p1 : wd.cell? ⟨q, 1, none⟩ = some (.int .i64 xp) := by rw [hwd]; exact cell_same q1
      simp only [← hwd]
      clear hwd q0 q1 qf HSC HQN
      obtain ⟨W0, hW0⟩ : ∃ x, x = wd.alloc (.cells #[.int .i64 xu, .int .i64 xp] 74) := ⟨_, rfl⟩
      have HNW : Hid (∀ j u, (tv [(⟨xu, xp⟩ : Tr)])[j]? = some u → W0.cell? ((Addr.mk wd.heap.size 0 none).add j) = some u) := Lib.hid (by rw [hW0]; exact news_tr (x := ⟨xu, xp⟩) rfl _)
      have HSE := Lib.hid (HSD.out.quiet (w' := W0) (by rw [hW0]; exact (Only.refl _ _).alloc _))
      have HSZ : Hid (W0.heap.size = wd.heap.size + 1) := Lib.hid (by rw [hW0]; exact size_alloc _ _)
      have HW0 := Lib.hid hW0
      have k3 := HSD.out.c3
      clear HSD
      go_wp2_with (at_builtin; rw [← hW0]; refine append_tr rfl _ _ rfl v (rdTs i (t4 s)).1 rfl HSE.out.own wd.heap.size _ ⟨xu, xp⟩ rfl HNW.out HKL9.out ?_)
      clear p0 p1 k3 hW0
      intro v' W4 hown hgrow hkk
      rw [← HW0.out] at hgrow
      obtain ⟨gq, bc, hvf, -, -, hbc, -⟩ := owns_form hown (by simp)
      generalize hnl : ((rdTs i (t4 s)).1 ++ [(⟨xu, xp⟩ : Tr)]).length = nl at hvf hbc
      subst hvf
      clear hnl
      have HOW9 : Hid (OwnT W4 (.slice (some ⟨gq, 0, none⟩) nl bc : Value) (rdTs (i + 1) (t4 s)).1) := Lib.hid (by rw [HLE.out]; exact hown)
      have HKK : Hid (∀ k, (.slice (some ⟨gq, 0, none⟩) nl bc : Value).ownBlock = some k → v.ownBlock = some k ∨ W0.heap.size ≤ k) := Lib.hid (fun k e => (hkk k e).imp (fun x => x) (fun e2 => by have := HSZ.out; omega))
      have HGV := Lib.hid (Only.of_grown hgrow)
      have d2 : W4.cell? ⟨g, 3, none⟩ = some v := HGV.out.cell' HSE.out.c3 HSE.out.vg
      have f2 : W4.frozen? ⟨g, 3, none⟩ = false := (HGV.out.frozen (p := ⟨g, 3, none⟩) HSE.out.lt HSE.out.vg).trans (HSE.out.ff 3)
      clear hown hgrow hkk HNW
      go_wp2_with fail
      obtain ⟨w8, hw8⟩ : ∃ x, x = W4.setCell ⟨g, 3, none⟩ (.slice (some ⟨gq, 0, none⟩) nl bc : Value) := ⟨_, rfl⟩
      have hsv : Only (fun x => x = g) W4 w8 := by rw [hw8]; exact Only.set _ _ g 3 _ rfl
      have HS8 : Hid (SrT w1 w8 rp g (rdT s).1.g (rdT s).1.m (rdT s).1.b (.slice (some ⟨gq, 0, none⟩) nl bc : Value) (rdTs (i + 1) (t4 s)).1 (rdTs (i + 1) (t4 s)).2) := Lib.hid (by
        have a := HSE.out
        have hvg : (.slice (some ⟨gq, 0, none⟩) nl bc : Value).ownBlock ≠ some g := fun e => (HKK.out g e).elim a.vg (fun e => by have := a.lt; omega)
        refine ⟨(a.rs.only HGV.out a.vr).only hsv (fun e => a.nr e.symm), ?_, ?_, ?_, ?_, ?_, HOW9.out.only hsv (fun k e e2 => hvg (by rw [e, e2])), a.nr, fun e => (HKK.out rp e).elim a.vr (fun e => by have := RR.lt a.rs; omega), hvg, a.gw, fun k e => (HKK.out k e).elim (a.vw k) (fun e => by have := a.only.size; omega), ?_⟩
        · rw [hw8, cell_other (off_ne (by omega))]; exact HGV.out.cell' a.c0 a.vg
        · rw [hw8, cell_other (off_ne (by omega))]; exact HGV.out.cell' a.c1 a.vg
        · rw [hw8, cell_other (off_ne (by omega))]; exact HGV.out.cell' a.c2 a.vg
        · rw [hw8]; exact cell_same d2
        · intro k; rw [hw8]; exact frozen_set.trans ((HGV.out.frozen (p := ⟨g, k, none⟩) a.lt a.vg).trans (a.ff k))
        · exact (a.only.then HGV.out (fun q hq e => by have := a.vw q e; omega)).then hsv (fun q hq e => by have := a.gw; omega))
      rw [← hw8]
      clear hw8 d2 f2 HOW9 HKK HGV hsv HSE HKL9 HSZ HLE HW0
      go_roundw
      case rel => exact ⟨i + 1, _, by omega, by go_num, HS8⟩
      case measure => simp [intOf]; omega
    · have hend : i = n ∨ (rdTs i (t4 s)).2 = none := by
        by_cases e : i = n
        · exact .inl e
        · refine .inr ?_
          cases hs : (rdTs i (t4 s)).2 with
          | none => rfl
          | some l => exact absurd ⟨by omega, by rw [hs]; simp⟩ h8
      have HEE : Hid ((rdTs i (t4 s)).2 = (rdTs n (t4 s)).2 ∧ ((rdTs n (t4 s)).2 = none ∨ (rdTs i (t4 s)).1 = (rdTs n (t4 s)).1) ∧ (∀ x ∈ (rdTs i (t4 s)).1, TrIn x) ∧ (rdTs i (t4 s)).1.length ≤ 6) := Lib.hid (by
        refine ⟨?_, ?_, ts_in HS0.out i, by rw [rdTs_len]; omega⟩
        · rcases hend with e | e
          · rw [e]
          · rw [e, rdTs_none n i _ e hi]
        · rcases hend with e | e
          · exact .inr (by rw [e])
          · exact .inl (rdTs_none n i _ e hi))
      by_cases hin : i = n
      · have hnl : ¬ (i : Int) < n := by omega
        clear hend h8
        have a := HST.out
        obtain ⟨r0, r1, r2, r3, rf⟩ := id HQ2.out
        have hg2 := World.block_lt_of_cell? w1 _ r0
        replace r0 := a.only.cell' r0 HNR.out
        replace r1 := a.only.cell' r1 HNR.out
        replace r2 := a.only.cell' r2 HNR.out
        replace r3 := a.only.cell' r3 HNR.out
        have f0 := (a.only.frozen (p := ⟨g2, 0, none⟩) hg2 HNR.out).trans (rf 0)
        have f1 := (a.only.frozen (p := ⟨g2, 1, none⟩) hg2 HNR.out).trans (rf 1)
        have f2 := (a.only.frozen (p := ⟨g2, 2, none⟩) hg2 HNR.out).trans (rf 2)
        have f3 := (a.only.frozen (p := ⟨g2, 3, none⟩) hg2 HNR.out).trans (rf 3)
        have e0 := a.c0
        have e1 := a.c1
        have e2 := a.c2
        have e3 := a.c3
        obtain ⟨ao, co, hvf⟩ := a.own.form
        generalize hnl : (rdTs i (t4 s)).1.length = nl at hvf
        clear hnl
        subst hvf
        have HGG : Hid (g2 < w1.heap.size) := Lib.hid hg2
        clear a rf hg2
        obtain ⟨G, hG⟩ : ∃ x, x = (rdT s).1.g := ⟨_, rfl⟩
        obtain ⟨M, hM⟩ : ∃ x, x = (rdT s).1.m := ⟨_, rfl⟩
        obtain ⟨Bk, hBk⟩ : ∃ x, x = (rdT s).1.b := ⟨_, rfl⟩
        rw [← hG] at e0
        rw [← hM] at e1
        rw [← hBk] at e2
        have HV := Lib.hid (And.intro hG (And.intro hM hBk))
        clear hG hM hBk
        go_wp2_with fail
        obtain ⟨wf, hwf⟩ : ∃ x, x = (((wr.setCell ⟨g2, 0, none⟩ (.int .i64 G)).setCell ⟨g2, 1, none⟩ (.int .i64 M)).setCell ⟨g2, 2, none⟩ (.int .i64 Bk)).setCell ⟨g2, 3, none⟩ (.slice ao nl co) := ⟨_, rfl⟩
        rw [← hwf]
        have hset : Only (fun q => q = g2) wr wf := by
          rw [hwf]
          exact (((Only.set (fun q => q = g2) _ g2 0 _ rfl).trans (Only.set (fun q => q = g2) _ g2 1 _ rfl)).trans (Only.set (fun q => q = g2) _ g2 2 _ rfl)).trans (Only.set (fun q => q = g2) _ g2 3 _ rfl)
        have z0 : wf.cell? ⟨g2, 0, none⟩ = some (.int .i64 G) := by
          rw [hwf, cell_other (off_ne (by omega)), cell_other (off_ne (by omega)), cell_other (off_ne (by omega))]
          exact cell_same r0
        have z1 : wf.cell? ⟨g2, 1, none⟩ = some (.int .i64 M) := by
          rw [hwf, cell_other (off_ne (by omega)), cell_other (off_ne (by omega))]
          exact cell_same (by rw [cell_other (off_ne (by omega))]; exact r1)
        have z2 : wf.cell? ⟨g2, 2, none⟩ = some (.int .i64 Bk) := by
          rw [hwf, cell_other (off_ne (by omega))]
          exact cell_same (by rw [cell_other (off_ne (by omega)), cell_other (off_ne (by omega))]; exact r2)
        have z3 : wf.cell? ⟨g2, 3, none⟩ = some (.slice ao nl co) := by
          rw [hwf]
          exact cell_same (by rw [cell_other (off_ne (by omega)), cell_other (off_ne (by omega)), cell_other (off_ne (by omega))]; exact r3)
        clear hwf r0 r1 r2 r3 e0 e1 e2 e3 f0 f1 f2 f3
        have a := HST.out
        refine bodyPost_ret (v := .agg #[.int .i64 G, .int .i64 M, .int .i64 Bk, .slice ao nl co]) (by simp [results, Try.results32, go_sem, z0, z1, z2, z3]) rfl ⟨_, (rdTs i (t4 s)).1, by rw [HV.out.1, HV.out.2.1, HV.out.2.2], ?_, ?_, HEE.out.2.2.1, HEE.out.2.2.2, ?_, ?_, ?_⟩
        · exact a.own.only hset (fun k e e2 => by have := a.vw k e; have := HGG.out; omega)
        · rw [HNA.out.2.2.2.1, HNA.out.2.2.2.2]
          exact HEE.out.2.1
        · intro k e
          have := a.vw k e
          have := HO0.out.size
          omega
        · rw [HNA.out.2.2.2.2, ← HEE.out.1]
          exact a.rs.only hset (fun e => HNR.out e.symm)
        · exact ((HO0.out.mono (fun _ _ f => f.elim)).trans a.only).then hset (fun q hq e => by have := HG2.out; omega)
      · have hin2 : (i : Int) < n := by omega
        have hsn : (rdTs i (t4 s)).2 = none := hend.resolve_left hin
        obtain ⟨e9, z1, he9⟩ : ∃ e9, wr.cell? ⟨rp, 1, none⟩ = some (.int .i64 e9) ∧ (e9 == 0) = false := by
          obtain ⟨l9, e9, r9, r10, r11⟩ := HST.out.rs
          rw [hsn] at r11
          have r12 : e9 ≠ 0 := r11
          exact ⟨e9, r9.c1, by simpa using r12⟩
        clear hend h8 hsn
        have a := HST.out
        obtain ⟨r0, r1, r2, r3, rf⟩ := id HQ2.out
        have hg2 := World.block_lt_of_cell? w1 _ r0
        replace r0 := a.only.cell' r0 HNR.out
        replace r1 := a.only.cell' r1 HNR.out
        replace r2 := a.only.cell' r2 HNR.out
        replace r3 := a.only.cell' r3 HNR.out
        have f0 := (a.only.frozen (p := ⟨g2, 0, none⟩) hg2 HNR.out).trans (rf 0)
        have f1 := (a.only.frozen (p := ⟨g2, 1, none⟩) hg2 HNR.out).trans (rf 1)
        have f2 := (a.only.frozen (p := ⟨g2, 2, none⟩) hg2 HNR.out).trans (rf 2)
        have f3 := (a.only.frozen (p := ⟨g2, 3, none⟩) hg2 HNR.out).trans (rf 3)
        have e0 := a.c0
        have e1 := a.c1
        have e2 := a.c2
        have e3 := a.c3
        obtain ⟨ao, co, hvf⟩ := a.own.form
        generalize hnl : (rdTs i (t4 s)).1.length = nl at hvf
        clear hnl
        subst hvf
        have HGG : Hid (g2 < w1.heap.size) := Lib.hid hg2
        clear a rf hg2
        obtain ⟨G, hG⟩ : ∃ x, x = (rdT s).1.g := ⟨_, rfl⟩
        obtain ⟨M, hM⟩ : ∃ x, x = (rdT s).1.m := ⟨_, rfl⟩
        obtain ⟨Bk, hBk⟩ : ∃ x, x = (rdT s).1.b := ⟨_, rfl⟩
        rw [← hG] at e0
        rw [← hM] at e1
        rw [← hBk] at e2
        have HV := Lib.hid (And.intro hG (And.intro hM hBk))
        clear hG hM hBk
        go_wp2_with fail
        obtain ⟨wf, hwf⟩ : ∃ x, x = (((wr.setCell ⟨g2, 0, none⟩ (.int .i64 G)).setCell ⟨g2, 1, none⟩ (.int .i64 M)).setCell ⟨g2, 2, none⟩ (.int .i64 Bk)).setCell ⟨g2, 3, none⟩ (.slice ao nl co) := ⟨_, rfl⟩
        rw [← hwf]
        have hset : Only (fun q => q = g2) wr wf := by
          rw [hwf]
          exact (((Only.set (fun q => q = g2) _ g2 0 _ rfl).trans (Only.set (fun q => q = g2) _ g2 1 _ rfl)).trans (Only.set (fun q => q = g2) _ g2 2 _ rfl)).trans (Only.set (fun q => q = g2) _ g2 3 _ rfl)
        have z0 : wf.cell? ⟨g2, 0, none⟩ = some (.int .i64 G) := by
          rw [hwf, cell_other (off_ne (by omega)), cell_other (off_ne (by omega)), cell_other (off_ne (by omega))]
          exact cell_same r0
        have z1 : wf.cell? ⟨g2, 1, none⟩ = some (.int .i64 M) := by
          rw [hwf, cell_other (off_ne (by omega)), cell_other (off_ne (by omega))]
          exact cell_same (by rw [cell_other (off_ne (by omega))]; exact r1)
        have z2 : wf.cell? ⟨g2, 2, none⟩ = some (.int .i64 Bk) := by
          rw [hwf, cell_other (off_ne (by omega))]
          exact cell_same (by rw [cell_other (off_ne (by omega)), cell_other (off_ne (by omega))]; exact r2)
        have z3 : wf.cell? ⟨g2, 3, none⟩ = some (.slice ao nl co) := by
          rw [hwf]
          exact cell_same (by rw [cell_other (off_ne (by omega)), cell_other (off_ne (by omega)), cell_other (off_ne (by omega))]; exact r3)
        clear hwf r0 r1 r2 r3 e0 e1 e2 e3 f0 f1 f2 f3
        have a := HST.out
        refine bodyPost_ret (v := .agg #[.int .i64 G, .int .i64 M, .int .i64 Bk, .slice ao nl co]) (by simp [results, Try.results32, go_sem, z0, z1, z2, z3]) rfl ⟨_, (rdTs i (t4 s)).1, by rw [HV.out.1, HV.out.2.1, HV.out.2.2], ?_, ?_, HEE.out.2.2.1, HEE.out.2.2.2, ?_, ?_, ?_⟩
        · exact a.own.only hset (fun k e e2 => by have := a.vw k e; have := HGG.out; omega)
        · rw [HNA.out.2.2.2.1, HNA.out.2.2.2.2]
          exact HEE.out.2.1
        · intro k e
          have := a.vw k e
          have := HO0.out.size
          omega
        · rw [HNA.out.2.2.2.2, ← HEE.out.1]
          exact a.rs.only hset (fun e => HNR.out e.symm)
        · exact ((HO0.out.mono (fun _ _ f => f.elim)).trans a.only).then hset (fun q hq e => by have := HG2.out; omega)
end Go.Proofs.Ytfdaokjigjpomaa.tfw
namespace Go.Proofs.Ytfdaokjigjpomaa.tfw
open Go.RowKit mem codm codp codw tirm tirw rdr
set_option linter.unusedVariables false

theorem PlanAt.setA {w : World} {q : Nat} {D F T G1 M1 B1 G2 M2 B2 : Int} {a1 a2 : Option Addr} {n1 n2 c1 c2 : Nat} (h : PlanAt w q D F T G1 M1 B1 G2 M2 B2 a1 a2 n1 n2 c1 c2) (G M B : Int) (a : Option Addr) (n c : Nat) : PlanAt ((((w.setCell ⟨q, 3, none⟩ (.int .i64 G)).setCell ⟨q, 4, none⟩ (.int .i64 M)).setCell ⟨q, 5, none⟩ (.int .i64 B)).setCell ⟨q, 6, none⟩ (.slice a n c)) q D F T G M B G2 M2 B2 a a2 n n2 c c2 ∧ Only (fun x => x = q) w ((((w.setCell ⟨q, 3, none⟩ (.int .i64 G)).setCell ⟨q, 4, none⟩ (.int .i64 M)).setCell ⟨q, 5, none⟩ (.int .i64 B)).setCell ⟨q, 6, none⟩ (.slice a n c)) := by
  obtain ⟨h0, h1, h2, h3, h4, h5, h6, h7, h8, h9, h10⟩ := h
  refine ⟨⟨?_, ?_, ?_, ?_, ?_, ?_, ?_, ?_, ?_, ?_, ?_⟩, ?_⟩
  · rw [cell_other (off_ne (by omega)), cell_other (off_ne (by omega)), cell_other (off_ne (by omega)), cell_other (off_ne (by omega))]; exact h0
  · rw [cell_other (off_ne (by omega)), cell_other (off_ne (by omega)), cell_other (off_ne (by omega)), cell_other (off_ne (by omega))]; exact h1
  · rw [cell_other (off_ne (by omega)), cell_other (off_ne (by omega)), cell_other (off_ne (by omega)), cell_other (off_ne (by omega))]; exact h2
  · rw [cell_other (off_ne (by omega)), cell_other (off_ne (by omega)), cell_other (off_ne (by omega))]; exact cell_same (by exact h3)
  · rw [cell_other (off_ne (by omega)), cell_other (off_ne (by omega))]; exact cell_same (by rw [cell_other (off_ne (by omega))]; exact h4)
  · rw [cell_other (off_ne (by omega))]; exact cell_same (by rw [cell_other (off_ne (by omega)), cell_other (off_ne (by omega))]; exact h5)
  · exact cell_same (by rw [cell_other (off_ne (by omega)), cell_other (off_ne (by omega)), cell_other (off_ne (by omega))]; exact h6)
  · rw [cell_other (off_ne (by omega)), cell_other (off_ne (by omega)), cell_other (off_ne (by omega)), cell_other (off_ne (by omega))]; exact h7
  · rw [cell_other (off_ne (by omega)), cell_other (off_ne (by omega)), cell_other (off_ne (by omega)), cell_other (off_ne (by omega))]; exact h8
  · rw [cell_other (off_ne (by omega)), cell_other (off_ne (by omega)), cell_other (off_ne (by omega)), cell_other (off_ne (by omega))]; exact h9
  · rw [cell_other (off_ne (by omega)), cell_other (off_ne (by omega)), cell_other (off_ne (by omega)), cell_other (off_ne (by omega))]; exact h10
  · exact (((Only.set (fun x => x = q) _ q 3 _ rfl).trans (Only.set (fun x => x = q) _ q 4 _ rfl)).trans (Only.set (fun x => x = q) _ q 5 _ rfl)).trans (Only.set (fun x => x = q) _ q 6 _ rfl)
theorem PlanAt.setB {w : World} {q : Nat} {D F T G1 M1 B1 G2 M2 B2 : Int} {a1 a2 : Option Addr} {n1 n2 c1 c2 : Nat} (h : PlanAt w q D F T G1 M1 B1 G2 M2 B2 a1 a2 n1 n2 c1 c2) (G M B : Int) (a : Option Addr) (n c : Nat) : PlanAt ((((w.setCell ⟨q, 7, none⟩ (.int .i64 G)).setCell ⟨q, 8, none⟩ (.int .i64 M)).setCell ⟨q, 9, none⟩ (.int .i64 B)).setCell ⟨q, 10, none⟩ (.slice a n c)) q D F T G1 M1 B1 G M B a1 a n1 n c1 c ∧ Only (fun x => x = q) w ((((w.setCell ⟨q, 7, none⟩ (.int .i64 G)).setCell ⟨q, 8, none⟩ (.int .i64 M)).setCell ⟨q, 9, none⟩ (.int .i64 B)).setCell ⟨q, 10, none⟩ (.slice a n c)) := by
  obtain ⟨h0, h1, h2, h3, h4, h5, h6, h7, h8, h9, h10⟩ := h
  refine ⟨⟨?_, ?_, ?_, ?_, ?_, ?_, ?_, ?_, ?_, ?_, ?_⟩, ?_⟩
  · rw [cell_other (off_ne (by omega)), cell_other (off_ne (by omega)), cell_other (off_ne (by omega)), cell_other (off_ne (by omega))]; exact h0
  · rw [cell_other (off_ne (by omega)), cell_other (off_ne (by omega)), cell_other (off_ne (by omega)), cell_other (off_ne (by omega))]; exact h1
  · rw [cell_other (off_ne (by omega)), cell_other (off_ne (by omega)), cell_other (off_ne (by omega)), cell_other (off_ne (by omega))]; exact h2
  · rw [cell_other (off_ne (by omega)), cell_other (off_ne (by omega)), cell_other (off_ne (by omega)), cell_other (off_ne (by omega))]; exact h3
  · rw [cell_other (off_ne (by omega)), cell_other (off_ne (by omega)), cell_other (off_ne (by omega)), cell_other (off_ne (by omega))]; exact h4
  · rw [cell_other (off_ne (by omega)), cell_other (off_ne (by omega)), cell_other (off_ne (by omega)), cell_other (off_ne (by omega))]; exact h5
  · rw [cell_other (off_ne (by omega)), cell_other (off_ne (by omega)), cell_other (off_ne (by omega)), cell_other (off_ne (by omega))]; exact h6
  · rw [cell_other (off_ne (by omega)), cell_other (off_ne (by omega)), cell_other (off_ne (by omega))]; exact cell_same (by exact h7)
  · rw [cell_other (off_ne (by omega)), cell_other (off_ne (by omega))]; exact cell_same (by rw [cell_other (off_ne (by omega))]; exact h8)
  · rw [cell_other (off_ne (by omega))]; exact cell_same (by rw [cell_other (off_ne (by omega)), cell_other (off_ne (by omega))]; exact h9)
  · exact cell_same (by rw [cell_other (off_ne (by omega)), cell_other (off_ne (by omega)), cell_other (off_ne (by omega))]; exact h10)
  · exact (((Only.set (fun x => x = q) _ q 7 _ rfl).trans (Only.set (fun x => x = q) _ q 8 _ rfl)).trans (Only.set (fun x => x = q) _ q 9 _ rfl)).trans (Only.set (fun x => x = q) _ q 10 _ rfl)
theorem PlanAt.setAll {w : World} {q : Nat} {D F T G1 M1 B1 G2 M2 B2 : Int} {a1 a2 : Option Addr} {n1 n2 c1 c2 : Nat} (h : PlanAt w q D F T G1 M1 B1 G2 M2 B2 a1 a2 n1 n2 c1 c2) (D' F' T' G1' M1' B1' G2' M2' B2' : Int) (a1' a2' : Option Addr) (n1' n2' c1' c2' : Nat) : PlanAt (((((((((((w.setCell ⟨q, 0, none⟩ (.int .i64 D')).setCell ⟨q, 1, none⟩ (.int .i64 F')).setCell ⟨q, 2, none⟩ (.int .i64 T')).setCell ⟨q, 3, none⟩ (.int .i64 G1')).setCell ⟨q, 4, none⟩ (.int .i64 M1')).setCell ⟨q, 5, none⟩ (.int .i64 B1')).setCell ⟨q, 6, none⟩ (.slice a1' n1' c1')).setCell ⟨q, 7, none⟩ (.int .i64 G2')).setCell ⟨q, 8, none⟩ (.int .i64 M2')).setCell ⟨q, 9, none⟩ (.int .i64 B2')).setCell ⟨q, 10, none⟩ (.slice a2' n2' c2')) q D' F' T' G1' M1' B1' G2' M2' B2' a1' a2' n1' n2' c1' c2' ∧ Only (fun x => x = q) w (((((((((((w.setCell ⟨q, 0, none⟩ (.int .i64 D')).setCell ⟨q, 1, none⟩ (.int .i64 F')).setCell ⟨q, 2, none⟩ (.int .i64 T')).setCell ⟨q, 3, none⟩ (.int .i64 G1')).setCell ⟨q, 4, none⟩ (.int .i64 M1')).setCell ⟨q, 5, none⟩ (.int .i64 B1')).setCell ⟨q, 6, none⟩ (.slice a1' n1' c1')).setCell ⟨q, 7, none⟩ (.int .i64 G2')).setCell ⟨q, 8, none⟩ (.int .i64 M2')).setCell ⟨q, 9, none⟩ (.int .i64 B2')).setCell ⟨q, 10, none⟩ (.slice a2' n2' c2')) := by
  obtain ⟨h0, h1, h2, h3, h4, h5, h6, h7, h8, h9, h10⟩ := h
  refine ⟨⟨?_, ?_, ?_, ?_, ?_, ?_, ?_, ?_, ?_, ?_, ?_⟩, ?_⟩
  · rw [cell_other (off_ne (by omega)), cell_other (off_ne (by omega)), cell_other (off_ne (by omega)), cell_other (off_ne (by omega)), cell_other (off_ne (by omega)), cell_other (off_ne (by omega)), cell_other (off_ne (by omega)), cell_other (off_ne (by omega)), cell_other (off_ne (by omega)), cell_other (off_ne (by omega))]; exact cell_same (by exact h0)
  · rw [cell_other (off_ne (by omega)), cell_other (off_ne (by omega)), cell_other (off_ne (by omega)), cell_other (off_ne (by omega)), cell_other (off_ne (by omega)), cell_other (off_ne (by omega)), cell_other (off_ne (by omega)), cell_other (off_ne (by omega)), cell_other (off_ne (by omega))]; exact cell_same (by rw [cell_other (off_ne (by omega))]; exact h1)
  · rw [cell_other (off_ne (by omega)), cell_other (off_ne (by omega)), cell_other (off_ne (by omega)), cell_other (off_ne (by omega)), cell_other (off_ne (by omega)), cell_other (off_ne (by omega)), cell_other (off_ne (by omega)), cell_other (off_ne (by omega))]; exact cell_same (by rw [cell_other (off_ne (by omega)), cell_other (off_ne (by omega))]; exact h2)
  · rw [cell_other (off_ne (by omega)), cell_other (off_ne (by omega)), cell_other (off_ne (by omega)), cell_other (off_ne (by omega)), cell_other (off_ne (by omega)), cell_other (off_ne (by omega)), cell_other (off_ne (by omega))]; exact cell_same (by rw [cell_other (off_ne (by omega)), cell_other (off_ne (by omega)), cell_other (off_ne (by omega))]; exact h3)
  · rw [cell_other (off_ne (by omega)), cell_other (off_ne (by omega)), cell_other (off_ne (by omega)), cell_other (off_ne (by omega)), cell_other (off_ne (by omega)), cell_other (off_ne (by omega))]; exact cell_same (by rw [cell_other (off_ne (by omega)), cell_other (off_ne (by omega)), cell_other (off_ne (by omega)), cell_other (off_ne (by omega))]; exact h4)
  · rw [cell_other (off_ne (by omega)), cell_other (off_ne (by omega)), cell_other (off_ne (by omega)), cell_other (off_ne (by omega)), cell_other (off_ne (by omega))]; exact cell_same (by rw [cell_other (off_ne (by omega)), cell_other (off_ne (by omega)), cell_other (off_ne (by omega)), cell_other (off_ne (by omega)), cell_other (off_ne (by omega))]; exact h5)
  · rw [cell_other (off_ne (by omega)), cell_other (off_ne (by omega)), cell_other (off_ne (by omega)), cell_other (off_ne (by omega))]; exact cell_same (by rw [cell_other (off_ne (by omega)), cell_other (off_ne (by omega)), cell_other (off_ne (by omega)), cell_other (off_ne (by omega)), cell_other (off_ne (by omega)), cell_other (off_ne (by omega))]; exact h6)
  · rw [cell_other (off_ne (by omega)), cell_other (off_ne (by omega)), cell_other (off_ne (by omega))]; exact cell_same (by rw [cell_other (off_ne (by omega)), cell_other (off_ne (by omega)), cell_other (off_ne (by omega)), cell_other (off_ne (by omega)), cell_other (off_ne (by omega)), cell_other (off_ne (by omega)), cell_other (off_ne (by omega))]; exact h7)
  · rw [cell_other (off_ne (by omega)), cell_other (off_ne (by omega))]; exact cell_same (by rw [cell_other (off_ne (by omega)), cell_other (off_ne (by omega)), cell_other (off_ne (by omega)), cell_other (off_ne (by omega)), cell_other (off_ne (by omega)), cell_other (off_ne (by omega)), cell_other (off_ne (by omega)), cell_other (off_ne (by omega))]; exact h8)
  · rw [cell_other (off_ne (by omega))]; exact cell_same (by rw [cell_other (off_ne (by omega)), cell_other (off_ne (by omega)), cell_other (off_ne (by omega)), cell_other (off_ne (by omega)), cell_other (off_ne (by omega)), cell_other (off_ne (by omega)), cell_other (off_ne (by omega)), cell_other (off_ne (by omega)), cell_other (off_ne (by omega))]; exact h9)
  · exact cell_same (by rw [cell_other (off_ne (by omega)), cell_other (off_ne (by omega)), cell_other (off_ne (by omega)), cell_other (off_ne (by omega)), cell_other (off_ne (by omega)), cell_other (off_ne (by omega)), cell_other (off_ne (by omega)), cell_other (off_ne (by omega)), cell_other (off_ne (by omega)), cell_other (off_ne (by omega))]; exact h10)
  · exact ((((((((((Only.set (fun x => x = q) _ q 0 _ rfl).trans (Only.set (fun x => x = q) _ q 1 _ rfl)).trans (Only.set (fun x => x = q) _ q 2 _ rfl)).trans (Only.set (fun x => x = q) _ q 3 _ rfl)).trans (Only.set (fun x => x = q) _ q 4 _ rfl)).trans (Only.set (fun x => x = q) _ q 5 _ rfl)).trans (Only.set (fun x => x = q) _ q 6 _ rfl)).trans (Only.set (fun x => x = q) _ q 7 _ rfl)).trans (Only.set (fun x => x = q) _ q 8 _ rfl)).trans (Only.set (fun x => x = q) _ q 9 _ rfl)).trans (Only.set (fun x => x = q) _ q 10 _ rfl)
/-- a plan's value; what is wrong with what was read; the answer -/
def plV (D F T G1 M1 B1 G2 M2 B2 : Int) (a1 a2 : Option Addr) (n1 n2 c1 c2 : Nat) : Value := .agg #[.int .i64 D, .int .i64 F, .int .i64 T, .int .i64 G1, .int .i64 M1, .int .i64 B1, .slice a1 n1 c1, .int .i64 G2, .int .i64 M2, .int .i64 B2, .slice a2 n2 c2]
def pchkP (x : Pl) : Int := pchk x.d x.f x.t x.a.g x.a.m x.a.b x.o.g x.o.m x.o.b x.a.ts x.o.ts
def errP (b : List Nat) : Int := if (rdP b).2 = some [] then pchkP (rdP b).1 else 2
def Pl.zero : Pl := ⟨0, 0, 0, Tf.zero, Tf.zero⟩
def ansP (b : List Nat) : Pl := if errP b = 0 then (rdP b).1 else Pl.zero
def IsPl (w : World) (x : Pl) (v : Value) : Prop := ∃ a1 a2 n1 n2 c1 c2, v = plV x.d x.f x.t x.a.g x.a.m x.a.b x.o.g x.o.m x.o.b a1 a2 n1 n2 c1 c2 ∧ ReadsT w a1 n1 x.a.ts ∧ ReadsT w a2 n2 x.o.ts
def ReadP (w : World) (b : List Nat) (e : Ending) (w' : World) : Prop := Only (fun _ => False) w w' ∧ ∃ v, e = .returned (.tuple #[v, .int .i64 (errP b)]) ∧ IsPl w' (ansP b) v
def EqP (b : List Nat) (x : Pl) (s : Option (List Nat)) : Prop := (rdP b).2 = s ∧ (s = none ∨ (rdP b).1 = x)
theorem reads_nil (w : World) : ReadsT w none 0 [] := ⟨rfl, by omega, by simp, .inl rfl⟩
theorem in_of {K : List Tr} (h : ∀ x ∈ K, TrIn x) : ∀ x ∈ K, InI x.u ∧ InI x.p := fun x hx => by
  obtain ⟨⟨h1, h2⟩, h3, h4⟩ := h x hx
  exact ⟨⟨by omega, by omega⟩, ⟨by omega, by omega⟩⟩
theorem read_bad {w wf : World} {b : List Nat} {er : Int} (ho : Only (fun _ => False) w wf) (he : errP b = er) (h0 : er ≠ 0) : ReadP w b (.returned (.tuple #[plV 0 0 0 0 0 0 0 0 0 none none 0 0 0 0, .int .i64 er])) wf := by
  refine ⟨ho, _, by rw [he], none, none, 0, 0, 0, 0, ?_, ?_, ?_⟩
  · unfold ansP; rw [he, if_neg h0]; rfl
  · unfold ansP; rw [he, if_neg h0]; exact reads_nil _
  · unfold ansP; rw [he, if_neg h0]; exact reads_nil _
theorem err_end {b : List Nat} {x : Pl} {s : Option (List Nat)} (h : EqP b x s) (hs : ¬ s = some []) : errP b = 2 := by
  unfold errP
  rw [h.1, if_neg hs]
theorem err_plan {b : List Nat} {x : Pl} {s : Option (List Nat)} (h : EqP b x s) (hs : s = some []) : errP b = pchkP x ∧ (rdP b).1 = x := by
  have h2 : (rdP b).1 = x := h.2.resolve_left (by rw [hs]; simp)
  unfold errP
  rw [h.1, if_pos hs, h2]
  exact ⟨rfl, rfl⟩
theorem read_good {w wf : World} {b : List Nat} {x : Pl} {s : Option (List Nat)} {a1 a2 : Option Addr} {n1 n2 c1 c2 : Nat} (ho : Only (fun _ => False) w wf) (h : EqP b x s) (hs : s = some []) (h0 : pchkP x = 0) (h1 : ReadsT wf a1 n1 x.a.ts) (h2 : ReadsT wf a2 n2 x.o.ts) : ReadP w b (.returned (.tuple #[plV x.d x.f x.t x.a.g x.a.m x.a.b x.o.g x.o.m x.o.b a1 a2 n1 n2 c1 c2, .int .i64 0])) wf := by
  obtain ⟨e1, e2⟩ := err_plan h hs
  have e3 : ansP b = x := by unfold ansP; rw [e1, h0, if_pos rfl, e2]
  exact ⟨ho, _, by rw [e1, h0], a1, a2, n1, n2, c1, c2, by rw [e3], by rw [e3]; exact h1, by rw [e3]; exact h2⟩
theorem rdTs_no : ∀ k, (rdTs k none).2 = none := by
  intro k
  induction k with
  | zero => rfl
  | succ k ih => show (rdTr (rdTs k none).2).2 = none; rw [ih]; rfl
theorem rdT_none : (rdT none).2 = none := rdTs_no _
set_option maxRecDepth 100000 in
set_option maxHeartbeats 8000000 in
theorem pread_any (a : Option Addr) (n c : Nat) (b : List Nat) (w : World) (h : Bytes w a n c b) (hb : By b) : Calls Try.prog 10 #[.slice a n c] w (ReadP w b) := by
  have HBY := Lib.hid hb
  have hsb : SOk (some b) := fun l hl => by injection hl with hl; rw [← hl]; exact hb
  have hlen : n ≤ 100000000 := by rw [← h.1.1]; exact hb.2
  obtain ⟨s1, hs1⟩ : ∃ x, x = (tfw.u40 (some b)).2 := ⟨_, rfl⟩
  obtain ⟨s2, hs2⟩ : ∃ x, x = (tfw.u40 s1).2 := ⟨_, rfl⟩
  obtain ⟨s3, hs3⟩ : ∃ x, x = (tfw.u40 s2).2 := ⟨_, rfl⟩
  obtain ⟨nD, hnD⟩ : ∃ x, x = (tfw.u40 (some b)).1 := ⟨_, rfl⟩
  obtain ⟨nF, hnF⟩ : ∃ x, x = (tfw.u40 s1).1 := ⟨_, rfl⟩
  obtain ⟨nT, hnT⟩ : ∃ x, x = (tfw.u40 s2).1 := ⟨_, rfl⟩
  have HS3 : Hid (SOk s3) := Lib.hid (by rw [hs3, hs2, hs1]; exact SOk.u40 (SOk.u40 (SOk.u40 hsb)))
  have HRDP : Hid (rdP b = (⟨(nD : Int), (nF : Int), (nT : Int), (rdT s3).1, (rdO nD (rdT s3).2).1⟩, (rdO nD (rdT s3).2).2)) := Lib.hid (by
    rw [hnD, hnF, hnT, hs3, hs2, hs1]; rfl)
  have HN1 : Hid ((uS 1099511627776 (some b)).1 = nD ∧ (uS 1099511627776 s1).1 = nF ∧ (uS 1099511627776 s2).1 = nT ∧ (uS 1099511627776 (some b)).2 = s1 ∧ (uS 1099511627776 s1).2 = s2 ∧ (uS 1099511627776 s2).2 = s3) := Lib.hid ⟨hnD.symm, hnF.symm, hnT.symm, hs1.symm, hs2.symm, hs3.symm⟩
  clear hnD hnF hnT hs1 hs2 hs3 hsb hb
  obtain ⟨w1, hw1⟩ : ∃ x, x = w.alloc (.cells #[.int .i64 0, .int .i64 0, .int .i64 0, .int .i64 0, .int .i64 0, .int .i64 0, .slice none 0 0, .int .i64 0, .int .i64 0, .int .i64 0, .slice none 0 0] 32) := ⟨_, rfl⟩
  obtain ⟨p2, hp2⟩ : ∃ x, x = w.heap.size := ⟨_, rfl⟩
  have hal1 : Only (fun _ => False) w w1 := by rw [hw1]; exact (Only.refl _ _).alloc _
  have HZ1 : Hid (PlanAt w1 p2 0 0 0 0 0 0 0 0 0 none none 0 0 0 0 ∧ ∀ k, w1.frozen? ⟨p2, k, none⟩ = false) := Lib.hid (by
    rw [hw1, hp2]
    exact ⟨PlanAt.new 0 0 0 0 0 0 0 0 0 none none 0 0 0 0 _, fun k => alloc_froz w _ _ _ k rfl⟩)
  have HO1 := Lib.hid hal1
  have HP2W : Hid (w.heap.size ≤ p2) := Lib.hid (by omega)
  have HP2L : Hid (p2 < w1.heap.size) := Lib.hid (World.block_lt_of_cell? w1 _ HZ1.out.1.1)
  have HRA := Lib.hid (read_any a n c b w1 ⟨h.1.only hal1 (fun _ _ f => f), h.2⟩ (by omega))
  clear h hal1
  go_enter Try.func10, Try.ntmps10
  go_upto_region 1 with fail
  simp only [← hw1, ← hp2]
  clear hw1 hp2
  go_wp2_with fail
  refine HRA.out.mono ?_
  rintro _ w2 ⟨rp, ra, rl, rcap, rfl, hrd, ho, hrp, hrb⟩
  obtain ⟨B, hB⟩ : ∃ x, x = fun q => q < w2.heap.size ∧ q ≠ rp := ⟨_, rfl⟩
  have HBB : Hid (∀ q, B q → q < w2.heap.size ∧ q ≠ rp) := Lib.hid (fun q e => by rw [hB] at e; exact e)
  have HR2 : Hid (RS B w2 rp (some b)) := Lib.hid ⟨ra, rl, rcap, b, 0, hrd, HBY.out, fun x hx => by rw [hB]; exact ⟨(hrb x hx).2, hrd.off x hx⟩, rfl, rfl⟩
  have HO2 := Lib.hid (HO1.out.trans ho)
  have HRP : Hid (w1.heap.size ≤ rp) := Lib.hid hrp
  have HZ2 : Hid (PlanAt w2 p2 0 0 0 0 0 0 0 0 0 none none 0 0 0 0 ∧ ∀ k, w2.frozen? ⟨p2, k, none⟩ = false) := Lib.hid ⟨HZ1.out.1.only ho (fun f => f), fun k => (ho.frozen (p := ⟨p2, k, none⟩) HP2L.out (fun f => f)).trans (HZ1.out.2 k)⟩
  clear hrd ho hrp hrb hB HRA HZ1 HO1
  have HPR : Hid (¬ p2 = rp ∧ w.heap.size ≤ rp) := Lib.hid ⟨by have := HP2L.out; have := HRP.out; omega, by have := HRP.out; have := HP2L.out; have := HP2W.out; omega⟩
  have HOR2 : Hid (Only (fun q => q = rp) w2 w2) := Lib.hid (Only.refl _ _)
  go_wp2_with fail
  refine (guint B rp 1099511627776 (some b) w2 HR2.out).mono ?_
  rintro _ w3 ⟨rfl, hrs, ho⟩
  rw [HN1.out.2.2.2.1] at hrs
  have HR3 := Lib.hid hrs
  have HOR3 := Lib.hid (HOR2.out.trans ho)
  clear hrs ho HR2 HOR2
  rw [HN1.out.1]
  go_wp2_with fail
  refine (guint B rp 1099511627776 s1 w3 HR3.out).mono ?_
  rintro _ w4 ⟨rfl, hrs, ho⟩
  rw [HN1.out.2.2.2.2.1] at hrs
  have HR4 := Lib.hid hrs
  have HOR4 := Lib.hid (HOR3.out.trans ho)
  clear hrs ho HR3 HOR3
  rw [HN1.out.2.1]
  go_wp2_with fail
  refine (guint B rp 1099511627776 s2 w4 HR4.out).mono ?_
  rintro _ w5 ⟨rfl, hrs, ho⟩
  rw [HN1.out.2.2.2.2.2] at hrs
  have HR5 := Lib.hid hrs
  have HOR5 := Lib.hid (HOR4.out.trans ho)
  clear hrs ho HR4 HOR4
  rw [HN1.out.2.2.1]
  go_upto_region 3 with fail
  obtain ⟨w6, hw6⟩ : ∃ x, x = w5.alloc (.cells #[.int .i64 nD, .int .i64 nF, .int .i64 nT, .int .i64 0, .int .i64 0, .int .i64 0, .slice none 0 0, .int .i64 0, .int .i64 0, .int .i64 0, .slice none 0 0] 32) := ⟨_, rfl⟩
  obtain ⟨p5, hp5⟩ : ∃ x, x = w5.heap.size := ⟨_, rfl⟩
  have ho6 : Only (fun _ => False) w5 w6 := by rw [hw6]; exact (Only.refl _ _).alloc _
  have HK6 : Hid (PlanAt w6 p5 (nD : Int) (nF : Int) (nT : Int) 0 0 0 0 0 0 none none 0 0 0 0 ∧ ∀ k, w6.frozen? ⟨p5, k, none⟩ = false) := Lib.hid (by
    rw [hw6, hp5]
    exact ⟨PlanAt.new _ _ _ _ _ _ _ _ _ _ _ _ _ _ _ _, fun k => alloc_froz w5 _ _ _ k rfl⟩)
  have HR6 : Hid (RS B w6 rp s3) := Lib.hid (HR5.out.only ho6 (fun f => f) (fun _ _ f => f))
  have HP5 : Hid (p5 ≠ rp ∧ p5 ≠ p2 ∧ w2.heap.size ≤ p5) := Lib.hid (by
    have := HR5.out.lt
    have h1 := HOR5.out.size
    have h2 := HP2L.out
    have h3 := HRP.out
    have h4 := World.block_lt_of_cell? w2 _ HZ2.out.1.1
    dsimp only at h4
    omega)
  have HOR6 : Hid (Only (fun q => q = rp) w2 w6) := Lib.hid (HOR5.out.trans (ho6.mono (fun _ _ f => f.elim)))
  simp only [← hw6, ← hp5]
  clear hw6 hp5 ho6 HR5 HOR5
  have HTR := Lib.hid (tread_any B rp s3 w6 HR6.out (fun q e => ⟨by have := (HBB.out q e).1; have := HOR6.out.size; omega, (HBB.out q e).2⟩))
  go_wp2_with fail
  refine HTR.out.mono ?_
  rintro _ w7 ⟨v, rfl, hown, hvw, hrs, ho⟩
  obtain ⟨K, hK⟩ : ∃ x, x = (rdT s3).1.ts := ⟨_, rfl⟩
  rw [← hK] at hown
  have hKin : ∀ x ∈ K, TrIn x := by rw [hK]; exact ts_in (SOk.t4 HS3.out) _
  have hKl : K.length ≤ 6 := by rw [hK, show (rdT s3).1.ts = (rdTs (tn s3) (t4 s3)).1 from rfl, rdTs_len]; exact tn_bd HS3.out
  have hKe : (rdT s3).2 = none ∨ K = (rdT s3).1.ts := .inr hK
  clear hK
  obtain ⟨ua, uc, rfl, hrd⟩ := hown.reads (in_of hKin) (by omega)
  obtain ⟨un, hun⟩ : ∃ x, x = K.length := ⟨_, rfl⟩
  rw [← hun] at hrd ⊢
  obtain ⟨uG, huG⟩ : ∃ x, x = (rdT s3).1.g := ⟨_, rfl⟩
  obtain ⟨uM, huM⟩ : ∃ x, x = (rdT s3).1.m := ⟨_, rfl⟩
  obtain ⟨uB, huB⟩ : ∃ x, x = (rdT s3).1.b := ⟨_, rfl⟩
  rw [← huG, ← huM, ← huB]
  have hk := HK6.out.1.only ho HP5.out.1
  have hl4 := World.block_lt_of_cell? w6 _ HK6.out.1.1
  have hfz : ∀ k, w7.frozen? ⟨p5, k, none⟩ = false := fun k => (ho.frozen (p := ⟨p5, k, none⟩) hl4 HP5.out.1).trans (HK6.out.2 k)
  have y3 := hk.2.2.2.1
  have x3 := hfz 3
  have y4 := hk.2.2.2.2.1
  have x4 := hfz 4
  have y5 := hk.2.2.2.2.2.1
  have x5 := hfz 5
  have y6 := hk.2.2.2.2.2.2.1
  have x6 := hfz 6
  go_upto_region 4 with fail
  try simp only [← huG, ← huM, ← huB, ← hun]
  obtain ⟨w8, hw8⟩ : ∃ x, x = ((((w7.setCell ⟨p5, 3, none⟩ (.int .i64 uG)).setCell ⟨p5, 4, none⟩ (.int .i64 uM)).setCell ⟨p5, 5, none⟩ (.int .i64 uB)).setCell ⟨p5, 6, none⟩ (.slice ua un uc)) := ⟨_, rfl⟩
  have hst := (PlanAt.setA hk uG uM uB ua un uc).2
  rw [← hw8] at hst
  have HK8 : Hid (PlanAt w8 p5 (nD : Int) (nF : Int) (nT : Int) uG uM uB 0 0 0 ua none un 0 uc 0 ∧ ∀ k, w8.frozen? ⟨p5, k, none⟩ = false) := Lib.hid ⟨by rw [hw8]; exact (PlanAt.setA hk uG uM uB ua un uc).1, fun k => by rw [hw8]; exact frozen_set.trans (frozen_set.trans (frozen_set.trans (frozen_set.trans (hfz k))))⟩
  have hvp : ∀ y, ua = some y → ¬ y.block = p5 := fun y e => by have := hvw y.block (by rw [e]; rfl); omega
  have HT8 : Hid (ReadsT w8 ua un K ∧ (∀ y, ua = some y → w6.heap.size ≤ y.block)) := Lib.hid ⟨hrd.only hst hvp, fun y e => hvw y.block (by rw [e]; rfl)⟩
  have HR8 : Hid (RS B w8 rp (rdT s3).2) := Lib.hid (hrs.only hst (fun e => HP5.out.1 e.symm) (fun q e1 e2 => by have := (HBB.out q e1).1; have := HP5.out.2.2; omega))
  have HOR8 : Hid (Only (fun q => q = rp) w2 w8) := Lib.hid ((HOR6.out.trans ho).then hst (fun q hq e => by have := HP5.out.2.2; omega))
  have HKE : Hid ((rdT s3).2 = none ∨ K = (rdT s3).1.ts) := Lib.hid hKe
  have HUG : Hid ((rdT s3).1.g = uG ∧ (rdT s3).1.m = uM ∧ (rdT s3).1.b = uB) := Lib.hid ⟨huG.symm, huM.symm, huB.symm⟩
  have HUP : Hid (∀ y, ua = some y → ¬ y.block = p5) := Lib.hid hvp
  have HU2 : Hid (∀ y, ua = some y → ¬ y.block = p2) := Lib.hid (fun y e q => by have := hvw y.block (by rw [e]; rfl); have := World.block_lt_of_cell? w2 _ HZ2.out.1.1; have := HOR6.out.size; dsimp only at *; omega)
  have HUR : Hid (∀ y, ua = some y → ¬ y.block = rp) := Lib.hid (fun y e q => by have := hvw y.block (by rw [e]; rfl); have := HR6.out.lt; omega)
  simp only [← hw8]
  clear hw8 hst hvp hown hvw hrs ho hrd hk hl4 hfz hKin hKl hKe huG huM huB hun HTR HK6 HR6 HOR6 y3 y4 y5 y6 x3 x4 x5 x6
  obtain ⟨s4, hs4⟩ : ∃ x, (rdT s3).2 = x := ⟨_, rfl⟩
  rw [hs4] at HR8 HKE HRDP
  have HS4 : Hid (SOk s4) := Lib.hid (by rw [← hs4]; exact SOk.tar HS3.out)
  have HSE4 := Lib.hid hs4
  clear hs4
  have y0 := HK8.out.1.1
  go_upto_if 21 with fail
  go_cut [] from 21 to 24 (fun wx => ∃ (O : Tf) (oa : Option Addr) (on oc : Nat) (s5 : Option (List Nat)), Hid (EqP b ⟨(nD : Int), (nF : Int), (nT : Int), ⟨uG, uM, uB, K⟩, O⟩ s5) ∧ Hid (PlanAt wx p5 (nD : Int) (nF : Int) (nT : Int) uG uM uB O.g O.m O.b ua oa un on uc oc) ∧ Hid (ReadsT wx ua un K ∧ ReadsT wx oa on O.ts) ∧ Hid ((∀ y, ua = some y → ¬ y.block = p2) ∧ ∀ y, oa = some y → ¬ y.block = p2) ∧ Hid (RS B wx rp s5) ∧ Hid (Only (fun q => q = rp) w2 wx))
  case first =>
    by_cases hd : nD = 0
    · have hdz : ((nD : Int) != 0) = false := by simp [hd]
      go_wp2_with fail
      go_meet
      refine ⟨Tf.zero, none, 0, 0, s4, Lib.hid ?_, Lib.hid HK8.out.1, Lib.hid ⟨HT8.out.1, reads_nil _⟩, Lib.hid ⟨HU2.out, fun y e => by cases e⟩, HR8, HOR8⟩
      have e := HRDP.out
      unfold rdO at e
      rw [if_pos hd] at e
      refine ⟨by rw [e], ?_⟩
      rcases HKE.out with q | q
      · exact .inl q
      · refine .inr ?_
        rw [e]
        dsimp only
        rw [q, ← HUG.out.1, ← HUG.out.2.1, ← HUG.out.2.2]
    · have hdz : ((nD : Int) != 0) = true := by simp [hd]
      have HTR := Lib.hid (tread_any B rp s4 w8 HR8.out (fun q e => ⟨by have := (HBB.out q e).1; have := HOR8.out.size; omega, (HBB.out q e).2⟩))
      go_wp2_with fail
      refine HTR.out.mono ?_
      rintro _ w9 ⟨v, rfl, hown, hvw, hrs, ho⟩
      obtain ⟨K2, hK⟩ : ∃ x, x = (rdT s4).1.ts := ⟨_, rfl⟩
      rw [← hK] at hown
      have hKin : ∀ x ∈ K2, TrIn x := by rw [hK]; exact ts_in (SOk.t4 HS4.out) _
      have hKl : K2.length ≤ 6 := by rw [hK, show (rdT s4).1.ts = (rdTs (tn s4) (t4 s4)).1 from rfl, rdTs_len]; exact tn_bd HS4.out
      have hKe : (rdT s4).2 = none ∨ K2 = (rdT s4).1.ts := .inr hK
      clear hK
      obtain ⟨oa, oc, rfl, hrd⟩ := hown.reads (in_of hKin) (by omega)
      obtain ⟨on, hon⟩ : ∃ x, x = K2.length := ⟨_, rfl⟩
      rw [← hon] at hrd ⊢
      obtain ⟨oG, hoG⟩ : ∃ x, x = (rdT s4).1.g := ⟨_, rfl⟩
      obtain ⟨oM, hoM⟩ : ∃ x, x = (rdT s4).1.m := ⟨_, rfl⟩
      obtain ⟨oB, hoB⟩ : ∃ x, x = (rdT s4).1.b := ⟨_, rfl⟩
      rw [← hoG, ← hoM, ← hoB]
      have hk := HK8.out.1.only ho HP5.out.1
      have hl4 := World.block_lt_of_cell? w8 _ HK8.out.1.1
      have hfz : ∀ k, w9.frozen? ⟨p5, k, none⟩ = false := fun k => (ho.frozen (p := ⟨p5, k, none⟩) hl4 HP5.out.1).trans (HK8.out.2 k)
      have y7 := hk.2.2.2.2.2.2.2.1
      have x7 := hfz 7
      have y8 := hk.2.2.2.2.2.2.2.2.1
      have x8 := hfz 8
      have y9 := hk.2.2.2.2.2.2.2.2.2.1
      have x9 := hfz 9
      have y10 := hk.2.2.2.2.2.2.2.2.2.2
      have x10 := hfz 10
      go_wp2_with fail
      try simp only [← hoG, ← hoM, ← hoB, ← hon]
      obtain ⟨w10, hw10⟩ : ∃ x, x = ((((w9.setCell ⟨p5, 7, none⟩ (.int .i64 oG)).setCell ⟨p5, 8, none⟩ (.int .i64 oM)).setCell ⟨p5, 9, none⟩ (.int .i64 oB)).setCell ⟨p5, 10, none⟩ (.slice oa on oc)) := ⟨_, rfl⟩
      rw [← hw10]
      have hst := (PlanAt.setB hk oG oM oB oa on oc).2
      rw [← hw10] at hst
      have hvp : ∀ y, oa = some y → ¬ y.block = p5 := fun y e => by have := hvw y.block (by rw [e]; rfl); omega
      have hup : ∀ y, ua = some y → ¬ y.block = p5 := fun y e q => HUP.out y e q
      go_meet
      refine ⟨⟨oG, oM, oB, K2⟩, oa, on, oc, (rdT s4).2, Lib.hid ?_, Lib.hid (by rw [hw10]; exact (PlanAt.setB hk oG oM oB oa on oc).1), Lib.hid ⟨(HT8.out.1.only ho (fun y e q => HUR.out y e q)).only hst hup, hrd.only hst hvp⟩, Lib.hid ⟨HU2.out, fun y e q => by have := hvw y.block (by rw [e]; rfl); have := World.block_lt_of_cell? w2 _ HZ2.out.1.1; have := HOR8.out.size; dsimp only at *; omega⟩, Lib.hid (hrs.only hst (fun e => HP5.out.1 e.symm) (fun q e1 e2 => by have := (HBB.out q e1).1; have := HP5.out.2.2; omega)), Lib.hid ((HOR8.out.trans ho).then hst (fun q hq e => by have := HP5.out.2.2; omega))⟩
      have e := HRDP.out
      unfold rdO at e
      rw [if_neg hd] at e
      refine ⟨by rw [e], ?_⟩
      rcases hKe with q | q
      · exact .inl q
      · rcases HKE.out with q2 | q2
        · refine .inl ?_
          rw [q2]
          exact rdT_none
        · refine .inr ?_
          rw [e]
          dsimp only
          rw [q, q2, ← HUG.out.1, ← HUG.out.2.1, ← HUG.out.2.2, hoG, hoM, hoB]
  case rest =>
    rename World => wx
    obtain ⟨⟨oG, oM, oB, K2⟩, oa, on, oc, s5, HEQ, HPX, HTX, HA2, HRX, HOX2⟩ := hcut
    dsimp only at HEQ HPX HTX
    have HOX : Hid (Only (fun _ => False) w wx) := Lib.hid (HO2.out.then HOX2.out (fun q hq e => by have := HPR.out.2; omega))
    have HLZ : Hid (p2 < w2.heap.size) := Lib.hid (World.block_lt_of_cell? w2 _ HZ2.out.1.1)
    have HP2 : Hid (PlanAt wx p2 0 0 0 0 0 0 0 0 0 none none 0 0 0 0 ∧ ∀ k, wx.frozen? ⟨p2, k, none⟩ = false) := Lib.hid ⟨HZ2.out.1.only HOX2.out HPR.out.1, fun k => (HOX2.out.frozen (p := ⟨p2, k, none⟩) HLZ.out HPR.out.1).trans (HZ2.out.2 k)⟩
    have HEN := Lib.hid (gend B rp s5 wx HRX.out)
    clear HZ2 HOX2 HRX HT8 HR8 HK8 HOR8 HKE HUG HRDP HUP HUR HU2 y0
    go_wp2_with fail
    refine HEN.out.mono ?_
    rintro _ _ ⟨⟨er, rfl, her⟩, rfl⟩
    have HER := Lib.hid her
    clear her HEN
    by_cases h0 : er = 0
    · have HS5 : Hid (s5 = some []) := Lib.hid (HER.out.1 h0)
      subst h0
      clear HER
      obtain ⟨k0, k1, k2, k3, k4, k5, k6, k7, k8, k9, k10⟩ := id HPX.out
      go_wp2_with fail
      refine (cplan_any (nD : Int) (nF : Int) (nT : Int) uG uM uB oG oM oB ua oa un on uc oc K K2 wx HTX.out.1 HTX.out.2).mono ?_
      rintro _ wy ⟨rfl, ho⟩
      have HOXY := Lib.hid ho
      replace HOX := Lib.hid (HOX.out.trans ho)
      have HLX : Hid (p2 < wx.heap.size) := Lib.hid (World.block_lt_of_cell? wx _ HP2.out.1.1)
      have HP2Y : Hid (PlanAt wy p2 0 0 0 0 0 0 0 0 0 none none 0 0 0 0 ∧ ∀ k, wy.frozen? ⟨p2, k, none⟩ = false) := Lib.hid ⟨HP2.out.1.only ho (fun f => f), fun k => (ho.frozen (p := ⟨p2, k, none⟩) HLX.out (fun f => f)).trans (HP2.out.2 k)⟩
      have HPY := Lib.hid (HPX.out.only ho (fun f => f))
      have HTY : Hid (ReadsT wy ua un K ∧ ReadsT wy oa on K2) := Lib.hid ⟨HTX.out.1.only ho (fun _ _ f => f), HTX.out.2.only ho (fun _ _ f => f)⟩
      clear ho HP2 HPX HTX HOXY k0 k1 k2 k3 k4 k5 k6 k7 k8 k9 k10
      have HP2 := HP2Y
      have HERR := Lib.hid (err_plan HEQ.out HS5.out)
      obtain ⟨pc, hpc⟩ : ∃ x, pchk (nD : Int) (nF : Int) (nT : Int) uG uM uB oG oM oB K K2 = x := ⟨_, rfl⟩
      have HPC : Hid (pchkP ⟨(nD : Int), (nF : Int), (nT : Int), ⟨uG, uM, uB, K⟩, ⟨oG, oM, oB, K2⟩⟩ = pc) := Lib.hid hpc
      rw [hpc]
      clear hpc
      obtain ⟨j0, j1, j2, j3, j4, j5, j6, j7, j8, j9, j10⟩ := id HP2.out.1
      have f0 := HP2.out.2 0
      have f1 := HP2.out.2 1
      have f2 := HP2.out.2 2
      have f3 := HP2.out.2 3
      have f4 := HP2.out.2 4
      have f5 := HP2.out.2 5
      have f6 := HP2.out.2 6
      have f7 := HP2.out.2 7
      have f8 := HP2.out.2 8
      have f9 := HP2.out.2 9
      have f10 := HP2.out.2 10
      by_cases hp0 : pc = 0
      · subst hp0
        obtain ⟨k0, k1, k2, k3, k4, k5, k6, k7, k8, k9, k10⟩ := id HPY.out
        go_wp2_with fail
        obtain ⟨wf, hwf⟩ : ∃ x, x = (((((((((((wy.setCell ⟨p2, 0, none⟩ (.int .i64 nD)).setCell ⟨p2, 1, none⟩ (.int .i64 nF)).setCell ⟨p2, 2, none⟩ (.int .i64 nT)).setCell ⟨p2, 3, none⟩ (.int .i64 uG)).setCell ⟨p2, 4, none⟩ (.int .i64 uM)).setCell ⟨p2, 5, none⟩ (.int .i64 uB)).setCell ⟨p2, 6, none⟩ (.slice ua un uc)).setCell ⟨p2, 7, none⟩ (.int .i64 oG)).setCell ⟨p2, 8, none⟩ (.int .i64 oM)).setCell ⟨p2, 9, none⟩ (.int .i64 oB)).setCell ⟨p2, 10, none⟩ (.slice oa on oc)) := ⟨_, rfl⟩
        rw [← hwf]
        have hsa := PlanAt.setAll HP2.out.1 (nD : Int) (nF : Int) (nT : Int) uG uM uB oG oM oB ua oa un on uc oc
        rw [← hwf] at hsa
        obtain ⟨⟨z0, z1, z2, z3, z4, z5, z6, z7, z8, z9, z10⟩, hso⟩ := hsa
        have HOF : Hid (Only (fun _ => False) w wf) := Lib.hid (HOX.out.then hso (fun q hq e => by have := HP2W.out; omega))
        clear hwf j0 j1 j2 j3 j4 j5 j6 j7 j8 j9 j10 f0 f1 f2 f3 f4 f5 f6 f7 f8 f9 f10
        refine bodyPost_ret (v := .tuple #[plV (nD : Int) (nF : Int) (nT : Int) uG uM uB oG oM oB ua oa un on uc oc, .int .i64 0]) (by simp [results, Try.results10, go_sem, plV, z0, z1, z2, z3, z4, z5, z6, z7, z8, z9, z10]) rfl ?_
        exact read_good HOF.out HEQ.out HS5.out HPC.out (HTY.out.1.only hso (fun y e q => HA2.out.1 y e q)) (HTY.out.2.only hso (fun y e q => HA2.out.2 y e q))

      · have hpb : (pc == 0) = false := by simpa using hp0
        have HP0 := Lib.hid hp0
        clear hp0
        go_wp2_with fail
        obtain ⟨wf, hwf⟩ : ∃ x, x = (((((((((((wy.setCell ⟨p2, 0, none⟩ (.int .i64 0)).setCell ⟨p2, 1, none⟩ (.int .i64 0)).setCell ⟨p2, 2, none⟩ (.int .i64 0)).setCell ⟨p2, 3, none⟩ (.int .i64 0)).setCell ⟨p2, 4, none⟩ (.int .i64 0)).setCell ⟨p2, 5, none⟩ (.int .i64 0)).setCell ⟨p2, 6, none⟩ (.slice none 0 0)).setCell ⟨p2, 7, none⟩ (.int .i64 0)).setCell ⟨p2, 8, none⟩ (.int .i64 0)).setCell ⟨p2, 9, none⟩ (.int .i64 0)).setCell ⟨p2, 10, none⟩ (.slice none 0 0)) := ⟨_, rfl⟩
        rw [← hwf]
        have hsa := PlanAt.setAll HP2.out.1 0 0 0 0 0 0 0 0 0 none none 0 0 0 0
        rw [← hwf] at hsa
        obtain ⟨⟨z0, z1, z2, z3, z4, z5, z6, z7, z8, z9, z10⟩, hso⟩ := hsa
        have HOF : Hid (Only (fun _ => False) w wf) := Lib.hid (HOX.out.then hso (fun q hq e => by have := HP2W.out; omega))
        clear hwf j0 j1 j2 j3 j4 j5 j6 j7 j8 j9 j10 f0 f1 f2 f3 f4 f5 f6 f7 f8 f9 f10
        refine bodyPost_ret (v := .tuple #[plV 0 0 0 0 0 0 0 0 0 none none 0 0 0 0, .int .i64 pc]) (by simp [results, Try.results10, go_sem, plV, z0, z1, z2, z3, z4, z5, z6, z7, z8, z9, z10]) rfl ?_
        exact read_bad HOF.out (HERR.out.1.trans HPC.out) HP0.out

    · have HB5 := Lib.hid (err_end HEQ.out (fun q => h0 (HER.out.2 q)))
      have heb : ((er : Int) == 0) = false := by simpa using h0
      clear h0 HER
      obtain ⟨j0, j1, j2, j3, j4, j5, j6, j7, j8, j9, j10⟩ := id HP2.out.1
      have f0 := HP2.out.2 0
      have f1 := HP2.out.2 1
      have f2 := HP2.out.2 2
      have f3 := HP2.out.2 3
      have f4 := HP2.out.2 4
      have f5 := HP2.out.2 5
      have f6 := HP2.out.2 6
      have f7 := HP2.out.2 7
      have f8 := HP2.out.2 8
      have f9 := HP2.out.2 9
      have f10 := HP2.out.2 10
      go_wp2_with fail
      obtain ⟨wf, hwf⟩ : ∃ x, x = (((((((((((wx.setCell ⟨p2, 0, none⟩ (.int .i64 0)).setCell ⟨p2, 1, none⟩ (.int .i64 0)).setCell ⟨p2, 2, none⟩ (.int .i64 0)).setCell ⟨p2, 3, none⟩ (.int .i64 0)).setCell ⟨p2, 4, none⟩ (.int .i64 0)).setCell ⟨p2, 5, none⟩ (.int .i64 0)).setCell ⟨p2, 6, none⟩ (.slice none 0 0)).setCell ⟨p2, 7, none⟩ (.int .i64 0)).setCell ⟨p2, 8, none⟩ (.int .i64 0)).setCell ⟨p2, 9, none⟩ (.int .i64 0)).setCell ⟨p2, 10, none⟩ (.slice none 0 0)) := ⟨_, rfl⟩
      rw [← hwf]
      have hsa := PlanAt.setAll HP2.out.1 0 0 0 0 0 0 0 0 0 none none 0 0 0 0
      rw [← hwf] at hsa
      obtain ⟨⟨z0, z1, z2, z3, z4, z5, z6, z7, z8, z9, z10⟩, hso⟩ := hsa
      have HOF : Hid (Only (fun _ => False) w wf) := Lib.hid (HOX.out.then hso (fun q hq e => by have := HP2W.out; omega))
      clear hwf j0 j1 j2 j3 j4 j5 j6 j7 j8 j9 j10 f0 f1 f2 f3 f4 f5 f6 f7 f8 f9 f10
      refine bodyPost_ret (v := .tuple #[plV 0 0 0 0 0 0 0 0 0 none none 0 0 0 0, .int .i64 2]) (by simp [results, Try.results10, go_sem, plV, z0, z1, z2, z3, z4, z5, z6, z7, z8, z9, z10]) rfl ?_
      exact read_bad HOF.out HB5.out (by omega)
end Go.Proofs.Ytfdaokjigjpomaa.tfw
namespace Go.Proofs.Ytfdaokjigjpomaa.tfw
open Go.RowKit mem codm codp codw tirm tirw
set_option linter.unusedVariables false

theorem wb_new (w : World) (t : TypeId) (Q : Nat → Nat → Value → Prop) (hq : ∀ g j u, Q g j u → w.cell? ⟨g, j, none⟩ = some u) : WrB w w.heap.size (w.alloc (.cells #[.slice none 0 0, .int .i64 0] t)) [] Q := by
  obtain ⟨v, h1, h2, h3, h4⟩ := wr_new w t
  refine ⟨v, ⟨h1, h2, h3, h4⟩, fun g j u q => ?_⟩
  have hl : g < w.heap.size := World.block_lt_of_cell? w _ (hq g j u q)
  exact ⟨⟨by omega, fun e => by have := h4 g e; omega⟩, h2.cell' (hq g j u q) (fun f => f)⟩
theorem WrB.wr {w wx : World} {p : Nat} {l : List Nat} {Q : Nat → Nat → Value → Prop} (h : WrB w p wx l Q) : Wr w p wx l := by
  obtain ⟨v, h1, -⟩ := h
  exact ⟨v, h1⟩
theorem tiers_in : ∀ (ts : List Tr) (l : Int), 0 ≤ l → Tiers l ts → ∀ x ∈ ts, TrIn x := by
  intro ts
  induction ts with
  | nil => intro _ _ _ x hx; cases hx
  | cons y r ih =>
    intro l hl h x hx
    obtain ⟨⟨p1, p2⟩, h2, h3⟩ := h
    by_cases hr : r = []
    · rw [if_pos hr] at h2
      subst hr
      rw [List.mem_singleton.1 hx]
      exact ⟨⟨by omega, by omega⟩, p1, by omega⟩
    · rw [if_neg hr] at h2
      rcases List.mem_cons.1 hx with rfl | hx
      · exact ⟨⟨by omega, by omega⟩, p1, by omega⟩
      · exact ih y.u (by omega) h3 x hx
theorem tf_in {G M B : Int} {ts : List Tr} (h : tchk G M B ts = 0) : TfIn ⟨G, M, B, ts⟩ := by
  obtain ⟨⟨h1, h2⟩, h3, ⟨h4, h5⟩, ⟨h6, h7⟩, h8⟩ := (tchk_ok G M B ts).1 h
  exact ⟨⟨by show 0 ≤ G; omega, by show G ≤ _; omega⟩, ⟨by show 0 ≤ M; omega, by show M ≤ _; omega⟩, ⟨by show 0 ≤ B; omega, by show B ≤ _; omega⟩, h7, tiers_in ts 0 (by omega) h8⟩
theorem pl_in {x : Pl} (h : pchkP x = 0) : PlIn x := by
  obtain ⟨D, F, T, ⟨G1, M1, B1, t1⟩, ⟨G2, M2, B2, t2⟩⟩ := x
  unfold pchkP pchk at h
  dsimp only at h
  by_cases c1 : tchk G1 M1 B1 t1 = 0
  · rw [if_neg (by simpa using c1)] at h
    by_cases c2 : D = 0
    · rw [if_pos c2] at h
      by_cases c3 : F ≠ 0 ∨ T ≠ 0 ∨ G2 ≠ 0 ∨ M2 ≠ 0 ∨ B2 ≠ 0 ∨ t2.length ≠ 0
      · rw [if_pos c3] at h; omega
      · have e : F = 0 ∧ T = 0 ∧ G2 = 0 ∧ M2 = 0 ∧ B2 = 0 ∧ t2.length = 0 := by omega
        obtain ⟨rfl, rfl, rfl, rfl, rfl, e6⟩ := e
        obtain rfl := List.eq_nil_of_length_eq_zero e6
        subst c2
        refine ⟨⟨by simp, by simp⟩, ⟨by simp, by simp⟩, ⟨by simp, by simp⟩, tf_in c1, ?_⟩
        rw [if_pos rfl]; rfl
    · rw [if_neg c2] at h
      by_cases c3 : DayP D F T
      · rw [if_neg (by simpa using c3)] at h
        by_cases c4 : tchk G2 M2 B2 t2 = 0
        · obtain ⟨d1, d2, d3, d4, d5, d6, d7⟩ := c3
          refine ⟨⟨by show 0 ≤ D; omega, by show D ≤ _; omega⟩, ⟨by show 0 ≤ F; omega, by show F ≤ _; omega⟩, ⟨by show 0 ≤ T; omega, by show T ≤ _; omega⟩, tf_in c1, ?_⟩
          rw [if_neg (show ¬ D = 0 from c2)]
          exact tf_in c4
        · rw [if_pos c4] at h; exact absurd h c4
      · rw [if_pos c3] at h; omega
  · rw [if_pos c1] at h; exact absurd h c1
theorem tarB_len {x : Tf} (h : TfIn x) : (tarB x).length ≤ 200 := by
  unfold tarB
  have h1 := (enc_length x.g.toNat).1
  have h2 := (enc_length x.m.toNat).1
  have h3 := (enc_length x.b.toNat).1
  have h4 := (enc_length x.ts.length).1
  have h5 := trs_len x.ts
  have h6 := h.2.2.2.1
  simp only [List.length_append]
  omega
set_option maxRecDepth 100000 in
set_option maxHeartbeats 8000000 in
theorem pwrite_any (D F T G1 M1 B1 G2 M2 B2 : Int) (a1 a2 : Option Addr) (n1 n2 c1 c2 : Nat) (t1 t2 : List Tr) (w : World) (h1 : ReadsT w a1 n1 t1) (h2 : ReadsT w a2 n2 t2) (h0 : pchkP ⟨D, F, T, ⟨G1, M1, B1, t1⟩, ⟨G2, M2, B2, t2⟩⟩ = 0) :
    Calls Try.prog 6 #[plV D F T G1 M1 B1 G2 M2 B2 a1 a2 n1 n2 c1 c2] w (Wrote w (plB ⟨D, F, T, ⟨G1, M1, B1, t1⟩, ⟨G2, M2, B2, t2⟩⟩)) := by
  have hin := pl_in h0
  obtain ⟨⟨d1, d2⟩, ⟨f1, f2⟩, ⟨u1, u2⟩, hA, hO⟩ := hin
  dsimp only at d1 d2 f1 f2 u1 u2 hA hO
  have HA := Lib.hid hA
  have HO := Lib.hid hO
  have HC := Lib.hid (fun w' (ho : Only (fun _ => False) w w') => cplan_any D F T G1 M1 B1 G2 M2 B2 a1 a2 n1 n2 c1 c2 t1 t2 w' (h1.only ho (fun _ _ f => f)) (h2.only ho (fun _ _ f => f)))
  rw [show pchk D F T G1 M1 B1 G2 M2 B2 t1 t2 = 0 from h0] at HC
  have HT : Hid (ReadsT w a1 n1 t1 ∧ ReadsT w a2 n2 t2) := Lib.hid ⟨h1, h2⟩
  obtain ⟨w1, hw1⟩ : ∃ x, x = w.alloc (.cells #[.int .i64 D, .int .i64 F, .int .i64 T, .int .i64 G1, .int .i64 M1, .int .i64 B1, .slice a1 n1 c1, .int .i64 G2, .int .i64 M2, .int .i64 B2, .slice a2 n2 c2] 32) := ⟨_, rfl⟩
  obtain ⟨p1, hp1⟩ : ∃ x, x = w.heap.size := ⟨_, rfl⟩
  have HK1 : Hid (PlanAt w1 p1 D F T G1 M1 B1 G2 M2 B2 a1 a2 n1 n2 c1 c2) := Lib.hid (by rw [hw1, hp1]; exact PlanAt.new _ _ _ _ _ _ _ _ _ _ _ _ _ _ _ _)
  have HO1 : Hid (Only (fun _ => False) w w1) := Lib.hid (by rw [hw1]; exact (Only.refl _ _).alloc _)
  have HLA := Lib.hid (tarB_len hA)
  have HL3 : Hid ((enc D.toNat).length ≤ 11 ∧ (enc F.toNat).length ≤ 11 ∧ (enc T.toNat).length ≤ 11) := Lib.hid ⟨(enc_length _).1, (enc_length _).1, (enc_length _).1⟩
  unfold plV
  clear h1 h2 h0 hA hO
  go_enter Try.func6, Try.ntmps6
  go_upto_region 1 with fail
  simp only [← hw1, ← hp1]
  clear hw1 hp1
  obtain ⟨k0, k1, k2, k3, k4, k5, k6, k7, k8, k9, k10⟩ := id HK1.out
  go_wp2_with fail
  refine (HC.out w1 HO1.out).mono ?_
  rintro _ w2 ⟨rfl, ho⟩
  have HK2 := Lib.hid (HK1.out.only ho (fun f => f))
  have HO2 := Lib.hid (HO1.out.trans ho)
  clear ho k0 k1 k2 k3 k4 k5 k6 k7 k8 k9 k10 HC HK1 HO1
  go_upto_region 5 with fail
  obtain ⟨w3, hw3⟩ : ∃ x, x = w2.alloc (.cells #[.slice none 0 0, .int .i64 0] 48) := ⟨_, rfl⟩
  obtain ⟨wp, hwp⟩ : ∃ x, x = w2.heap.size := ⟨_, rfl⟩
  obtain ⟨Q, hQ⟩ : ∃ x, x = fun (g j : Nat) (u : Value) => g = p1 ∧ (#[.int .i64 D, .int .i64 F, .int .i64 T, .int .i64 G1, .int .i64 M1, .int .i64 B1, .slice a1 n1 c1, .int .i64 G2, .int .i64 M2, .int .i64 B2, .slice a2 n2 c2] : Array Value)[j]? = some u := ⟨_, rfl⟩
  have HQ : Hid (∀ j u, (#[.int .i64 D, .int .i64 F, .int .i64 T, .int .i64 G1, .int .i64 M1, .int .i64 B1, .slice a1 n1 c1, .int .i64 G2, .int .i64 M2, .int .i64 B2, .slice a2 n2 c2] : Array Value)[j]? = some u → Q p1 j u) := Lib.hid (fun j u e => by rw [hQ]; exact ⟨rfl, e⟩)
  have H3 : Hid (WrB w2 wp w3 [] Q) := Lib.hid (by
    rw [hw3, hwp]
    refine wb_new w2 _ Q (fun g j u q => ?_)
    rw [hQ] at q
    obtain ⟨rfl, q⟩ := q
    obtain ⟨k0, k1, k2, k3, k4, k5, k6, k7, k8, k9, k10⟩ := HK2.out
    match j, q with
    | 0, q => injection q with q; subst q; exact k0
    | 1, q => injection q with q; subst q; exact k1
    | 2, q => injection q with q; subst q; exact k2
    | 3, q => injection q with q; subst q; exact k3
    | 4, q => injection q with q; subst q; exact k4
    | 5, q => injection q with q; subst q; exact k5
    | 6, q => injection q with q; subst q; exact k6
    | 7, q => injection q with q; subst q; exact k7
    | 8, q => injection q with q; subst q; exact k8
    | 9, q => injection q with q; subst q; exact k9
    | 10, q => injection q with q; subst q; exact k10
    | j + 11, q => simp at q)
  simp only [← hw3, ← hwp]
  clear hw3 hwp hQ HK2
  have hd0 := H3.out.cell (HQ.out 0 _ rfl)
  go_wp2_with fail
  refine (wb_uint H3.out D d1 (by omega) (by simp)).mono ?_
  rintro _ w4 ⟨rfl, hwr⟩
  have H4 := Lib.hid hwr
  clear hwr hd0 H3
  have hd0 := H4.out.cell (HQ.out 1 _ rfl)
  go_wp2_with fail
  refine (wb_uint H4.out F f1 (by omega) (by have := HL3.out; simp only [List.length_append, List.length_nil]; omega)).mono ?_
  rintro _ w5 ⟨rfl, hwr⟩
  have H5 := Lib.hid hwr
  clear hwr hd0 H4
  have hd0 := H5.out.cell (HQ.out 2 _ rfl)
  go_wp2_with fail
  refine (wb_uint H5.out T u1 (by omega) (by have := HL3.out; simp only [List.length_append, List.length_nil]; omega)).mono ?_
  rintro _ w6 ⟨rfl, hwr⟩
  have H6 := Lib.hid hwr
  clear hwr hd0 H5
  have hd3 := H6.out.cell (HQ.out 3 _ rfl)
  have hd4 := H6.out.cell (HQ.out 4 _ rfl)
  have hd5 := H6.out.cell (HQ.out 5 _ rfl)
  have hd6 := H6.out.cell (HQ.out 6 _ rfl)
  go_wp2_with fail
  refine (twrite_any w2 w6 wp _ Q H6.out G1 M1 B1 t1 a1 n1 c1 (HT.out.1.only HO2.out (fun _ _ f => f)) HA.out (by have := HL3.out; simp only [List.length_append, List.length_nil]; omega)).mono ?_
  rintro _ w7 ⟨rfl, hwr⟩
  have H7 := Lib.hid hwr
  clear hwr hd3 hd4 hd5 hd6 H6
  have hd0 := H7.out.cell (HQ.out 0 _ rfl)
  by_cases hz : D = 0
  · have hzb : (D != 0) = false := by simp [hz]
    have HF : Hid ([] ++ enc D.toNat ++ enc F.toNat ++ enc T.toNat ++ tarB ⟨G1, M1, B1, t1⟩ = plB ⟨D, F, T, ⟨G1, M1, B1, t1⟩, ⟨G2, M2, B2, t2⟩⟩) := Lib.hid (by
      unfold plB; dsimp only; rw [if_pos hz]; simp only [List.append_assoc, List.nil_append, List.append_nil])
    have HBY := Lib.hid (wr_bytes H7.out.wr (by have := HL3.out; have := HLA.out; simp only [List.length_append, List.length_nil]; omega))
    rw [HF.out] at HBY
    clear H7 HF HA HO HT HLA HL3 HQ hz
    go_wp2_with fail
    refine HBY.out.mono ?_
    rintro _ w9 ⟨ra, rc, rfl, hb, hy, ho⟩
    have HFIN : Hid (Wrote w (plB ⟨D, F, T, ⟨G1, M1, B1, t1⟩, ⟨G2, M2, B2, t2⟩⟩) (.returned (.tuple #[.slice ra (plB ⟨D, F, T, ⟨G1, M1, B1, t1⟩, ⟨G2, M2, B2, t2⟩⟩).length rc, .int .i64 0])) w9) := Lib.hid ⟨ra, rc, rfl, hb, fun y e => ⟨by have := (hy y e).1; have := HO2.out.size; omega, (hy y e).2⟩, HO2.out.trans ho⟩
    clear hb hy ho HBY
    generalize plB ⟨D, F, T, ⟨G1, M1, B1, t1⟩, ⟨G2, M2, B2, t2⟩⟩ = WB at *
    generalize WB.length = wl at *
    go_wp2_with fail
    go_ret2
    exact HFIN.out
  · have hzb : (D != 0) = true := by simp [hz]
    have hO2 : TfIn ⟨G2, M2, B2, t2⟩ := by have := HO.out; rwa [if_neg hz] at this
    have HLO := Lib.hid (tarB_len hO2)
    have HF : Hid ([] ++ enc D.toNat ++ enc F.toNat ++ enc T.toNat ++ tarB ⟨G1, M1, B1, t1⟩ ++ tarB ⟨G2, M2, B2, t2⟩ = plB ⟨D, F, T, ⟨G1, M1, B1, t1⟩, ⟨G2, M2, B2, t2⟩⟩) := Lib.hid (by
      unfold plB; dsimp only; rw [if_neg hz]; simp only [List.append_assoc, List.nil_append])
    have HOO := Lib.hid hO2
    clear hO2 hz
    have hd7 := H7.out.cell (HQ.out 7 _ rfl)
    have hd8 := H7.out.cell (HQ.out 8 _ rfl)
    have hd9 := H7.out.cell (HQ.out 9 _ rfl)
    have hd10 := H7.out.cell (HQ.out 10 _ rfl)
    go_wp2_with fail
    refine (twrite_any w2 w7 wp _ Q H7.out G2 M2 B2 t2 a2 n2 c2 (HT.out.2.only HO2.out (fun _ _ f => f)) HOO.out (by have := HL3.out; have := HLA.out; simp only [List.length_append, List.length_nil]; omega)).mono ?_
    rintro _ w8 ⟨rfl, hwr⟩
    have HBY := Lib.hid (wr_bytes hwr.wr (by have := HL3.out; have := HLA.out; have := HLO.out; simp only [List.length_append, List.length_nil]; omega))
    rw [HF.out] at HBY
    clear hwr hd0 hd7 hd8 hd9 hd10 H7 HF HA HO HT HLA HL3 HQ HLO HOO
    go_wp2_with fail
    refine HBY.out.mono ?_
    rintro _ w9 ⟨ra, rc, rfl, hb, hy, ho⟩
    have HFIN : Hid (Wrote w (plB ⟨D, F, T, ⟨G1, M1, B1, t1⟩, ⟨G2, M2, B2, t2⟩⟩) (.returned (.tuple #[.slice ra (plB ⟨D, F, T, ⟨G1, M1, B1, t1⟩, ⟨G2, M2, B2, t2⟩⟩).length rc, .int .i64 0])) w9) := Lib.hid ⟨ra, rc, rfl, hb, fun y e => ⟨by have := (hy y e).1; have := HO2.out.size; omega, (hy y e).2⟩, HO2.out.trans ho⟩
    clear hb hy ho HBY
    generalize plB ⟨D, F, T, ⟨G1, M1, B1, t1⟩, ⟨G2, M2, B2, t2⟩⟩ = WB at *
    generalize WB.length = wl at *
    go_wp2_with fail
    go_ret2
    exact HFIN.out
end Go.Proofs.Ytfdaokjigjpomaa.tfw
namespace Go.Proofs.Ytfdaokjigjpomaa.tfw
open Go.RowKit mem codm codp codw tirm tirw rdr
set_option linter.unusedVariables false

set_option maxRecDepth 100000 in
set_option maxHeartbeats 8000000 in
theorem rpread_any (b : List Nat) (w : World) (hb : By b) : Calls Try.prog 14 #[.string (dskw.strN b)] w (ReadP w b) := by
  have HBY := Lib.hid hb
  have hsb : SOk (some b) := fun l hl => by injection hl with hl; rw [← hl]; exact hb
  obtain ⟨s1, hs1⟩ : ∃ x, x = (tfw.u40 (some b)).2 := ⟨_, rfl⟩
  obtain ⟨s2, hs2⟩ : ∃ x, x = (tfw.u40 s1).2 := ⟨_, rfl⟩
  obtain ⟨s3, hs3⟩ : ∃ x, x = (tfw.u40 s2).2 := ⟨_, rfl⟩
  obtain ⟨nD, hnD⟩ : ∃ x, x = (tfw.u40 (some b)).1 := ⟨_, rfl⟩
  obtain ⟨nF, hnF⟩ : ∃ x, x = (tfw.u40 s1).1 := ⟨_, rfl⟩
  obtain ⟨nT, hnT⟩ : ∃ x, x = (tfw.u40 s2).1 := ⟨_, rfl⟩
  have HS3 : Hid (SOk s3) := Lib.hid (by rw [hs3, hs2, hs1]; exact SOk.u40 (SOk.u40 (SOk.u40 hsb)))
  have HRDP : Hid (rdP b = (⟨(nD : Int), (nF : Int), (nT : Int), (rdT s3).1, (rdO nD (rdT s3).2).1⟩, (rdO nD (rdT s3).2).2)) := Lib.hid (by
    rw [hnD, hnF, hnT, hs3, hs2, hs1]; rfl)
  have HN1 : Hid ((uS 1099511627776 (some b)).1 = nD ∧ (uS 1099511627776 s1).1 = nF ∧ (uS 1099511627776 s2).1 = nT ∧ (uS 1099511627776 (some b)).2 = s1 ∧ (uS 1099511627776 s1).2 = s2 ∧ (uS 1099511627776 s2).2 = s3) := Lib.hid ⟨hnD.symm, hnF.symm, hnT.symm, hs1.symm, hs2.symm, hs3.symm⟩
  clear hnD hnF hnT hs1 hs2 hs3 hsb hb
  obtain ⟨w1, hw1⟩ : ∃ x, x = w.alloc (.cells #[.int .i64 0, .int .i64 0, .int .i64 0, .int .i64 0, .int .i64 0, .int .i64 0, .slice none 0 0, .int .i64 0, .int .i64 0, .int .i64 0, .slice none 0 0] 26) := ⟨_, rfl⟩
  obtain ⟨p2, hp2⟩ : ∃ x, x = w.heap.size := ⟨_, rfl⟩
  have hal1 : Only (fun _ => False) w w1 := by rw [hw1]; exact (Only.refl _ _).alloc _
  have HZ1 : Hid (PlanAt w1 p2 0 0 0 0 0 0 0 0 0 none none 0 0 0 0 ∧ ∀ k, w1.frozen? ⟨p2, k, none⟩ = false) := Lib.hid (by
    rw [hw1, hp2]
    exact ⟨PlanAt.new 0 0 0 0 0 0 0 0 0 none none 0 0 0 0 _, fun k => alloc_froz w _ _ _ k rfl⟩)
  have HO1 := Lib.hid hal1
  have HP2W : Hid (w.heap.size ≤ p2) := Lib.hid (by omega)
  have HP2L : Hid (p2 < w1.heap.size) := Lib.hid (World.block_lt_of_cell? w1 _ HZ1.out.1.1)
  clear hal1
  go_enter Try.func14, Try.ntmps14
  go_upto_region 1 with fail
  simp only [← hw1, ← hp2]
  clear hw1 hp2
  go_upto_region 2 with fail
  obtain ⟨w2, hw2⟩ : ∃ x, x = w1.alloc (.cells #[.string (dskw.strN b), .int .i64 0] 68) := ⟨_, rfl⟩
  obtain ⟨rp, hrp⟩ : ∃ x, x = w1.heap.size := ⟨_, rfl⟩
  have ho : Only (fun _ => False) w1 w2 := by rw [hw2]; exact (Only.refl _ _).alloc _
  have HR2 : Hid (RR w2 rp (some b)) := Lib.hid (by rw [hw2, hrp]; exact ⟨b, 0, ⟨by simp, by simp, by simp, by simp⟩, HBY.out, rfl, rfl⟩)
  have HO2 := Lib.hid (HO1.out.trans ho)
  have HRP : Hid (w1.heap.size ≤ rp) := Lib.hid (by omega)
  have HZ2 : Hid (PlanAt w2 p2 0 0 0 0 0 0 0 0 0 none none 0 0 0 0 ∧ ∀ k, w2.frozen? ⟨p2, k, none⟩ = false) := Lib.hid ⟨HZ1.out.1.only ho (fun f => f), fun k => (ho.frozen (p := ⟨p2, k, none⟩) HP2L.out (fun f => f)).trans (HZ1.out.2 k)⟩
  simp only [← hw2, ← hrp]
  clear hw2 hrp ho HZ1 HO1
  have HPR : Hid (¬ p2 = rp ∧ w.heap.size ≤ rp) := Lib.hid ⟨by have := HP2L.out; have := HRP.out; omega, by have := HRP.out; have := HP2L.out; have := HP2W.out; omega⟩
  have HOR2 : Hid (Only (fun q => q = rp) w2 w2) := Lib.hid (Only.refl _ _)
  go_wp2_with fail
  refine (ruint_s rp 1099511627776 (some b) w2 HR2.out (by omega)).mono ?_
  rintro _ w3 ⟨rfl, hrs, ho⟩
  rw [HN1.out.2.2.2.1] at hrs
  have HR3 := Lib.hid hrs
  have HOR3 := Lib.hid (HOR2.out.trans ho)
  clear hrs ho HR2 HOR2
  rw [HN1.out.1]
  go_upto_region 3 with fail
  obtain ⟨w4, hw4⟩ : ∃ x, x = w3.alloc (.cells #[.int .i64 nD, .int .i64 0, .int .i64 0, .int .i64 0, .int .i64 0, .int .i64 0, .slice none 0 0, .int .i64 0, .int .i64 0, .int .i64 0, .slice none 0 0] 26) := ⟨_, rfl⟩
  obtain ⟨p5, hp5⟩ : ∃ x, x = w3.heap.size := ⟨_, rfl⟩
  have ho4 : Only (fun _ => False) w3 w4 := by rw [hw4]; exact (Only.refl _ _).alloc _
  have HK4 : Hid (PlanAt w4 p5 (nD : Int) 0 0 0 0 0 0 0 0 none none 0 0 0 0 ∧ ∀ k, w4.frozen? ⟨p5, k, none⟩ = false) := Lib.hid (by
    rw [hw4, hp5]
    exact ⟨PlanAt.new _ _ _ _ _ _ _ _ _ _ _ _ _ _ _ _, fun k => alloc_froz w3 _ _ _ k rfl⟩)
  have HR4 : Hid (RR w4 rp s1) := Lib.hid (HR3.out.only ho4 (fun f => f))
  have HP5 : Hid (p5 ≠ rp ∧ p5 ≠ p2 ∧ w2.heap.size ≤ p5) := Lib.hid (by
    have := RR.lt HR3.out
    have h1 := HOR3.out.size
    have h2 := HP2L.out
    have h3 := HRP.out
    have h4 := World.block_lt_of_cell? w2 _ HZ2.out.1.1
    dsimp only at h4
    omega)
  have HOR4 : Hid (Only (fun q => q = rp) w2 w4) := Lib.hid (HOR3.out.trans (ho4.mono (fun _ _ f => f.elim)))
  simp only [← hw4, ← hp5]
  clear hw4 hp5 ho4 HR3 HOR3
  go_wp2_with fail
  refine (ruint_s rp 1099511627776 s1 w4 HR4.out (by omega)).mono ?_
  rintro _ w4a ⟨rfl, hrs, ho⟩
  rw [HN1.out.2.2.2.2.1] at hrs
  have y1 := ho.cell' HK4.out.1.2.1 HP5.out.1
  have hl4 := World.block_lt_of_cell? w4 _ HK4.out.1.1
  have y2 := (ho.frozen (p := ⟨p5, 1, none⟩) hl4 HP5.out.1).trans (HK4.out.2 1)
  rw [HN1.out.2.1]
  go_upto_region 4 with fail
  obtain ⟨w5, hw5⟩ : ∃ x, x = w4a.setCell ⟨p5, 1, none⟩ (.int .i64 nF) := ⟨_, rfl⟩
  have hst : Only (fun q => q = p5) w4a w5 := by rw [hw5]; exact Only.set _ _ p5 1 _ rfl
  have HK5 : Hid (PlanAt w5 p5 (nD : Int) (nF : Int) 0 0 0 0 0 0 0 none none 0 0 0 0 ∧ ∀ k, w5.frozen? ⟨p5, k, none⟩ = false) := Lib.hid (by
    obtain ⟨k0, k1, k2, k3, k4, k5, k6, k7, k8, k9, k10⟩ := HK4.out.1.only ho HP5.out.1
    rw [hw5]
    exact ⟨⟨by rw [cell_other (off_ne (by omega))]; exact k0, cell_same k1, by rw [cell_other (off_ne (by omega))]; exact k2, by rw [cell_other (off_ne (by omega))]; exact k3, by rw [cell_other (off_ne (by omega))]; exact k4, by rw [cell_other (off_ne (by omega))]; exact k5, by rw [cell_other (off_ne (by omega))]; exact k6, by rw [cell_other (off_ne (by omega))]; exact k7, by rw [cell_other (off_ne (by omega))]; exact k8, by rw [cell_other (off_ne (by omega))]; exact k9, by rw [cell_other (off_ne (by omega))]; exact k10⟩, fun k => frozen_set.trans ((ho.frozen (p := ⟨p5, k, none⟩) hl4 HP5.out.1).trans (HK4.out.2 k))⟩)
  have HR5 : Hid (RR w5 rp s2) := Lib.hid (hrs.only hst (fun e => HP5.out.1 e.symm))
  have HOR5 : Hid (Only (fun q => q = rp) w2 w5) := Lib.hid ((HOR4.out.trans ho).then hst (fun q hq e => by have := HP5.out.2.2; omega))
  simp only [← hw5]
  clear hw5 y1 y2 hrs ho hst hl4 HK4 HR4 HOR4
  go_wp2_with fail
  refine (ruint_s rp 1099511627776 s2 w5 HR5.out (by omega)).mono ?_
  rintro _ w5a ⟨rfl, hrs, ho⟩
  rw [HN1.out.2.2.2.2.2] at hrs
  have y1 := ho.cell' HK5.out.1.2.2.1 HP5.out.1
  have hl4 := World.block_lt_of_cell? w5 _ HK5.out.1.1
  have y2 := (ho.frozen (p := ⟨p5, 2, none⟩) hl4 HP5.out.1).trans (HK5.out.2 2)
  rw [HN1.out.2.2.1]
  go_upto_region 5 with fail
  obtain ⟨w6, hw6⟩ : ∃ x, x = w5a.setCell ⟨p5, 2, none⟩ (.int .i64 nT) := ⟨_, rfl⟩
  have hst : Only (fun q => q = p5) w5a w6 := by rw [hw6]; exact Only.set _ _ p5 2 _ rfl
  have HK6 : Hid (PlanAt w6 p5 (nD : Int) (nF : Int) (nT : Int) 0 0 0 0 0 0 none none 0 0 0 0 ∧ ∀ k, w6.frozen? ⟨p5, k, none⟩ = false) := Lib.hid (by
    obtain ⟨k0, k1, k2, k3, k4, k5, k6, k7, k8, k9, k10⟩ := HK5.out.1.only ho HP5.out.1
    rw [hw6]
    exact ⟨⟨by rw [cell_other (off_ne (by omega))]; exact k0, by rw [cell_other (off_ne (by omega))]; exact k1, cell_same k2, by rw [cell_other (off_ne (by omega))]; exact k3, by rw [cell_other (off_ne (by omega))]; exact k4, by rw [cell_other (off_ne (by omega))]; exact k5, by rw [cell_other (off_ne (by omega))]; exact k6, by rw [cell_other (off_ne (by omega))]; exact k7, by rw [cell_other (off_ne (by omega))]; exact k8, by rw [cell_other (off_ne (by omega))]; exact k9, by rw [cell_other (off_ne (by omega))]; exact k10⟩, fun k => frozen_set.trans ((ho.frozen (p := ⟨p5, k, none⟩) hl4 HP5.out.1).trans (HK5.out.2 k))⟩)
  have HR6 : Hid (RR w6 rp s3) := Lib.hid (hrs.only hst (fun e => HP5.out.1 e.symm))
  have HOR6 : Hid (Only (fun q => q = rp) w2 w6) := Lib.hid ((HOR5.out.trans ho).then hst (fun q hq e => by have := HP5.out.2.2; omega))
  simp only [← hw6]
  clear hw6 y1 y2 hrs ho hst hl4 HK5 HR5 HOR5
  have HTR := Lib.hid (rtake_any rp s3 w6 HR6.out)
  go_wp2_with fail
  refine HTR.out.mono ?_
  rintro _ w7 ⟨v, K, rfl, hown, hKe, hKin, hKl, hvw, hrs, ho⟩
  obtain ⟨ua, uc, rfl, hrd⟩ := hown.reads (in_of hKin) (by omega)
  obtain ⟨un, hun⟩ : ∃ x, x = K.length := ⟨_, rfl⟩
  rw [← hun] at hrd ⊢
  obtain ⟨uG, huG⟩ : ∃ x, x = (rdT s3).1.g := ⟨_, rfl⟩
  obtain ⟨uM, huM⟩ : ∃ x, x = (rdT s3).1.m := ⟨_, rfl⟩
  obtain ⟨uB, huB⟩ : ∃ x, x = (rdT s3).1.b := ⟨_, rfl⟩
  rw [← huG, ← huM, ← huB]
  have hk := HK6.out.1.only ho HP5.out.1
  have hl4 := World.block_lt_of_cell? w6 _ HK6.out.1.1
  have hfz : ∀ k, w7.frozen? ⟨p5, k, none⟩ = false := fun k => (ho.frozen (p := ⟨p5, k, none⟩) hl4 HP5.out.1).trans (HK6.out.2 k)
  have y3 := hk.2.2.2.1
  have x3 := hfz 3
  have y4 := hk.2.2.2.2.1
  have x4 := hfz 4
  have y5 := hk.2.2.2.2.2.1
  have x5 := hfz 5
  have y6 := hk.2.2.2.2.2.2.1
  have x6 := hfz 6
  go_upto_region 6 with fail
  try simp only [← huG, ← huM, ← huB, ← hun]
  obtain ⟨w8, hw8⟩ : ∃ x, x = ((((w7.setCell ⟨p5, 3, none⟩ (.int .i64 uG)).setCell ⟨p5, 4, none⟩ (.int .i64 uM)).setCell ⟨p5, 5, none⟩ (.int .i64 uB)).setCell ⟨p5, 6, none⟩ (.slice ua un uc)) := ⟨_, rfl⟩
  have hst := (PlanAt.setA hk uG uM uB ua un uc).2
  rw [← hw8] at hst
  have HK8 : Hid (PlanAt w8 p5 (nD : Int) (nF : Int) (nT : Int) uG uM uB 0 0 0 ua none un 0 uc 0 ∧ ∀ k, w8.frozen? ⟨p5, k, none⟩ = false) := Lib.hid ⟨by rw [hw8]; exact (PlanAt.setA hk uG uM uB ua un uc).1, fun k => by rw [hw8]; exact frozen_set.trans (frozen_set.trans (frozen_set.trans (frozen_set.trans (hfz k))))⟩
  have hvp : ∀ y, ua = some y → ¬ y.block = p5 := fun y e => by have := hvw y.block (by rw [e]; rfl); omega
  have HT8 : Hid (ReadsT w8 ua un K ∧ (∀ y, ua = some y → w6.heap.size ≤ y.block)) := Lib.hid ⟨hrd.only hst hvp, fun y e => hvw y.block (by rw [e]; rfl)⟩
  have HR8 : Hid (RR w8 rp (rdT s3).2) := Lib.hid (hrs.only hst (fun e => HP5.out.1 e.symm))
  have HOR8 : Hid (Only (fun q => q = rp) w2 w8) := Lib.hid ((HOR6.out.trans ho).then hst (fun q hq e => by have := HP5.out.2.2; omega))
  have HKE : Hid ((rdT s3).2 = none ∨ K = (rdT s3).1.ts) := Lib.hid hKe
  have HUG : Hid ((rdT s3).1.g = uG ∧ (rdT s3).1.m = uM ∧ (rdT s3).1.b = uB) := Lib.hid ⟨huG.symm, huM.symm, huB.symm⟩
  have HUP : Hid (∀ y, ua = some y → ¬ y.block = p5) := Lib.hid hvp
  have HU2 : Hid (∀ y, ua = some y → ¬ y.block = p2) := Lib.hid (fun y e q => by have := hvw y.block (by rw [e]; rfl); have := World.block_lt_of_cell? w2 _ HZ2.out.1.1; have := HOR6.out.size; dsimp only at *; omega)
  have HUR : Hid (∀ y, ua = some y → ¬ y.block = rp) := Lib.hid (fun y e q => by have := hvw y.block (by rw [e]; rfl); have := RR.lt HR6.out; omega)
  simp only [← hw8]
  clear hw8 hst hvp hown hvw hrs ho hrd hk hl4 hfz hKin hKl hKe huG huM huB hun HTR HK6 HR6 HOR6 y3 y4 y5 y6 x3 x4 x5 x6
  obtain ⟨s4, hs4⟩ : ∃ x, (rdT s3).2 = x := ⟨_, rfl⟩
  rw [hs4] at HR8 HKE HRDP
  have HS4 : Hid (SOk s4) := Lib.hid (by rw [← hs4]; exact SOk.tar HS3.out)
  have HSE4 := Lib.hid hs4
  clear hs4
  have y0 := HK8.out.1.1
  go_upto_if 24 with fail
  go_cut [] from 24 to 27 (fun wx => ∃ (O : Tf) (oa : Option Addr) (on oc : Nat) (s5 : Option (List Nat)), Hid (EqP b ⟨(nD : Int), (nF : Int), (nT : Int), ⟨uG, uM, uB, K⟩, O⟩ s5) ∧ Hid (PlanAt wx p5 (nD : Int) (nF : Int) (nT : Int) uG uM uB O.g O.m O.b ua oa un on uc oc) ∧ Hid (ReadsT wx ua un K ∧ ReadsT wx oa on O.ts) ∧ Hid ((∀ y, ua = some y → ¬ y.block = p2) ∧ ∀ y, oa = some y → ¬ y.block = p2) ∧ Hid (RR wx rp s5) ∧ Hid (Only (fun q => q = rp) w2 wx))
  case first =>
    by_cases hd : nD = 0
    · have hdz : ((nD : Int) != 0) = false := by simp [hd]
      go_wp2_with fail
      go_meet
      refine ⟨Tf.zero, none, 0, 0, s4, Lib.hid ?_, Lib.hid HK8.out.1, Lib.hid ⟨HT8.out.1, reads_nil _⟩, Lib.hid ⟨HU2.out, fun y e => by cases e⟩, HR8, HOR8⟩
      have e := HRDP.out
      unfold rdO at e
      rw [if_pos hd] at e
      refine ⟨by rw [e], ?_⟩
      rcases HKE.out with q | q
      · exact .inl q
      · refine .inr ?_
        rw [e]
        dsimp only
        rw [q, ← HUG.out.1, ← HUG.out.2.1, ← HUG.out.2.2]
    · have hdz : ((nD : Int) != 0) = true := by simp [hd]
      have HTR := Lib.hid (rtake_any rp s4 w8 HR8.out)
      go_wp2_with fail
      refine HTR.out.mono ?_
      rintro _ w9 ⟨v, K2, rfl, hown, hKe, hKin, hKl, hvw, hrs, ho⟩
      obtain ⟨oa, oc, rfl, hrd⟩ := hown.reads (in_of hKin) (by omega)
      obtain ⟨on, hon⟩ : ∃ x, x = K2.length := ⟨_, rfl⟩
      rw [← hon] at hrd ⊢
      obtain ⟨oG, hoG⟩ : ∃ x, x = (rdT s4).1.g := ⟨_, rfl⟩
      obtain ⟨oM, hoM⟩ : ∃ x, x = (rdT s4).1.m := ⟨_, rfl⟩
      obtain ⟨oB, hoB⟩ : ∃ x, x = (rdT s4).1.b := ⟨_, rfl⟩
      rw [← hoG, ← hoM, ← hoB]
      have hk := HK8.out.1.only ho HP5.out.1
      have hl4 := World.block_lt_of_cell? w8 _ HK8.out.1.1
      have hfz : ∀ k, w9.frozen? ⟨p5, k, none⟩ = false := fun k => (ho.frozen (p := ⟨p5, k, none⟩) hl4 HP5.out.1).trans (HK8.out.2 k)
      have y7 := hk.2.2.2.2.2.2.2.1
      have x7 := hfz 7
      have y8 := hk.2.2.2.2.2.2.2.2.1
      have x8 := hfz 8
      have y9 := hk.2.2.2.2.2.2.2.2.2.1
      have x9 := hfz 9
      have y10 := hk.2.2.2.2.2.2.2.2.2.2
      have x10 := hfz 10
      go_wp2_with fail
      try simp only [← hoG, ← hoM, ← hoB, ← hon]
      obtain ⟨w10, hw10⟩ : ∃ x, x = ((((w9.setCell ⟨p5, 7, none⟩ (.int .i64 oG)).setCell ⟨p5, 8, none⟩ (.int .i64 oM)).setCell ⟨p5, 9, none⟩ (.int .i64 oB)).setCell ⟨p5, 10, none⟩ (.slice oa on oc)) := ⟨_, rfl⟩
      rw [← hw10]
      have hst := (PlanAt.setB hk oG oM oB oa on oc).2
      rw [← hw10] at hst
      have hvp : ∀ y, oa = some y → ¬ y.block = p5 := fun y e => by have := hvw y.block (by rw [e]; rfl); omega
      have hup : ∀ y, ua = some y → ¬ y.block = p5 := fun y e q => HUP.out y e q
      go_meet
      refine ⟨⟨oG, oM, oB, K2⟩, oa, on, oc, (rdT s4).2, Lib.hid ?_, Lib.hid (by rw [hw10]; exact (PlanAt.setB hk oG oM oB oa on oc).1), Lib.hid ⟨(HT8.out.1.only ho (fun y e q => HUR.out y e q)).only hst hup, hrd.only hst hvp⟩, Lib.hid ⟨HU2.out, fun y e q => by have := hvw y.block (by rw [e]; rfl); have := World.block_lt_of_cell? w2 _ HZ2.out.1.1; have := HOR8.out.size; dsimp only at *; omega⟩, Lib.hid (hrs.only hst (fun e => HP5.out.1 e.symm)), Lib.hid ((HOR8.out.trans ho).then hst (fun q hq e => by have := HP5.out.2.2; omega))⟩
      have e := HRDP.out
      unfold rdO at e
      rw [if_neg hd] at e
      refine ⟨by rw [e], ?_⟩
      rcases hKe with q | q
      · exact .inl q
      · rcases HKE.out with q2 | q2
        · refine .inl ?_
          rw [q2]
          exact rdT_none
        · refine .inr ?_
          rw [e]
          dsimp only
          rw [q, q2, ← HUG.out.1, ← HUG.out.2.1, ← HUG.out.2.2, hoG, hoM, hoB]
  case rest =>
    rename World => wx
    obtain ⟨⟨oG, oM, oB, K2⟩, oa, on, oc, s5, HEQ, HPX, HTX, HA2, HRX, HOX2⟩ := hcut
    dsimp only at HEQ HPX HTX
    have HOX : Hid (Only (fun _ => False) w wx) := Lib.hid (HO2.out.then HOX2.out (fun q hq e => by have := HPR.out.2; omega))
    have HLZ : Hid (p2 < w2.heap.size) := Lib.hid (World.block_lt_of_cell? w2 _ HZ2.out.1.1)
    have HP2 : Hid (PlanAt wx p2 0 0 0 0 0 0 0 0 0 none none 0 0 0 0 ∧ ∀ k, wx.frozen? ⟨p2, k, none⟩ = false) := Lib.hid ⟨HZ2.out.1.only HOX2.out HPR.out.1, fun k => (HOX2.out.frozen (p := ⟨p2, k, none⟩) HLZ.out HPR.out.1).trans (HZ2.out.2 k)⟩
    have HEN := Lib.hid (rend_s rp s5 wx HRX.out)
    clear HZ2 HOX2 HRX HT8 HR8 HK8 HOR8 HKE HUG HRDP HUP HUR HU2 y0
    go_wp2_with fail
    refine HEN.out.mono ?_
    rintro _ _ ⟨⟨er, rfl, her⟩, rfl⟩
    have HER := Lib.hid her
    clear her HEN
    by_cases h0 : er = 0
    · have HS5 : Hid (s5 = some []) := Lib.hid (HER.out.1 h0)
      subst h0
      clear HER
      obtain ⟨k0, k1, k2, k3, k4, k5, k6, k7, k8, k9, k10⟩ := id HPX.out
      go_wp2_with fail
      refine (rcplan_any (nD : Int) (nF : Int) (nT : Int) uG uM uB oG oM oB ua oa un on uc oc K K2 wx HTX.out.1 HTX.out.2).mono ?_
      rintro _ wy ⟨rfl, ho⟩
      have HOXY := Lib.hid ho
      replace HOX := Lib.hid (HOX.out.trans ho)
      have HLX : Hid (p2 < wx.heap.size) := Lib.hid (World.block_lt_of_cell? wx _ HP2.out.1.1)
      have HP2Y : Hid (PlanAt wy p2 0 0 0 0 0 0 0 0 0 none none 0 0 0 0 ∧ ∀ k, wy.frozen? ⟨p2, k, none⟩ = false) := Lib.hid ⟨HP2.out.1.only ho (fun f => f), fun k => (ho.frozen (p := ⟨p2, k, none⟩) HLX.out (fun f => f)).trans (HP2.out.2 k)⟩
      have HPY := Lib.hid (HPX.out.only ho (fun f => f))
      have HTY : Hid (ReadsT wy ua un K ∧ ReadsT wy oa on K2) := Lib.hid ⟨HTX.out.1.only ho (fun _ _ f => f), HTX.out.2.only ho (fun _ _ f => f)⟩
      clear ho HP2 HPX HTX HOXY k0 k1 k2 k3 k4 k5 k6 k7 k8 k9 k10
      have HP2 := HP2Y
      have HERR := Lib.hid (err_plan HEQ.out HS5.out)
      obtain ⟨pc, hpc⟩ : ∃ x, pchk (nD : Int) (nF : Int) (nT : Int) uG uM uB oG oM oB K K2 = x := ⟨_, rfl⟩
      have HPC : Hid (pchkP ⟨(nD : Int), (nF : Int), (nT : Int), ⟨uG, uM, uB, K⟩, ⟨oG, oM, oB, K2⟩⟩ = pc) := Lib.hid hpc
      rw [hpc]
      clear hpc
      obtain ⟨j0, j1, j2, j3, j4, j5, j6, j7, j8, j9, j10⟩ := id HP2.out.1
      have f0 := HP2.out.2 0
      have f1 := HP2.out.2 1
      have f2 := HP2.out.2 2
      have f3 := HP2.out.2 3
      have f4 := HP2.out.2 4
      have f5 := HP2.out.2 5
      have f6 := HP2.out.2 6
      have f7 := HP2.out.2 7
      have f8 := HP2.out.2 8
      have f9 := HP2.out.2 9
      have f10 := HP2.out.2 10
      by_cases hp0 : pc = 0
      · subst hp0
        obtain ⟨k0, k1, k2, k3, k4, k5, k6, k7, k8, k9, k10⟩ := id HPY.out
        go_wp2_with fail
        obtain ⟨wf, hwf⟩ : ∃ x, x = (((((((((((wy.setCell ⟨p2, 0, none⟩ (.int .i64 nD)).setCell ⟨p2, 1, none⟩ (.int .i64 nF)).setCell ⟨p2, 2, none⟩ (.int .i64 nT)).setCell ⟨p2, 3, none⟩ (.int .i64 uG)).setCell ⟨p2, 4, none⟩ (.int .i64 uM)).setCell ⟨p2, 5, none⟩ (.int .i64 uB)).setCell ⟨p2, 6, none⟩ (.slice ua un uc)).setCell ⟨p2, 7, none⟩ (.int .i64 oG)).setCell ⟨p2, 8, none⟩ (.int .i64 oM)).setCell ⟨p2, 9, none⟩ (.int .i64 oB)).setCell ⟨p2, 10, none⟩ (.slice oa on oc)) := ⟨_, rfl⟩
        rw [← hwf]
        have hsa := PlanAt.setAll HP2.out.1 (nD : Int) (nF : Int) (nT : Int) uG uM uB oG oM oB ua oa un on uc oc
        rw [← hwf] at hsa
        obtain ⟨⟨z0, z1, z2, z3, z4, z5, z6, z7, z8, z9, z10⟩, hso⟩ := hsa
        have HOF : Hid (Only (fun _ => False) w wf) := Lib.hid (HOX.out.then hso (fun q hq e => by have := HP2W.out; omega))
        clear hwf j0 j1 j2 j3 j4 j5 j6 j7 j8 j9 j10 f0 f1 f2 f3 f4 f5 f6 f7 f8 f9 f10
        refine bodyPost_ret (v := .tuple #[plV (nD : Int) (nF : Int) (nT : Int) uG uM uB oG oM oB ua oa un on uc oc, .int .i64 0]) (by simp [results, Try.results14, go_sem, plV, z0, z1, z2, z3, z4, z5, z6, z7, z8, z9, z10]) rfl ?_
        exact read_good HOF.out HEQ.out HS5.out HPC.out (HTY.out.1.only hso (fun y e q => HA2.out.1 y e q)) (HTY.out.2.only hso (fun y e q => HA2.out.2 y e q))

      · have hpb : (pc == 0) = false := by simpa using hp0
        have HP0 := Lib.hid hp0
        clear hp0
        go_wp2_with fail
        obtain ⟨wf, hwf⟩ : ∃ x, x = (((((((((((wy.setCell ⟨p2, 0, none⟩ (.int .i64 0)).setCell ⟨p2, 1, none⟩ (.int .i64 0)).setCell ⟨p2, 2, none⟩ (.int .i64 0)).setCell ⟨p2, 3, none⟩ (.int .i64 0)).setCell ⟨p2, 4, none⟩ (.int .i64 0)).setCell ⟨p2, 5, none⟩ (.int .i64 0)).setCell ⟨p2, 6, none⟩ (.slice none 0 0)).setCell ⟨p2, 7, none⟩ (.int .i64 0)).setCell ⟨p2, 8, none⟩ (.int .i64 0)).setCell ⟨p2, 9, none⟩ (.int .i64 0)).setCell ⟨p2, 10, none⟩ (.slice none 0 0)) := ⟨_, rfl⟩
        rw [← hwf]
        have hsa := PlanAt.setAll HP2.out.1 0 0 0 0 0 0 0 0 0 none none 0 0 0 0
        rw [← hwf] at hsa
        obtain ⟨⟨z0, z1, z2, z3, z4, z5, z6, z7, z8, z9, z10⟩, hso⟩ := hsa
        have HOF : Hid (Only (fun _ => False) w wf) := Lib.hid (HOX.out.then hso (fun q hq e => by have := HP2W.out; omega))
        clear hwf j0 j1 j2 j3 j4 j5 j6 j7 j8 j9 j10 f0 f1 f2 f3 f4 f5 f6 f7 f8 f9 f10
        refine bodyPost_ret (v := .tuple #[plV 0 0 0 0 0 0 0 0 0 none none 0 0 0 0, .int .i64 pc]) (by simp [results, Try.results14, go_sem, plV, z0, z1, z2, z3, z4, z5, z6, z7, z8, z9, z10]) rfl ?_
        exact read_bad HOF.out (HERR.out.1.trans HPC.out) HP0.out

    · have HB5 := Lib.hid (err_end HEQ.out (fun q => h0 (HER.out.2 q)))
      have heb : (er == 0) = false := by simpa using h0
      clear h0 HER
      obtain ⟨j0, j1, j2, j3, j4, j5, j6, j7, j8, j9, j10⟩ := id HP2.out.1
      have f0 := HP2.out.2 0
      have f1 := HP2.out.2 1
      have f2 := HP2.out.2 2
      have f3 := HP2.out.2 3
      have f4 := HP2.out.2 4
      have f5 := HP2.out.2 5
      have f6 := HP2.out.2 6
      have f7 := HP2.out.2 7
      have f8 := HP2.out.2 8
      have f9 := HP2.out.2 9
      have f10 := HP2.out.2 10
      go_wp2_with fail
      obtain ⟨wf, hwf⟩ : ∃ x, x = (((((((((((wx.setCell ⟨p2, 0, none⟩ (.int .i64 0)).setCell ⟨p2, 1, none⟩ (.int .i64 0)).setCell ⟨p2, 2, none⟩ (.int .i64 0)).setCell ⟨p2, 3, none⟩ (.int .i64 0)).setCell ⟨p2, 4, none⟩ (.int .i64 0)).setCell ⟨p2, 5, none⟩ (.int .i64 0)).setCell ⟨p2, 6, none⟩ (.slice none 0 0)).setCell ⟨p2, 7, none⟩ (.int .i64 0)).setCell ⟨p2, 8, none⟩ (.int .i64 0)).setCell ⟨p2, 9, none⟩ (.int .i64 0)).setCell ⟨p2, 10, none⟩ (.slice none 0 0)) := ⟨_, rfl⟩
      rw [← hwf]
      have hsa := PlanAt.setAll HP2.out.1 0 0 0 0 0 0 0 0 0 none none 0 0 0 0
      rw [← hwf] at hsa
      obtain ⟨⟨z0, z1, z2, z3, z4, z5, z6, z7, z8, z9, z10⟩, hso⟩ := hsa
      have HOF : Hid (Only (fun _ => False) w wf) := Lib.hid (HOX.out.then hso (fun q hq e => by have := HP2W.out; omega))
      clear hwf j0 j1 j2 j3 j4 j5 j6 j7 j8 j9 j10 f0 f1 f2 f3 f4 f5 f6 f7 f8 f9 f10
      refine bodyPost_ret (v := .tuple #[plV 0 0 0 0 0 0 0 0 0 none none 0 0 0 0, .int .i64 2]) (by simp [results, Try.results14, go_sem, plV, z0, z1, z2, z3, z4, z5, z6, z7, z8, z9, z10]) rfl ?_
      exact read_bad HOF.out HB5.out (by omega)
end Go.Proofs.Ytfdaokjigjpomaa.tfw
namespace Go.Proofs.Ytfdaokjigjpomaa.tfw
open Go.RowKit mem codm codp codw tirm tirw
set_option linter.unusedVariables false

theorem set4 {w : World} {g : Nat} {u0 u1 u2 u3 : Value} (v0 v1 v2 v3 : Value) (r0 : w.cell? ⟨g, 0, none⟩ = some u0) (r1 : w.cell? ⟨g, 1, none⟩ = some u1) (r2 : w.cell? ⟨g, 2, none⟩ = some u2) (r3 : w.cell? ⟨g, 3, none⟩ = some u3) :
    ((((w.setCell ⟨g, 0, none⟩ v0).setCell ⟨g, 1, none⟩ v1).setCell ⟨g, 2, none⟩ v2).setCell ⟨g, 3, none⟩ v3).cell? ⟨g, 0, none⟩ = some v0 ∧ ((((w.setCell ⟨g, 0, none⟩ v0).setCell ⟨g, 1, none⟩ v1).setCell ⟨g, 2, none⟩ v2).setCell ⟨g, 3, none⟩ v3).cell? ⟨g, 1, none⟩ = some v1 ∧ ((((w.setCell ⟨g, 0, none⟩ v0).setCell ⟨g, 1, none⟩ v1).setCell ⟨g, 2, none⟩ v2).setCell ⟨g, 3, none⟩ v3).cell? ⟨g, 2, none⟩ = some v2 ∧ ((((w.setCell ⟨g, 0, none⟩ v0).setCell ⟨g, 1, none⟩ v1).setCell ⟨g, 2, none⟩ v2).setCell ⟨g, 3, none⟩ v3).cell? ⟨g, 3, none⟩ = some v3 ∧ Only (fun q => q = g) w ((((w.setCell ⟨g, 0, none⟩ v0).setCell ⟨g, 1, none⟩ v1).setCell ⟨g, 2, none⟩ v2).setCell ⟨g, 3, none⟩ v3) := by
  refine ⟨?_, ?_, ?_, ?_, ?_⟩
  · rw [cell_other (off_ne (by omega)), cell_other (off_ne (by omega)), cell_other (off_ne (by omega))]
    exact cell_same r0
  · rw [cell_other (off_ne (by omega)), cell_other (off_ne (by omega))]
    exact cell_same (by rw [cell_other (off_ne (by omega))]; exact r1)
  · rw [cell_other (off_ne (by omega))]
    exact cell_same (by rw [cell_other (off_ne (by omega)), cell_other (off_ne (by omega))]; exact r2)
  · exact cell_same (by rw [cell_other (off_ne (by omega)), cell_other (off_ne (by omega)), cell_other (off_ne (by omega))]; exact r3)
  · exact (((Only.set (fun q => q = g) _ g 0 _ rfl).trans (Only.set (fun q => q = g) _ g 1 _ rfl)).trans (Only.set (fun q => q = g) _ g 2 _ rfl)).trans (Only.set (fun q => q = g) _ g 3 _ rfl)
set_option maxRecDepth 100000 in
set_option maxHeartbeats 4000000 in
theorem plain_any (p : Int) (hp : InI p) (w : World) : Calls Try.prog 21 #[.int .i64 p] w fun e w' => ∃ g, e = .returned (.agg #[.int .i64 1, .int .i64 1, .int .i64 1, .slice (some ⟨g, 0, none⟩) 1 1]) ∧ ReadsT w' (some ⟨g, 0, none⟩) 1 [⟨0, p⟩] ∧ Only (fun _ => False) w w' := by
  obtain ⟨w1, hw1⟩ : ∃ x, x = w.alloc (.cells #[.int .i64 0, .int .i64 0, .int .i64 0, .slice none 0 0] 24) := ⟨_, rfl⟩
  obtain ⟨g2, hg2⟩ : ∃ x, x = w.heap.size := ⟨_, rfl⟩
  obtain ⟨W2, hW2⟩ : ∃ x, x = w1.alloc (.cells #[.int .i64 0, .int .i64 p] 74) := ⟨_, rfl⟩
  have ha1 : Only (fun _ => False) w w1 := by rw [hw1]; exact (Only.refl _ _).alloc _
  have ha2 : Only (fun _ => False) w1 W2 := by rw [hW2]; exact (Only.refl _ _).alloc _
  have hc : ∀ j u, (#[.int .i64 0, .int .i64 0, .int .i64 0, .slice none 0 0] : Array Value)[j]? = some u → W2.cell? ⟨g2, j, none⟩ = some u := fun j u e => ha2.cell' (by rw [hw1]; exact alloc_new w _ _ g2 j u hg2 e) (fun f => f)
  have hl : g2 < w1.heap.size := World.block_lt_of_cell? w1 ⟨g2, 0, none⟩ (u := .int .i64 0) (by rw [hw1]; exact alloc_new w _ _ g2 0 _ hg2 rfl)
  have hf : ∀ k, W2.frozen? ⟨g2, k, none⟩ = false := fun k => (ha2.frozen (p := ⟨g2, k, none⟩) hl (fun f => f)).trans (by rw [hw1]; exact alloc_froz w _ _ g2 k hg2)
  have r0 := hc 0 _ rfl
  have r1 := hc 1 _ rfl
  have r2 := hc 2 _ rfl
  have r3 := hc 3 _ rfl
  have f0 := hf 0
  have f1 := hf 1
  have f2 := hf 2
  have f3 := hf 3
  have HS := Lib.hid (set4 (.int .i64 1) (.int .i64 1) (.int .i64 1) (.slice (some ⟨w1.heap.size, 0, none⟩) 1 1) r0 r1 r2 r3)
  have HRT : Hid (ReadsT W2 (some ⟨w1.heap.size, 0, none⟩) 1 [⟨0, p⟩]) := Lib.hid (by
    refine ⟨rfl, by omega, ?_, .inr ⟨_, 0, rfl, ?_⟩⟩
    · intro x hx
      rw [List.mem_singleton.1 hx]
      exact ⟨⟨by show _ ≤ (0 : Int); omega, by show (0 : Int) ≤ _; omega⟩, hp⟩
    · intro i hi
      obtain rfl : i = 0 := by omega
      rw [hW2]
      exact ⟨alloc_new w1 _ _ _ 0 _ rfl rfl, alloc_new w1 _ _ _ 1 _ rfl rfl⟩)
  have HO2 : Hid (Only (fun _ => False) w W2 ∧ g2 = w.heap.size ∧ g2 < w1.heap.size) := Lib.hid ⟨ha1.trans ha2, hg2, hl⟩
  rw [hW2] at r0 r1 r2 r3 f0 f1 f2 f3
  have HW2 := Lib.hid hW2
  clear ha1 ha2 hc hl hf hW2
  go_enter Try.func21, Try.ntmps21
  go_upto_region 1 with fail
  simp only [← hw1, ← hg2]
  clear hw1 hg2
  go_wp2_with fail
  rw [← HW2.out]
  obtain ⟨wf, hwf⟩ : ∃ x, x = (((W2.setCell ⟨g2, 0, none⟩ (.int .i64 1)).setCell ⟨g2, 1, none⟩ (.int .i64 1)).setCell ⟨g2, 2, none⟩ (.int .i64 1)).setCell ⟨g2, 3, none⟩ (.slice (some ⟨w1.heap.size, 0, none⟩) 1 1) := ⟨_, rfl⟩
  obtain ⟨z0, z1, z2, z3, hset⟩ := HS.out
  rw [← hwf] at z0 z1 z2 z3 hset ⊢
  clear hwf r0 r1 r2 r3 f0 f1 f2 f3
  refine bodyPost_ret (v := .agg #[.int .i64 1, .int .i64 1, .int .i64 1, .slice (some ⟨w1.heap.size, 0, none⟩) 1 1]) (by simp [results, Try.results21, go_sem, z0, z1, z2, z3]) rfl ⟨w1.heap.size, rfl, HRT.out.only hset (fun y e q => by injection e with e; subst e; have := HO2.out.2.2; dsimp only at q; omega), HO2.out.1.then hset (fun q hq e => by have := HO2.out.2.1; omega)⟩
set_option maxRecDepth 100000 in
set_option maxHeartbeats 1000000 in
theorem from_any (D F T G1 M1 B1 G2 M2 B2 : Int) (a1 a2 : Option Addr) (n1 n2 c1 c2 : Nat) (w : World) : Calls Try.prog 13 #[plV D F T G1 M1 B1 G2 M2 B2 a1 a2 n1 n2 c1 c2] w fun e w' => e = .returned (plV D F T G1 M1 B1 G2 M2 B2 a1 a2 n1 n2 c1 c2) ∧ Only (fun _ => False) w w' := by
  unfold plV
  go_enter Try.func13, Try.ntmps13
  obtain ⟨p0, p1, p2, p3, p4, p5, p6, p7, p8, p9, p10⟩ := (PlanAt.new (w := w) D F T G1 M1 B1 G2 M2 B2 a1 a2 n1 n2 c1 c2 32).only ((Only.refl (fun _ => False) _).alloc (.cells #[.int .i64 0, .int .i64 0, .int .i64 0, .int .i64 0, .int .i64 0, .int .i64 0, .slice none 0 0, .int .i64 0, .int .i64 0, .int .i64 0, .slice none 0 0] 26)) (fun f => f)
  go_wp2_with fail
  refine bodyPost_ret (v := .agg #[.int .i64 D, .int .i64 F, .int .i64 T, .int .i64 G1, .int .i64 M1, .int .i64 B1, .slice a1 n1 c1, .int .i64 G2, .int .i64 M2, .int .i64 B2, .slice a2 n2 c2]) (by simp [results, Try.results13, go_sem]) rfl ⟨rfl, ((Only.refl _ w).alloc _).alloc _⟩
set_option maxRecDepth 100000 in
set_option maxHeartbeats 4000000 in
theorem splan_yes (D F T G1 M1 B1 G2 M2 B2 : Int) (a1 a2 b1 b2 : Option Addr) (n1 n2 c1 c2 d1 d2 : Nat) (t1 t2 : List Tr) (w : World) (h1 : ReadsT w a1 n1 t1) (h2 : ReadsT w a2 n2 t2) (h3 : ReadsT w b1 n1 t1) (h4 : ReadsT w b2 n2 t2) (hn1 : n1 ≤ 1000) (hn2 : n2 ≤ 1000) : Calls Try.prog 12 #[plV D F T G1 M1 B1 G2 M2 B2 a1 a2 n1 n2 c1 c2, plV D F T G1 M1 B1 G2 M2 B2 b1 b2 n1 n2 d1 d2] w fun e w' => e = .returned (.bool true) ∧ Only (fun _ => False) w w' := by
  unfold plV
  obtain ⟨w1, hw1⟩ : ∃ x, x = w.alloc (.cells #[.int .i64 D, .int .i64 F, .int .i64 T, .int .i64 G1, .int .i64 M1, .int .i64 B1, .slice a1 n1 c1, .int .i64 G2, .int .i64 M2, .int .i64 B2, .slice a2 n2 c2] 26) := ⟨_, rfl⟩
  obtain ⟨w2, hw2⟩ : ∃ x, x = w1.alloc (.cells #[.int .i64 D, .int .i64 F, .int .i64 T, .int .i64 G1, .int .i64 M1, .int .i64 B1, .slice b1 n1 d1, .int .i64 G2, .int .i64 M2, .int .i64 B2, .slice b2 n2 d2] 26) := ⟨_, rfl⟩
  have ho : Only (fun _ => False) w1 w2 := by rw [hw2]; exact (Only.refl _ _).alloc _
  have HO : Hid (Only (fun _ => False) w w2) := Lib.hid (by rw [hw1] at ho; exact ((Only.refl _ _).alloc _).trans ho)
  have HK2 : Hid (PlanAt w2 w.heap.size D F T G1 M1 B1 G2 M2 B2 a1 a2 n1 n2 c1 c2) := Lib.hid (by
    have h : PlanAt w1 w.heap.size D F T G1 M1 B1 G2 M2 B2 a1 a2 n1 n2 c1 c2 := by rw [hw1]; exact PlanAt.new _ _ _ _ _ _ _ _ _ _ _ _ _ _ _ _
    exact h.only ho (fun f => f))
  have HK3 : Hid (PlanAt w2 (w.heap.size + 1) D F T G1 M1 B1 G2 M2 B2 b1 b2 n1 n2 d1 d2) := Lib.hid (by
    have e : w.heap.size + 1 = w1.heap.size := by rw [hw1]; exact (size_alloc _ _).symm
    rw [e, hw2]
    exact PlanAt.new _ _ _ _ _ _ _ _ _ _ _ _ _ _ _ _)
  have HT1 : Hid (∀ w', Only (fun _ => False) w2 w' → _) := Lib.hid (fun w' (h : Only (fun _ => False) w2 w') => tsame_yes G1 M1 B1 a1 b1 n1 c1 d1 t1 w' (h1.only (HO.out.trans h) (fun _ _ f => f)) (h3.only (HO.out.trans h) (fun _ _ f => f)) hn1)
  have HT2 : Hid (∀ w', Only (fun _ => False) w2 w' → _) := Lib.hid (fun w' (h : Only (fun _ => False) w2 w') => tsame_yes G2 M2 B2 a2 b2 n2 c2 d2 t2 w' (h2.only (HO.out.trans h) (fun _ _ f => f)) (h4.only (HO.out.trans h) (fun _ _ f => f)) hn2)
  rw [hw1] at hw2
  have HW2 := Lib.hid hw2
  clear h1 h2 h3 h4 hn1 hn2 hw1 hw2 ho
  go_enter Try.func12, Try.ntmps12
  go_upto_region 1 with fail
  rw [← HW2.out]
  obtain ⟨k0, k1, k2, k3, k4, k5, k6, k7, k8, k9, k10⟩ := id HK2.out
  obtain ⟨j0, j1, j2, j3, j4, j5, j6, j7, j8, j9, j10⟩ := id HK3.out
  go_wp2_with fail
  refine (HT1.out w2 (Only.refl _ _)).mono ?_
  rintro _ w3 ⟨rfl, ho⟩
  have HO3 := Lib.hid ho
  clear ho k0 k1 k2 k3 k4 k5 k6 k7 k8 k9 k10 j0 j1 j2 j3 j4 j5 j6 j7 j8 j9 j10
  obtain ⟨k0, k1, k2, k3, k4, k5, k6, k7, k8, k9, k10⟩ := HK2.out.only HO3.out (fun f => f)
  obtain ⟨j0, j1, j2, j3, j4, j5, j6, j7, j8, j9, j10⟩ := HK3.out.only HO3.out (fun f => f)
  go_wp2_with fail
  refine (HT2.out w3 HO3.out).mono ?_
  rintro _ w4 ⟨rfl, ho⟩
  have HO4 := Lib.hid ((HO.out.trans HO3.out).trans ho)
  clear ho k0 k1 k2 k3 k4 k5 k6 k7 k8 k9 k10 j0 j1 j2 j3 j4 j5 j6 j7 j8 j9 j10
  go_wp2_with fail
  go_ret
  exact ⟨by simp, HO4.out⟩
end Go.Proofs.Ytfdaokjigjpomaa.tfw
namespace Go.Proofs.Ytfdaokjigjpomaa.tfw
open Go.RowKit mem codm codp codw tirm tirw
set_option linter.unusedVariables false

set_option maxRecDepth 100000 in
set_option maxHeartbeats 4000000 in
theorem tariffs_any (w : World) : Calls Try.prog 9 #[] w fun e w' => e = .returned (.bool true) ∧ Only (fun _ => False) w w' := by
  have hpc : pchk 24 20 6 1 1 1 1 1 1 [⟨0, 1⟩] [⟨0, 2⟩] = 0 := by decide
  have HPC := Lib.hid hpc
  have HI1 : Hid (isO 24 20 6 23 = true) := Lib.hid (by decide)
  have HI2 : Hid (isO 24 20 6 30 = false) := Lib.hid (by decide)
  have HD1 : Hid (dearF 0 [⟨0, 1⟩] = 1) := Lib.hid (by decide)
  have HD2 : Hid (dearF 0 [⟨0, 2⟩] = 2) := Lib.hid (by decide)
  have HPL : Hid (∀ p : Int, 0 ≤ p → p ≤ 9 → ∀ w', _) := Lib.hid (fun (p : Int) (h1 : 0 ≤ p) (h2 : p ≤ 9) w' => plain_any p ⟨by omega, by omega⟩ w')
  clear hpc
  go_enter Try.func9, Try.ntmps9
  go_wp2_with fail
  refine (HPL.out 1 (by omega) (by omega) w).mono ?_
  rintro _ w1 ⟨ga, rfl, hr, ho⟩
  have HA1 := Lib.hid hr
  have HO1 := Lib.hid ho
  clear hr ho
  go_wp2_with fail
  refine (HPL.out 2 (by omega) (by omega) w1).mono ?_
  rintro _ w2 ⟨gb, rfl, hr, ho⟩
  have HB2 := Lib.hid hr
  have HA2 : Hid (ReadsT w2 (some ⟨ga, 0, none⟩) 1 [⟨0, 1⟩]) := Lib.hid (HA1.out.only ho (fun _ _ f => f))
  have HO2 := Lib.hid (HO1.out.trans ho)
  clear hr ho HA1 HO1 HPL
  go_upto_region 2 with fail
  obtain ⟨w3, hw3⟩ : ∃ x, x = w2.alloc (.cells #[.int .i64 24, .int .i64 20, .int .i64 6, .int .i64 1, .int .i64 1, .int .i64 1, .slice (some ⟨ga, 0, none⟩) 1 1, .int .i64 1, .int .i64 1, .int .i64 1, .slice (some ⟨gb, 0, none⟩) 1 1] 32) := ⟨_, rfl⟩
  obtain ⟨p1, hp1⟩ : ∃ x, x = w2.heap.size := ⟨_, rfl⟩
  have ho : Only (fun _ => False) w2 w3 := by rw [hw3]; exact (Only.refl _ _).alloc _
  have HK3 : Hid (PlanAt w3 p1 24 20 6 1 1 1 1 1 1 (some ⟨ga, 0, none⟩) (some ⟨gb, 0, none⟩) 1 1 1 1) := Lib.hid (by rw [hw3, hp1]; exact PlanAt.new _ _ _ _ _ _ _ _ _ _ _ _ _ _ _ _)
  have HT : Hid (∀ w', Only (fun _ => False) w3 w' → ReadsT w' (some ⟨ga, 0, none⟩) 1 [⟨0, 1⟩] ∧ ReadsT w' (some ⟨gb, 0, none⟩) 1 [⟨0, 2⟩]) := Lib.hid (fun w' h => ⟨HA2.out.only (ho.trans h) (fun _ _ f => f), HB2.out.only (ho.trans h) (fun _ _ f => f)⟩)
  have HO3 := Lib.hid (HO2.out.trans ho)
  simp only [← hw3, ← hp1]
  clear hw3 hp1 ho HA2 HB2 HO2
  have HAT1 := Lib.hid (at_other 24 20 6 1 1 1 1 1 1 (some ⟨ga, 0, none⟩) (some ⟨gb, 0, none⟩) 1 1 1 1 [⟨0, 1⟩] [⟨0, 2⟩] 23 w3 (HT.out w3 (Only.refl _ _)).1 (HT.out w3 (Only.refl _ _)).2 (by omega) (by omega) HPC.out HI1.out)
  obtain ⟨k0, k1, k2, k3, k4, k5, k6, k7, k8, k9, k10⟩ := id HK3.out
  go_wp2_with fail
  refine HAT1.out.mono ?_
  rintro _ w4 ⟨gx, cx, rfl, hr, ho⟩
  have HX4 := Lib.hid hr
  have HO4 := Lib.hid ho
  clear hr ho HAT1 k0 k1 k2 k3 k4 k5 k6 k7 k8 k9 k10
  go_upto_region 3 with fail
  obtain ⟨w5, hw5⟩ : ∃ x, x = w4.alloc (.cells #[.int .i64 1, .int .i64 1, .int .i64 1, .slice (some ⟨gx, 0, none⟩) 1 cx] 24) := ⟨_, rfl⟩
  obtain ⟨q1, hq1⟩ : ∃ x, x = w4.heap.size := ⟨_, rfl⟩
  have ho : Only (fun _ => False) w4 w5 := by rw [hw5]; exact (Only.refl _ _).alloc _
  have HQ1 : Hid (∀ w', Only (fun _ => False) w5 w' → w'.cell? ⟨q1, 0, none⟩ = some (.int .i64 1) ∧ w'.cell? ⟨q1, 1, none⟩ = some (.int .i64 1) ∧ w'.cell? ⟨q1, 2, none⟩ = some (.int .i64 1) ∧ w'.cell? ⟨q1, 3, none⟩ = some (.slice (some ⟨gx, 0, none⟩) 1 cx)) := Lib.hid (fun w' h => ⟨h.cell' (by rw [hw5]; exact alloc_new w4 _ _ q1 0 _ hq1 rfl) (fun f => f), h.cell' (by rw [hw5]; exact alloc_new w4 _ _ q1 1 _ hq1 rfl) (fun f => f), h.cell' (by rw [hw5]; exact alloc_new w4 _ _ q1 2 _ hq1 rfl) (fun f => f), h.cell' (by rw [hw5]; exact alloc_new w4 _ _ q1 3 _ hq1 rfl) (fun f => f)⟩)
  have HO5 : Hid (Only (fun _ => False) w3 w5) := Lib.hid (HO4.out.trans ho)
  have HX5 : Hid (ReadsT w5 (some ⟨gx, 0, none⟩) 1 [⟨0, 2⟩]) := Lib.hid (HX4.out.only ho (fun _ _ f => f))
  simp only [← hw5, ← hq1]
  clear hw5 hq1 ho HX4 HO4
  have HAT2 := Lib.hid (at_base 24 20 6 1 1 1 1 1 1 (some ⟨ga, 0, none⟩) (some ⟨gb, 0, none⟩) 1 1 1 1 [⟨0, 1⟩] [⟨0, 2⟩] 30 w5 (HT.out w5 HO5.out).1 (HT.out w5 HO5.out).2 (by omega) (by omega) HPC.out HI2.out)
  obtain ⟨k0, k1, k2, k3, k4, k5, k6, k7, k8, k9, k10⟩ := HK3.out.only HO5.out (fun f => f)
  go_wp2_with fail
  refine HAT2.out.mono ?_
  rintro _ w6 ⟨gy, cy, rfl, hr, ho⟩
  have HY6 := Lib.hid hr
  have HO6 := Lib.hid ho
  clear hr ho HAT2 k0 k1 k2 k3 k4 k5 k6 k7 k8 k9 k10
  go_upto_region 4 with fail
  obtain ⟨w7, hw7⟩ : ∃ x, x = w6.alloc (.cells #[.int .i64 1, .int .i64 1, .int .i64 1, .slice (some ⟨gy, 0, none⟩) 1 cy] 24) := ⟨_, rfl⟩
  obtain ⟨q2, hq2⟩ : ∃ x, x = w6.heap.size := ⟨_, rfl⟩
  have ho : Only (fun _ => False) w6 w7 := by rw [hw7]; exact (Only.refl _ _).alloc _
  have HQ2 : Hid (∀ w', Only (fun _ => False) w7 w' → w'.cell? ⟨q2, 0, none⟩ = some (.int .i64 1) ∧ w'.cell? ⟨q2, 1, none⟩ = some (.int .i64 1) ∧ w'.cell? ⟨q2, 2, none⟩ = some (.int .i64 1) ∧ w'.cell? ⟨q2, 3, none⟩ = some (.slice (some ⟨gy, 0, none⟩) 1 cy)) := Lib.hid (fun w' h => ⟨h.cell' (by rw [hw7]; exact alloc_new w6 _ _ q2 0 _ hq2 rfl) (fun f => f), h.cell' (by rw [hw7]; exact alloc_new w6 _ _ q2 1 _ hq2 rfl) (fun f => f), h.cell' (by rw [hw7]; exact alloc_new w6 _ _ q2 2 _ hq2 rfl) (fun f => f), h.cell' (by rw [hw7]; exact alloc_new w6 _ _ q2 3 _ hq2 rfl) (fun f => f)⟩)
  have HO57 : Hid (Only (fun _ => False) w5 w7) := Lib.hid (HO6.out.trans ho)
  have HY7 : Hid (ReadsT w7 (some ⟨gy, 0, none⟩) 1 [⟨0, 1⟩]) := Lib.hid (HY6.out.only ho (fun _ _ f => f))
  simp only [← hw7, ← hq2]
  clear hw7 hq2 ho HY6 HO6
  have HO37 := Lib.hid (HO5.out.trans HO57.out)
  have HCP := Lib.hid (cplan_any 24 20 6 1 1 1 1 1 1 (some ⟨ga, 0, none⟩) (some ⟨gb, 0, none⟩) 1 1 1 1 [⟨0, 1⟩] [⟨0, 2⟩] w7 (HT.out w7 HO37.out).1 (HT.out w7 HO37.out).2)
  rw [HPC.out] at HCP
  obtain ⟨k0, k1, k2, k3, k4, k5, k6, k7, k8, k9, k10⟩ := HK3.out.only HO37.out (fun f => f)
  go_wp2_with fail
  refine HCP.out.mono ?_
  rintro _ w8 ⟨rfl, ho⟩
  have HO78 := Lib.hid ho
  have HDX := Lib.hid (dear_any 1 1 1 (some ⟨gx, 0, none⟩) 1 cx [⟨0, 2⟩] w8 (HX5.out.only (HO57.out.trans ho) (fun _ _ f => f)))
  rw [HD2.out] at HDX
  clear ho HCP k0 k1 k2 k3 k4 k5 k6 k7 k8 k9 k10
  obtain ⟨k0, k1, k2, k3⟩ := HQ1.out w8 (HO57.out.trans HO78.out)
  go_wp2_with fail
  refine HDX.out.mono ?_
  rintro _ w9 ⟨rfl, ho⟩
  have HO89 := Lib.hid (HO78.out.trans ho)
  have HDY := Lib.hid (dear_any 1 1 1 (some ⟨gy, 0, none⟩) 1 cy [⟨0, 1⟩] w9 (HY7.out.only (HO78.out.trans ho) (fun _ _ f => f)))
  rw [HD1.out] at HDY
  clear ho HDX k0 k1 k2 k3
  obtain ⟨k0, k1, k2, k3⟩ := HQ2.out w9 HO89.out
  go_wp2_with fail
  refine HDY.out.mono ?_
  rintro _ wz ⟨rfl, ho⟩
  have HOZ := Lib.hid ((HO3.out.trans (HO37.out.trans HO89.out)).trans ho)
  clear ho HDY k0 k1 k2 k3
  go_wp2_with fail
  go_ret
  exact ⟨by simp, HOZ.out⟩
end Go.Proofs.Ytfdaokjigjpomaa.tfw
namespace Go.Proofs.Ytfdaokjigjpomaa.tfw
open Go.RowKit mem dskw codm codp tirm tirw
set_option linter.unusedVariables false

theorem sum_strT (l r : List Nat) (hl : l.length ≤ 100000000) (hr : r.length ≤ 100000000) : dskw.strN l ++ dskw.strN r = dskw.strN (l ++ r) ∧ ¬ (9223372036854775807 < (dskw.strN l).size + (dskw.strN r).size) :=
  ⟨dskw.strN_append l r, by rw [dskw.strN_size, dskw.strN_size]; omega⟩
theorem r3uintT (n : Int) (w : World) (h0 : 0 ≤ n) (h1 : n ≤ 9223372036854775807) : Calls Try.prog 28 #[.int .i64 n] w fun e w' => e = .returned (.string (dskw.strN (enc n.toNat))) ∧ Only (fun _ => False) w w' := by
  have := codw.ruint_any n w ⟨by omega, h1⟩
  unfold codw.rucount at this
  rw [if_neg (by omega)] at this
  exact this
set_option maxRecDepth 100000 in
set_option maxHeartbeats 4000000 in
theorem rtar_any (G M B : Int) (a : Option Addr) (n c : Nat) (ts : List Tr) (w : World) (hr : ReadsT w a n ts) (hi : TfIn ⟨G, M, B, ts⟩) :
    Calls Try.prog 29 #[.agg #[.int .i64 G, .int .i64 M, .int .i64 B, .slice a n c]] w fun e w' => e = .returned (.string (dskw.strN (tarB ⟨G, M, B, ts⟩))) ∧ Only (fun _ => False) w w' := by
  obtain ⟨⟨g1, g2⟩, ⟨m1, m2⟩, ⟨b1, b2⟩, hn6, hts⟩ := hi
  dsimp only at g1 g2 m1 m2 b1 b2 hn6 hts
  have HTS := Lib.hid hts
  have HR := Lib.hid hr
  have HN : Hid (ts.length = n) := Lib.hid hr.1
  have hn7 : n ≤ 6 := by rw [← hr.1]; exact hn6
  obtain ⟨w1, hw1⟩ : ∃ x, x = w.alloc (.cells #[.int .i64 G, .int .i64 M, .int .i64 B, .slice a n c] 24) := ⟨_, rfl⟩
  obtain ⟨g, hg⟩ : ∃ x, x = w.heap.size := ⟨_, rfl⟩
  have HO1 : Hid (Only (fun _ => False) w w1) := Lib.hid (by rw [hw1]; exact (Only.refl _ _).alloc _)
  have HSL : Hid (∀ w', Only (fun _ => False) w1 w' → w'.cell? ⟨g, 0, none⟩ = some (.int .i64 G) ∧ w'.cell? ⟨g, 1, none⟩ = some (.int .i64 M) ∧ w'.cell? ⟨g, 2, none⟩ = some (.int .i64 B) ∧ w'.cell? ⟨g, 3, none⟩ = some (.slice a n c)) := Lib.hid (fun w' h => ⟨h.cell' (by rw [hw1]; exact alloc_new w _ _ g 0 _ hg rfl) (fun f => f), h.cell' (by rw [hw1]; exact alloc_new w _ _ g 1 _ hg rfl) (fun f => f), h.cell' (by rw [hw1]; exact alloc_new w _ _ g 2 _ hg rfl) (fun f => f), h.cell' (by rw [hw1]; exact alloc_new w _ _ g 3 _ hg rfl) (fun f => f)⟩)
  have HC1 : Hid (∀ w', _) := Lib.hid (fun w' => r3uintT G w' g1 (by omega))
  have HC2 : Hid (∀ w', _) := Lib.hid (fun w' => r3uintT M w' m1 (by omega))
  have HC3 : Hid (∀ w', _) := Lib.hid (fun w' => r3uintT B w' b1 (by omega))
  have HC4 : Hid (∀ w', _) := Lib.hid (fun w' => r3uintT (n : Int) w' (by omega) (by omega))
  rw [Int.toNat_natCast] at HC4
  obtain ⟨H, hH⟩ : ∃ x, enc G.toNat ++ enc M.toNat ++ enc B.toNat ++ enc n = x := ⟨_, rfl⟩
  have HTB : Hid (H ++ ts.flatMap trB = tarB ⟨G, M, B, ts⟩) := Lib.hid (by rw [← hH]; unfold tarB; dsimp only; rw [HN.out]; simp only [List.append_assoc])
  have hl1 := (enc_length G.toNat).1
  have hl2 := (enc_length M.toNat).1
  have hl3 := (enc_length B.toNat).1
  have hl4 := (enc_length n).1
  have HHL : H.length ≤ 100 := by rw [← hH]; simp only [List.length_append]; omega
  have hs1 := sum_strT (enc G.toNat) (enc M.toNat) (by omega) (by omega)
  have hs2 := sum_strT (enc G.toNat ++ enc M.toNat) (enc B.toNat) (by rw [List.length_append]; omega) (by omega)
  have hs3 := sum_strT (enc G.toNat ++ enc M.toNat ++ enc B.toNat) (enc n) (by rw [List.length_append, List.length_append]; omega) (by omega)
  rw [hH] at hs3
  clear hr hts hn6 hH hl1 hl2 hl3 hl4 g1 g2 m1 m2 b1 b2
  generalize dskw.strN (enc G.toNat ++ enc M.toNat ++ enc B.toNat) = T3 at *
  generalize dskw.strN (enc G.toNat ++ enc M.toNat) = T2 at *
  generalize dskw.strN (enc G.toNat) = K1 at *
  generalize dskw.strN (enc M.toNat) = K2 at *
  generalize dskw.strN (enc B.toNat) = K3 at *
  generalize dskw.strN (enc n) = K4 at *
  obtain ⟨d1, f1⟩ := hs1
  obtain ⟨d2, f2⟩ := hs2
  obtain ⟨d3', f3⟩ := hs3
  go_enter Try.func29, Try.ntmps29
  go_upto_region 1 with fail
  simp only [← hw1, ← hg]
  clear hw1 hg
  refine wp_region_noPanic ?_
  refine late.region (fun w' => w'.cell? ⟨g, 0, none⟩ = some (.int .i64 G) ∧ w'.cell? ⟨g, 1, none⟩ = some (.int .i64 M) ∧ w'.cell? ⟨g, 2, none⟩ = some (.int .i64 B) ∧ w'.cell? ⟨g, 3, none⟩ = some (.slice a n c)) (fun j => [].contains j) (by kernel_rfl) (HSL.out _ (Only.refl _ _).drew) (fun hHeld => ?_)
  obtain ⟨z0, hz0⟩ : ∃ x, x = w1.drew := ⟨_, rfl⟩
  rw [← hz0] at hHeld ⊢
  have hot : Hid (Only (fun _ => False) w1 z0) := Lib.hid (by rw [hz0]; exact (Only.refl _ _).drew)
  clear hz0
  refine late.take (i := 0) [1, 2, 5, 6, 9, 10, 14, 15, 16] (v := ?_) rfl (by kernel_rfl) (by kernel_rfl) (by kernel_rfl) (by kernel_rfl) (fun _ _ _ h => h) (Or.inl ⟨by rfl, ?_⟩) (by assumption) ?_
  rotate_left 1
  · intro w' hSw
    try dsimp only at hSw
    go_simp
    try with_reducible rfl
  try simp only [List.getElem_toArray, List.getElem_cons_zero, Act.put, List.setIfInBounds_toArray, List.set_cons_zero, List.set_cons_succ]
  refine late.take (i := 1) [2, 5, 6, 9, 10, 14, 15, 16] (v := ?_) rfl (by kernel_rfl) (by kernel_rfl) (by kernel_rfl) (by kernel_rfl) (fun _ _ _ h => h) (Or.inl ⟨by rfl, ?_⟩) (by assumption) ?_
  rotate_left 1
  · intro w' hSw
    try dsimp only at hSw
    go_simp
    try with_reducible rfl
  try simp only [List.getElem_toArray, List.getElem_cons_zero, List.getElem_cons_succ, Act.put, List.setIfInBounds_toArray, List.set_cons_zero, List.set_cons_succ]
  refine late.take (i := 3) [4, 5, 6, 9, 10, 14, 15, 16] (v := ?_) rfl (by kernel_rfl) (by kernel_rfl) (by kernel_rfl) (by kernel_rfl) (fun _ _ _ h => h) (Or.inl ⟨by rfl, ?_⟩) (by assumption) ?_
  rotate_left 1
  · intro w' hSw
    try dsimp only at hSw
    go_simp
    try with_reducible rfl
  try simp only [List.getElem_toArray, List.getElem_cons_zero, List.getElem_cons_succ, Act.put, List.setIfInBounds_toArray, List.set_cons_zero, List.set_cons_succ]
  refine late.take (i := 4) [5, 6, 9, 10, 14, 15, 16] (v := ?_) rfl (by kernel_rfl) (by kernel_rfl) (by kernel_rfl) (by kernel_rfl) (fun _ _ _ h => h) (Or.inl ⟨by rfl, ?_⟩) (by assumption) ?_
  rotate_left 1
  · intro w' hSw
    try dsimp only at hSw
    go_simp
    try with_reducible rfl
  try simp only [List.getElem_toArray, List.getElem_cons_zero, List.getElem_cons_succ, Act.put, List.setIfInBounds_toArray, List.set_cons_zero, List.set_cons_succ]
  refine late.take (i := 7) [8, 9, 10, 14, 15, 16] (v := ?_) rfl (by kernel_rfl) (by kernel_rfl) (by kernel_rfl) (by kernel_rfl) (fun _ _ _ h => h) (Or.inl ⟨by rfl, ?_⟩) (by assumption) ?_
  rotate_left 1
  · intro w' hSw
    try dsimp only at hSw
    go_simp
    try with_reducible rfl
  try simp only [List.getElem_toArray, List.getElem_cons_zero, List.getElem_cons_succ, Act.put, List.setIfInBounds_toArray, List.set_cons_zero, List.set_cons_succ]
  refine late.take (i := 8) [9, 10, 14, 15, 16] (v := ?_) rfl (by kernel_rfl) (by kernel_rfl) (by kernel_rfl) (by kernel_rfl) (fun _ _ _ h => h) (Or.inl ⟨by rfl, ?_⟩) (by assumption) ?_
  rotate_left 1
  · intro w' hSw
    try dsimp only at hSw
    go_simp
    try with_reducible rfl
  try simp only [List.getElem_toArray, List.getElem_cons_zero, List.getElem_cons_succ, Act.put, List.setIfInBounds_toArray, List.set_cons_zero, List.set_cons_succ]
  refine late.take (i := 11) [12, 13, 14, 15, 16] (v := ?_) rfl (by kernel_rfl) (by kernel_rfl) (by kernel_rfl) (by kernel_rfl) (fun _ _ _ h => h) (Or.inl ⟨by rfl, ?_⟩) (by assumption) ?_
  rotate_left 1
  · intro w' hSw
    try dsimp only at hSw
    go_simp
    try with_reducible rfl
  try simp only [List.getElem_toArray, List.getElem_cons_zero, List.getElem_cons_succ, Act.put, List.setIfInBounds_toArray, List.set_cons_zero, List.set_cons_succ]
  refine late.take (i := 12) [13, 14, 15, 16] (v := ?_) rfl (by kernel_rfl) (by kernel_rfl) (by kernel_rfl) (by kernel_rfl) (fun _ _ _ h => h) (Or.inl ⟨by rfl, ?_⟩) (by assumption) ?_
  rotate_left 1
  · intro w' hSw
    try dsimp only at hSw
    go_simp
    try with_reducible rfl
  try simp only [List.getElem_toArray, List.getElem_cons_zero, List.getElem_cons_succ, Act.put, List.setIfInBounds_toArray, List.set_cons_zero, List.set_cons_succ]
  refine late.take (i := 13) [14, 15, 16] (v := ?_) rfl (by kernel_rfl) (by kernel_rfl) (by kernel_rfl) (by kernel_rfl) (fun _ _ _ h => h) (Or.inl ⟨by rfl, ?_⟩) (by assumption) ?_
  rotate_left 1
  · intro w' hSw
    try dsimp only at hSw
    go_simp
    try with_reducible rfl
  try simp only [List.getElem_toArray, List.getElem_cons_zero, List.getElem_cons_succ, Act.put, List.setIfInBounds_toArray, List.set_cons_zero, List.set_cons_succ]
  refine late.ready (rs := [2]) (by kernel_rfl) (by simp) ?_
  refine late.Each.cons rfl (fun K hK => ?_) late.Each.nil
  try simp only [List.getElem_toArray, List.getElem_cons_zero, List.getElem_cons_succ]
  go_simp
  go_at_call 28
  with_reducible refine (HC1.out _).mono ?_
  rintro _ W1 ⟨rfl, ho⟩
  replace hot := Lib.hid (hot.out.trans ho)
  clear ho
  try dsimp only
  refine hK.out _ _ (fun _ => HSL.out _ hot.out) (fun hHeld1 => ?_)
  replace hHeld1 := hHeld1 rfl
  clear hK K
  try simp only [List.getElem_toArray, List.getElem_cons_zero, List.getElem_cons_succ, Act.put, List.setIfInBounds_toArray, List.set_cons_zero, List.set_cons_succ]
  refine late.ready (rs := [5]) (by kernel_rfl) (by simp) ?_
  refine late.Each.cons rfl (fun K hK => ?_) late.Each.nil
  try simp only [List.getElem_toArray, List.getElem_cons_zero, List.getElem_cons_succ]
  go_simp
  go_at_call 28
  with_reducible refine (HC2.out _).mono ?_
  rintro _ W2 ⟨rfl, ho⟩
  replace hot := Lib.hid (hot.out.trans ho)
  clear ho
  try dsimp only
  refine hK.out _ _ (fun _ => HSL.out _ hot.out) (fun hHeld2 => ?_)
  replace hHeld2 := hHeld2 rfl
  clear hK K
  try simp only [List.getElem_toArray, List.getElem_cons_zero, List.getElem_cons_succ, Act.put, List.setIfInBounds_toArray, List.set_cons_zero, List.set_cons_succ]
  refine late.take (i := 6) [10, 15, 16] (v := ?_) rfl (by kernel_rfl) (by kernel_rfl) (by kernel_rfl) (by kernel_rfl) (fun _ _ _ h => h) (Or.inl ⟨by rfl, ?_⟩) (by assumption) ?_
  rotate_left 1
  · intro w' hSw
    try dsimp only at hSw
    go_simp
    try with_reducible rfl
  try simp only [List.getElem_toArray, List.getElem_cons_zero, List.getElem_cons_succ, Act.put, List.setIfInBounds_toArray, List.set_cons_zero, List.set_cons_succ]
  refine late.ready (rs := [9]) (by kernel_rfl) (by simp) ?_
  refine late.Each.cons rfl (fun K hK => ?_) late.Each.nil
  try simp only [List.getElem_toArray, List.getElem_cons_zero, List.getElem_cons_succ]
  go_simp
  go_at_call 28
  with_reducible refine (HC3.out _).mono ?_
  rintro _ W3 ⟨rfl, ho⟩
  replace hot := Lib.hid (hot.out.trans ho)
  clear ho
  try dsimp only
  refine hK.out _ _ (fun _ => HSL.out _ hot.out) (fun hHeld3 => ?_)
  replace hHeld3 := hHeld3 rfl
  clear hK K
  try simp only [List.getElem_toArray, List.getElem_cons_zero, List.getElem_cons_succ, Act.put, List.setIfInBounds_toArray, List.set_cons_zero, List.set_cons_succ]
  refine late.take (i := 10) [15, 16] (v := ?_) rfl (by kernel_rfl) (by kernel_rfl) (by kernel_rfl) (by kernel_rfl) (fun _ _ _ h => h) (Or.inl ⟨by rfl, ?_⟩) (by assumption) ?_
  rotate_left 1
  · intro w' hSw
    try dsimp only at hSw
    go_simp
    try with_reducible rfl
  try simp only [List.getElem_toArray, List.getElem_cons_zero, List.getElem_cons_succ, Act.put, List.setIfInBounds_toArray, List.set_cons_zero, List.set_cons_succ]
  refine late.ready (rs := [14]) (by kernel_rfl) (by simp) ?_
  refine late.Each.cons rfl (fun K hK => ?_) late.Each.nil
  try simp only [List.getElem_toArray, List.getElem_cons_zero, List.getElem_cons_succ]
  go_simp
  go_at_call 28
  with_reducible refine (HC4.out _).mono ?_
  rintro _ W4 ⟨rfl, ho⟩
  replace hot := Lib.hid (hot.out.trans ho)
  clear ho
  try dsimp only
  refine hK.out _ _ (fun _ => HSL.out _ hot.out) (fun hHeld4 => ?_)
  replace hHeld4 := hHeld4 rfl
  clear hK K
  try simp only [List.getElem_toArray, List.getElem_cons_zero, List.getElem_cons_succ, Act.put, List.setIfInBounds_toArray, List.set_cons_zero, List.set_cons_succ]
  refine late.take (i := 15) [16] (v := ?_) rfl (by kernel_rfl) (by kernel_rfl) (by kernel_rfl) (by kernel_rfl) (fun _ _ _ h => h) (Or.inl ⟨by rfl, ?_⟩) (by assumption) ?_
  rotate_left 1
  · intro w' hSw
    try dsimp only at hSw
    go_simp
    try with_reducible rfl
  try simp only [List.getElem_toArray, List.getElem_cons_zero, List.getElem_cons_succ, Act.put, List.setIfInBounds_toArray, List.set_cons_zero, List.set_cons_succ]
  refine late.take (i := 16) [] (v := ?_) rfl (by kernel_rfl) (by kernel_rfl) (by kernel_rfl) (by kernel_rfl) (fun _ _ _ h => h) (Or.inl ⟨by rfl, ?_⟩) (by assumption) ?_
  rotate_left 1
  · intro w' hSw
    try dsimp only at hSw
    go_simp
    try with_reducible rfl
  try simp only [List.getElem_toArray, List.getElem_cons_zero, List.getElem_cons_succ, Act.put, List.setIfInBounds_toArray, List.set_cons_zero, List.set_cons_succ]
  refine late.done (by kernel_rfl) ?_ _
  refine NoPanic.normal ?_
  have HO2 := Lib.hid hot.out
  clear hHeld hot HC1 HC2 HC3 HC4 f1 f2 f3
  rename World => w2
  go_wp2_with fail
  go_loopw [3, 4] (fun sv iv wr => ∃ (i : Nat), i ≤ n ∧ iv = .int .i64 (i : Int) ∧ sv = .string (dskw.strN (H ++ (ts.take i).flatMap trB)) ∧ Hid (Only (fun _ => False) w1 wr)) (fun _ iv _ => n - (intOf iv).toNat)
  case atStart => exact ⟨0, by omega, rfl, by simp, HO2⟩
  case round =>
    obtain ⟨i, hi, rfl, rfl, HO⟩ := hrel
    clear HO2
    rename World => wr
    have d3 := (HSL.out wr HO.out).2.2.2
    by_cases h8 : i < n
    · obtain ⟨-, -, -, hcs⟩ := HR.out
      obtain ⟨b, off, rfl, hcell⟩ := hcs.resolve_left (by omega)
      obtain ⟨c0, c1⟩ := hcell i h8
      have hx : TrIn (ts.getD i default) := HTS.out _ (getT_mem ts i (by rw [HN.out]; exact h8))
      have HSN := Lib.hid (trs_snoc ts i (by rw [HN.out]; exact h8))
      have HPL : (H ++ (ts.take i).flatMap trB).length ≤ 3000 := by
        have h1 := trs_len (ts.take i)
        have h2 : (ts.take i).length ≤ 6 := by rw [List.length_take]; omega
        simp only [List.length_append]
        omega
      generalize ts.getD i default = x at *
      obtain ⟨xu, xp⟩ := x
      obtain ⟨⟨x1, x2⟩, x3, x4⟩ := hx
      dsimp only at c0 c1 x1 x2 x3 x4
      have HE1 : Hid (∀ w', _) := Lib.hid (fun w' => r3uintT xu w' x1 (by omega))
      have HE2 : Hid (∀ w', _) := Lib.hid (fun w' => r3uintT xp w' x3 (by omega))
      have HSM : Hid (∀ w', Only (fun _ => False) wr w' → w'.cell? ⟨g, 3, none⟩ = some (.slice (some ⟨b, off, none⟩) n c) ∧ w'.cell? ⟨b, off + i * 2, none⟩ = some (.int .i64 xu) ∧ w'.cell? ⟨b, off + i * 2 + 1, none⟩ = some (.int .i64 xp)) := Lib.hid (fun w' ho => ⟨ho.cell' d3 (fun f => f), (HO1.out.trans (HO.out.trans ho)).cell' c0 (fun f => f), (HO1.out.trans (HO.out.trans ho)).cell' c1 (fun f => f)⟩)
      have hin : (i : Int) < n := by omega
      have hi0 : (0 : Int) ≤ i := by omega
      have hi64 : (i : Int) ≤ 64 := by omega
      have hs1 := sum_strT (H ++ (ts.take i).flatMap trB) (enc xu.toNat) (by omega) (by have := (enc_length xu.toNat).1; omega)
      have hs2 := sum_strT (H ++ (ts.take i).flatMap trB ++ enc xu.toNat) (enc xp.toNat) (by rw [List.length_append]; have := (enc_length xu.toNat).1; omega) (by have := (enc_length xp.toNat).1; omega)
      have HFB : Hid (H ++ (ts.take i).flatMap trB ++ enc xu.toNat ++ enc xp.toNat = H ++ (ts.take (i + 1)).flatMap trB) := Lib.hid (by rw [HSN.out]; unfold trB; simp only [List.append_assoc])
      generalize dskw.strN (H ++ (ts.take i).flatMap trB) = S0 at *
      generalize dskw.strN (H ++ (ts.take i).flatMap trB ++ enc xu.toNat) = S1 at *
      rw [HFB.out] at hs2
      generalize hS2 : dskw.strN (H ++ (ts.take (i + 1)).flatMap trB) = S2 at *
      have HS2 := Lib.hid hS2
      clear hS2
      generalize dskw.strN (enc xu.toNat) = E1 at *
      generalize dskw.strN (enc xp.toNat) = E2 at *
      obtain ⟨a1, b1'⟩ := hs1
      obtain ⟨a2, b2'⟩ := hs2
      clear hcell hcs x1 x2 x3 x4 HFB HPL HHL
      go_upto_region 5 with fail
      refine wp_region_noPanic ?_
      refine late.region (fun w' => w'.cell? ⟨g, 3, none⟩ = some (.slice (some ⟨b, off, none⟩) n c) ∧ w'.cell? ⟨b, off + i * 2, none⟩ = some (.int .i64 xu) ∧ w'.cell? ⟨b, off + i * 2 + 1, none⟩ = some (.int .i64 xp)) (fun j => [].contains j) (by kernel_rfl) (HSM.out _ (Only.refl _ _).drew) (fun hHeld => ?_)
      obtain ⟨z0, hz0⟩ : ∃ x, x = wr.drew := ⟨_, rfl⟩
      rw [← hz0] at hHeld ⊢
      have hot : Hid (Only (fun _ => False) wr z0) := Lib.hid (by rw [hz0]; exact (Only.refl _ _).drew)
      clear hz0
      refine late.take (i := 0) [8, 16, 17] (v := ?_) rfl (by kernel_rfl) (by kernel_rfl) (by kernel_rfl) (by kernel_rfl) (fun _ _ _ h => h) (Or.inl ⟨by rfl, ?_⟩) (by assumption) ?_
      rotate_left 1
      · intro w' hSw
        try dsimp only at hSw
        go_simp
        try with_reducible rfl
      try simp only [List.getElem_toArray, List.getElem_cons_zero, Act.put, List.setIfInBounds_toArray, List.set_cons_zero, List.set_cons_succ]
      refine late.take (i := 1) [2, 4, 5, 6, 7, 8, 15, 16, 17] (v := ?_) rfl (by kernel_rfl) (by kernel_rfl) (by kernel_rfl) (by kernel_rfl) (fun _ _ _ h => h) (Or.inl ⟨by rfl, ?_⟩) (by assumption) ?_
      rotate_left 1
      · intro w' hSw
        try dsimp only at hSw
        go_simp
        try with_reducible rfl
      try simp only [List.getElem_toArray, List.getElem_cons_zero, List.getElem_cons_succ, Act.put, List.setIfInBounds_toArray, List.set_cons_zero, List.set_cons_succ]
      refine late.take (i := 2) [4, 5, 6, 7, 8, 15, 16, 17] (v := ?_) rfl (by kernel_rfl) (by kernel_rfl) (by kernel_rfl) (by kernel_rfl) (fun _ _ _ h => h) (Or.inl ⟨by rfl, ?_⟩) (by assumption) ?_
      rotate_left 1
      · intro w' hSw
        try dsimp only at hSw
        go_simp
        try with_reducible rfl
      try simp only [List.getElem_toArray, List.getElem_cons_zero, List.getElem_cons_succ, Act.put, List.setIfInBounds_toArray, List.set_cons_zero, List.set_cons_succ]
      refine late.take (i := 3) [4, 5, 6, 7, 8, 15, 16, 17] (v := ?_) rfl (by kernel_rfl) (by kernel_rfl) (by kernel_rfl) (by kernel_rfl) (fun _ _ _ h => h) (Or.inl ⟨by rfl, ?_⟩) (by assumption) ?_
      rotate_left 1
      · intro w' hSw
        try dsimp only at hSw
        go_simp
        try with_reducible rfl
      try simp only [List.getElem_toArray, List.getElem_cons_zero, List.getElem_cons_succ, Act.put, List.setIfInBounds_toArray, List.set_cons_zero, List.set_cons_succ]
      refine late.take (i := 4) [5, 6, 7, 8, 15, 16, 17] (v := ?_) rfl (by kernel_rfl) (by kernel_rfl) (by kernel_rfl) (by kernel_rfl) (fun _ _ _ h => h) (Or.inl ⟨by rfl, ?_⟩) (by assumption) ?_
      rotate_left 1
      · intro w' hSw
        try dsimp only at hSw
        go_simp
        try with_reducible rfl
      try simp only [List.getElem_toArray, List.getElem_cons_zero, List.getElem_cons_succ, Act.put, List.setIfInBounds_toArray, List.set_cons_zero, List.set_cons_succ]
      refine late.take (i := 5) [6, 7, 8, 15, 16, 17] (v := ?_) rfl (by kernel_rfl) (by kernel_rfl) (by kernel_rfl) (by kernel_rfl) (fun _ _ _ h => h) (Or.inl ⟨by rfl, ?_⟩) (by assumption) ?_
      rotate_left 1
      · intro w' hSw
        try dsimp only at hSw
        go_simp
        try with_reducible rfl
      try simp only [List.getElem_toArray, List.getElem_cons_zero, List.getElem_cons_succ, Act.put, List.setIfInBounds_toArray, List.set_cons_zero, List.set_cons_succ]
      refine late.take (i := 6) [7, 8, 15, 16, 17] (v := ?_) rfl (by kernel_rfl) (by kernel_rfl) (by kernel_rfl) (by kernel_rfl) (fun _ _ _ h => h) (Or.inl ⟨by rfl, ?_⟩) (by assumption) ?_
      rotate_left 1
      · intro w' hSw
        try dsimp only at hSw
        go_simp
        try with_reducible rfl
      try simp only [List.getElem_toArray, List.getElem_cons_zero, List.getElem_cons_succ, Act.put, List.setIfInBounds_toArray, List.set_cons_zero, List.set_cons_succ]
      refine late.take (i := 9) [10, 12, 13, 14, 15, 16, 17] (v := ?_) rfl (by kernel_rfl) (by kernel_rfl) (by kernel_rfl) (by kernel_rfl) (fun _ _ _ h => h) (Or.inl ⟨by rfl, ?_⟩) (by assumption) ?_
      rotate_left 1
      · intro w' hSw
        try dsimp only at hSw
        go_simp
        try with_reducible rfl
      try simp only [List.getElem_toArray, List.getElem_cons_zero, List.getElem_cons_succ, Act.put, List.setIfInBounds_toArray, List.set_cons_zero, List.set_cons_succ]
      refine late.take (i := 10) [12, 13, 14, 15, 16, 17] (v := ?_) rfl (by kernel_rfl) (by kernel_rfl) (by kernel_rfl) (by kernel_rfl) (fun _ _ _ h => h) (Or.inl ⟨by rfl, ?_⟩) (by assumption) ?_
      rotate_left 1
      · intro w' hSw
        try dsimp only at hSw
        go_simp
        try with_reducible rfl
      try simp only [List.getElem_toArray, List.getElem_cons_zero, List.getElem_cons_succ, Act.put, List.setIfInBounds_toArray, List.set_cons_zero, List.set_cons_succ]
      refine late.take (i := 11) [12, 13, 14, 15, 16, 17] (v := ?_) rfl (by kernel_rfl) (by kernel_rfl) (by kernel_rfl) (by kernel_rfl) (fun _ _ _ h => h) (Or.inl ⟨by rfl, ?_⟩) (by assumption) ?_
      rotate_left 1
      · intro w' hSw
        try dsimp only at hSw
        go_simp
        try with_reducible rfl
      try simp only [List.getElem_toArray, List.getElem_cons_zero, List.getElem_cons_succ, Act.put, List.setIfInBounds_toArray, List.set_cons_zero, List.set_cons_succ]
      refine late.take (i := 12) [13, 14, 15, 16, 17] (v := ?_) rfl (by kernel_rfl) (by kernel_rfl) (by kernel_rfl) (by kernel_rfl) (fun _ _ _ h => h) (Or.inl ⟨by rfl, ?_⟩) (by assumption) ?_
      rotate_left 1
      · intro w' hSw
        try dsimp only at hSw
        go_simp
        try with_reducible rfl
      try simp only [List.getElem_toArray, List.getElem_cons_zero, List.getElem_cons_succ, Act.put, List.setIfInBounds_toArray, List.set_cons_zero, List.set_cons_succ]
      refine late.take (i := 13) [14, 15, 16, 17] (v := ?_) rfl (by kernel_rfl) (by kernel_rfl) (by kernel_rfl) (by kernel_rfl) (fun _ _ _ h => h) (Or.inl ⟨by rfl, ?_⟩) (by assumption) ?_
      rotate_left 1
      · intro w' hSw
        try dsimp only at hSw
        go_simp
        try with_reducible rfl
      try simp only [List.getElem_toArray, List.getElem_cons_zero, List.getElem_cons_succ, Act.put, List.setIfInBounds_toArray, List.set_cons_zero, List.set_cons_succ]
      refine late.take (i := 14) [15, 16, 17] (v := ?_) rfl (by kernel_rfl) (by kernel_rfl) (by kernel_rfl) (by kernel_rfl) (fun _ _ _ h => h) (Or.inl ⟨by rfl, ?_⟩) (by assumption) ?_
      rotate_left 1
      · intro w' hSw
        try dsimp only at hSw
        go_simp
        try with_reducible rfl
      try simp only [List.getElem_toArray, List.getElem_cons_zero, List.getElem_cons_succ, Act.put, List.setIfInBounds_toArray, List.set_cons_zero, List.set_cons_succ]
      refine late.ready (rs := [7]) (by kernel_rfl) (by simp) ?_
      refine late.Each.cons rfl (fun K hK => ?_) late.Each.nil
      try simp only [List.getElem_toArray, List.getElem_cons_zero, List.getElem_cons_succ]
      go_simp
      go_at_call 28
      with_reducible refine (HE1.out _).mono ?_
      rintro _ W1 ⟨rfl, ho⟩
      replace hot := Lib.hid (hot.out.trans ho)
      clear ho
      try dsimp only
      refine hK.out _ _ (fun _ => HSM.out _ hot.out) (fun hHeld1 => ?_)
      replace hHeld1 := hHeld1 rfl
      clear hK K
      try simp only [List.getElem_toArray, List.getElem_cons_zero, List.getElem_cons_succ, Act.put, List.setIfInBounds_toArray, List.set_cons_zero, List.set_cons_succ]
      refine late.take (i := 8) [16, 17] (v := ?_) rfl (by kernel_rfl) (by kernel_rfl) (by kernel_rfl) (by kernel_rfl) (fun _ _ _ h => h) (Or.inl ⟨by rfl, ?_⟩) (by assumption) ?_
      rotate_left 1
      · intro w' hSw
        try dsimp only at hSw
        go_simp
        try with_reducible rfl
      try simp only [List.getElem_toArray, List.getElem_cons_zero, List.getElem_cons_succ, Act.put, List.setIfInBounds_toArray, List.set_cons_zero, List.set_cons_succ]
      refine late.ready (rs := [15]) (by kernel_rfl) (by simp) ?_
      refine late.Each.cons rfl (fun K hK => ?_) late.Each.nil
      try simp only [List.getElem_toArray, List.getElem_cons_zero, List.getElem_cons_succ]
      go_simp
      go_at_call 28
      with_reducible refine (HE2.out _).mono ?_
      rintro _ W2 ⟨rfl, ho⟩
      replace hot := Lib.hid (hot.out.trans ho)
      clear ho
      try dsimp only
      refine hK.out _ _ (fun _ => HSM.out _ hot.out) (fun hHeld2 => ?_)
      replace hHeld2 := hHeld2 rfl
      clear hK K
      try simp only [List.getElem_toArray, List.getElem_cons_zero, List.getElem_cons_succ, Act.put, List.setIfInBounds_toArray, List.set_cons_zero, List.set_cons_succ]
      refine late.take (i := 16) [17] (v := ?_) rfl (by kernel_rfl) (by kernel_rfl) (by kernel_rfl) (by kernel_rfl) (fun _ _ _ h => h) (Or.inl ⟨by rfl, ?_⟩) (by assumption) ?_
      rotate_left 1
      · intro w' hSw
        try dsimp only at hSw
        go_simp
        try with_reducible rfl
      try simp only [List.getElem_toArray, List.getElem_cons_zero, List.getElem_cons_succ, Act.put, List.setIfInBounds_toArray, List.set_cons_zero, List.set_cons_succ]
      refine late.take (i := 17) [] (v := ?_) rfl (by kernel_rfl) (by kernel_rfl) (by kernel_rfl) (by kernel_rfl) (fun _ _ _ h => h) (Or.inl ⟨by rfl, ?_⟩) (by assumption) ?_
      rotate_left 1
      · intro w' hSw
        try dsimp only at hSw
        go_simp
        try with_reducible rfl
      try simp only [List.getElem_toArray, List.getElem_cons_zero, List.getElem_cons_succ, Act.put, List.setIfInBounds_toArray, List.set_cons_zero, List.set_cons_succ]
      refine late.done (by kernel_rfl) ?_ _
      refine NoPanic.normal ?_
      have HO9 := Lib.hid (HO.out.trans hot.out)
      clear hHeld hot HSM HE1 HE2 HO c0 c1 d3 a1 a2 b1' b2' HSN
      go_wp2_with fail
      go_roundw
      case rel => exact ⟨i + 1, by omega, by go_num, by rw [HS2.out], HO9⟩
      case measure => simp [intOf]; omega
    · obtain rfl : i = n := by omega
      have HFB : Hid (dskw.strN (H ++ (ts.take i).flatMap trB) = dskw.strN (tarB ⟨G, M, B, ts⟩)) := Lib.hid (by rw [List.take_of_length_le (by rw [HN.out]; omega), HTB.out])
      rw [HFB.out]
      have hnl : ¬ (i : Int) < i := by omega
      go_wp2_with fail
      go_ret
      exact ⟨rfl, HO1.out.trans HO.out⟩
set_option maxRecDepth 100000 in
set_option maxHeartbeats 4000000 in
theorem rpwrite_any (D F T G1 M1 B1 G2 M2 B2 : Int) (a1 a2 : Option Addr) (n1 n2 c1 c2 : Nat) (t1 t2 : List Tr) (w : World) (h1 : ReadsT w a1 n1 t1) (h2 : ReadsT w a2 n2 t2) (h0 : pchkP ⟨D, F, T, ⟨G1, M1, B1, t1⟩, ⟨G2, M2, B2, t2⟩⟩ = 0) :
    Calls Try.prog 11 #[plV D F T G1 M1 B1 G2 M2 B2 a1 a2 n1 n2 c1 c2] w fun e w' => e = .returned (.string (dskw.strN (plB ⟨D, F, T, ⟨G1, M1, B1, t1⟩, ⟨G2, M2, B2, t2⟩⟩))) ∧ Only (fun _ => False) w w' := by
  have hin := pl_in h0
  obtain ⟨⟨d1, d2⟩, ⟨f1, f2⟩, ⟨u1, u2⟩, hA, hO⟩ := hin
  dsimp only at d1 d2 f1 f2 u1 u2 hA hO
  obtain ⟨w1, hw1⟩ : ∃ x, x = w.alloc (.cells #[.int .i64 D, .int .i64 F, .int .i64 T, .int .i64 G1, .int .i64 M1, .int .i64 B1, .slice a1 n1 c1, .int .i64 G2, .int .i64 M2, .int .i64 B2, .slice a2 n2 c2] 26) := ⟨_, rfl⟩
  obtain ⟨p, hp⟩ : ∃ x, x = w.heap.size := ⟨_, rfl⟩
  have HO1 : Hid (Only (fun _ => False) w w1) := Lib.hid (by rw [hw1]; exact (Only.refl _ _).alloc _)
  have hpk : PlanAt w1 p D F T G1 M1 B1 G2 M2 B2 a1 a2 n1 n2 c1 c2 := by rw [hw1, hp]; exact PlanAt.new _ _ _ _ _ _ _ _ _ _ _ _ _ _ _ _
  have HSL : Hid (∀ w', Only (fun _ => False) w1 w' → PlanAt w' p D F T G1 M1 B1 G2 M2 B2 a1 a2 n1 n2 c1 c2) := Lib.hid (fun w' h => hpk.only h (fun f => f))
  have HC1 : Hid (∀ w', _) := Lib.hid (fun w' => r3uintT D w' d1 (by omega))
  have HC2 : Hid (∀ w', _) := Lib.hid (fun w' => r3uintT F w' f1 (by omega))
  have HC3 : Hid (∀ w', _) := Lib.hid (fun w' => r3uintT T w' u1 (by omega))
  have HC4 : Hid (∀ w', Only (fun _ => False) w1 w' → _) := Lib.hid (fun w' (ho : Only (fun _ => False) w1 w') => rtar_any G1 M1 B1 a1 n1 c1 t1 w' (h1.only (HO1.out.trans ho) (fun _ _ f => f)) hA)
  have HCO : Hid (¬ D = 0 → ∀ w', Only (fun _ => False) w1 w' → _) := Lib.hid (fun (hz : ¬ D = 0) w' (ho : Only (fun _ => False) w1 w') => rtar_any G2 M2 B2 a2 n2 c2 t2 w' (h2.only (HO1.out.trans ho) (fun _ _ f => f)) (by rwa [if_neg hz] at hO))
  have hl1 := (enc_length D.toNat).1
  have hl2 := (enc_length F.toNat).1
  have hl3 := (enc_length T.toNat).1
  have hl4 := tarB_len hA
  have hs1 := sum_strT (enc D.toNat) (enc F.toNat) (by omega) (by omega)
  have hs2 := sum_strT (enc D.toNat ++ enc F.toNat) (enc T.toNat) (by rw [List.length_append]; omega) (by omega)
  have hs3 := sum_strT (enc D.toNat ++ enc F.toNat ++ enc T.toNat) (tarB ⟨G1, M1, B1, t1⟩) (by rw [List.length_append, List.length_append]; omega) (by omega)
  have HS4 : Hid (¬ D = 0 → _) := Lib.hid (fun hz : ¬ D = 0 => sum_strT (enc D.toNat ++ enc F.toNat ++ enc T.toNat ++ tarB ⟨G1, M1, B1, t1⟩) (tarB ⟨G2, M2, B2, t2⟩) (by simp only [List.length_append]; omega) (by have hO2 : TfIn ⟨G2, M2, B2, t2⟩ := (by rwa [if_neg hz] at hO); have := tarB_len hO2; omega))
  have HF0 : Hid (D = 0 → enc D.toNat ++ enc F.toNat ++ enc T.toNat ++ tarB ⟨G1, M1, B1, t1⟩ = plB ⟨D, F, T, ⟨G1, M1, B1, t1⟩, ⟨G2, M2, B2, t2⟩⟩) := Lib.hid (fun hz => by
    unfold plB; dsimp only; rw [if_pos hz]; simp only [List.append_assoc, List.append_nil])
  have HF1 : Hid (¬ D = 0 → enc D.toNat ++ enc F.toNat ++ enc T.toNat ++ tarB ⟨G1, M1, B1, t1⟩ ++ tarB ⟨G2, M2, B2, t2⟩ = plB ⟨D, F, T, ⟨G1, M1, B1, t1⟩, ⟨G2, M2, B2, t2⟩⟩) := Lib.hid (fun hz => by
    unfold plB; dsimp only; rw [if_neg hz]; simp only [List.append_assoc])
  unfold PlanAt at HSL
  unfold plV
  clear h1 h2 h0 hA hO hpk hl1 hl2 hl3 hl4 d1 d2 f1 f2 u1 u2
  generalize plB ⟨D, F, T, ⟨G1, M1, B1, t1⟩, ⟨G2, M2, B2, t2⟩⟩ = PB at *
  generalize tarB ⟨G1, M1, B1, t1⟩ = TA at *
  generalize tarB ⟨G2, M2, B2, t2⟩ = TB at *
  generalize enc D.toNat ++ enc F.toNat ++ enc T.toNat ++ TA ++ TB = X5 at *
  generalize enc D.toNat ++ enc F.toNat ++ enc T.toNat ++ TA = X4 at *
  generalize enc D.toNat ++ enc F.toNat ++ enc T.toNat = X3 at *
  generalize enc D.toNat ++ enc F.toNat = X2 at *
  generalize enc D.toNat = X1 at *
  generalize enc F.toNat = Y1 at *
  generalize enc T.toNat = Y2 at *
  obtain ⟨d1, f1⟩ := hs1
  obtain ⟨d2, f2⟩ := hs2
  obtain ⟨d3, f3⟩ := hs3
  go_enter Try.func11, Try.ntmps11
  go_upto_region 1 with fail
  simp only [← hw1, ← hp]
  clear hw1 hp
  refine wp_region_noPanic ?_
  refine late.region (fun w' => w'.cell? ⟨p, 0, none⟩ = some (.int .i64 D) ∧ w'.cell? ⟨p, 1, none⟩ = some (.int .i64 F) ∧ w'.cell? ⟨p, 2, none⟩ = some (.int .i64 T) ∧ w'.cell? ⟨p, 3, none⟩ = some (.int .i64 G1) ∧ w'.cell? ⟨p, 4, none⟩ = some (.int .i64 M1) ∧ w'.cell? ⟨p, 5, none⟩ = some (.int .i64 B1) ∧ w'.cell? ⟨p, 6, none⟩ = some (.slice a1 n1 c1) ∧ w'.cell? ⟨p, 7, none⟩ = some (.int .i64 G2) ∧ w'.cell? ⟨p, 8, none⟩ = some (.int .i64 M2) ∧ w'.cell? ⟨p, 9, none⟩ = some (.int .i64 B2) ∧ w'.cell? ⟨p, 10, none⟩ = some (.slice a2 n2 c2)) (fun j => [].contains j) (by kernel_rfl) (HSL.out _ (Only.refl _ _).drew) (fun hHeld => ?_)
  obtain ⟨z0, hz0⟩ : ∃ x, x = w1.drew := ⟨_, rfl⟩
  rw [← hz0] at hHeld ⊢
  have hot : Hid (Only (fun _ => False) w1 z0) := Lib.hid (by rw [hz0]; exact (Only.refl _ _).drew)
  clear hz0
  refine late.take (i := 0) [1, 2, 5, 6, 9, 10, 13, 14, 15] (v := ?_) rfl (by kernel_rfl) (by kernel_rfl) (by kernel_rfl) (by kernel_rfl) (fun _ _ _ h => h) (Or.inl ⟨by rfl, ?_⟩) (by assumption) ?_
  rotate_left 1
  · intro w' hSw
    try dsimp only at hSw
    go_simp
    try with_reducible rfl
  try simp only [List.getElem_toArray, List.getElem_cons_zero, Act.put, List.setIfInBounds_toArray, List.set_cons_zero, List.set_cons_succ]
  refine late.take (i := 1) [2, 5, 6, 9, 10, 13, 14, 15] (v := ?_) rfl (by kernel_rfl) (by kernel_rfl) (by kernel_rfl) (by kernel_rfl) (fun _ _ _ h => h) (Or.inl ⟨by rfl, ?_⟩) (by assumption) ?_
  rotate_left 1
  · intro w' hSw
    try dsimp only at hSw
    go_simp
    try with_reducible rfl
  try simp only [List.getElem_toArray, List.getElem_cons_zero, List.getElem_cons_succ, Act.put, List.setIfInBounds_toArray, List.set_cons_zero, List.set_cons_succ]
  refine late.take (i := 3) [4, 5, 6, 9, 10, 13, 14, 15] (v := ?_) rfl (by kernel_rfl) (by kernel_rfl) (by kernel_rfl) (by kernel_rfl) (fun _ _ _ h => h) (Or.inl ⟨by rfl, ?_⟩) (by assumption) ?_
  rotate_left 1
  · intro w' hSw
    try dsimp only at hSw
    go_simp
    try with_reducible rfl
  try simp only [List.getElem_toArray, List.getElem_cons_zero, List.getElem_cons_succ, Act.put, List.setIfInBounds_toArray, List.set_cons_zero, List.set_cons_succ]
  refine late.take (i := 4) [5, 6, 9, 10, 13, 14, 15] (v := ?_) rfl (by kernel_rfl) (by kernel_rfl) (by kernel_rfl) (by kernel_rfl) (fun _ _ _ h => h) (Or.inl ⟨by rfl, ?_⟩) (by assumption) ?_
  rotate_left 1
  · intro w' hSw
    try dsimp only at hSw
    go_simp
    try with_reducible rfl
  try simp only [List.getElem_toArray, List.getElem_cons_zero, List.getElem_cons_succ, Act.put, List.setIfInBounds_toArray, List.set_cons_zero, List.set_cons_succ]
  refine late.take (i := 7) [8, 9, 10, 13, 14, 15] (v := ?_) rfl (by kernel_rfl) (by kernel_rfl) (by kernel_rfl) (by kernel_rfl) (fun _ _ _ h => h) (Or.inl ⟨by rfl, ?_⟩) (by assumption) ?_
  rotate_left 1
  · intro w' hSw
    try dsimp only at hSw
    go_simp
    try with_reducible rfl
  try simp only [List.getElem_toArray, List.getElem_cons_zero, List.getElem_cons_succ, Act.put, List.setIfInBounds_toArray, List.set_cons_zero, List.set_cons_succ]
  refine late.take (i := 8) [9, 10, 13, 14, 15] (v := ?_) rfl (by kernel_rfl) (by kernel_rfl) (by kernel_rfl) (by kernel_rfl) (fun _ _ _ h => h) (Or.inl ⟨by rfl, ?_⟩) (by assumption) ?_
  rotate_left 1
  · intro w' hSw
    try dsimp only at hSw
    go_simp
    try with_reducible rfl
  try simp only [List.getElem_toArray, List.getElem_cons_zero, List.getElem_cons_succ, Act.put, List.setIfInBounds_toArray, List.set_cons_zero, List.set_cons_succ]
  refine late.take (i := 11) [12, 13, 14, 15] (v := ?_) rfl (by kernel_rfl) (by kernel_rfl) (by kernel_rfl) (by kernel_rfl) (fun _ _ _ h => h) (Or.inl ⟨by rfl, ?_⟩) (by assumption) ?_
  rotate_left 1
  · intro w' hSw
    try dsimp only at hSw
    go_simp
    try with_reducible rfl
  try simp only [List.getElem_toArray, List.getElem_cons_zero, List.getElem_cons_succ, Act.put, List.setIfInBounds_toArray, List.set_cons_zero, List.set_cons_succ]
  refine late.take (i := 12) [13, 14, 15] (v := ?_) rfl (by kernel_rfl) (by kernel_rfl) (by kernel_rfl) (by kernel_rfl) (fun _ _ _ h => h) (Or.inl ⟨by rfl, ?_⟩) (by assumption) ?_
  rotate_left 1
  · intro w' hSw
    try dsimp only at hSw
    go_simp
    try with_reducible rfl
  try simp only [List.getElem_toArray, List.getElem_cons_zero, List.getElem_cons_succ, Act.put, List.setIfInBounds_toArray, List.set_cons_zero, List.set_cons_succ]
  refine late.ready (rs := [2]) (by kernel_rfl) (by simp) ?_
  refine late.Each.cons rfl (fun K hK => ?_) late.Each.nil
  try simp only [List.getElem_toArray, List.getElem_cons_zero, List.getElem_cons_succ]
  go_simp
  go_at_call 28
  with_reducible refine (HC1.out _).mono ?_
  rintro _ W1 ⟨rfl, ho⟩
  replace hot := Lib.hid (hot.out.trans ho)
  clear ho
  try dsimp only
  refine hK.out _ _ (fun _ => HSL.out _ hot.out) (fun hHeld1 => ?_)
  replace hHeld1 := hHeld1 rfl
  clear hK K
  try simp only [List.getElem_toArray, List.getElem_cons_zero, List.getElem_cons_succ, Act.put, List.setIfInBounds_toArray, List.set_cons_zero, List.set_cons_succ]
  refine late.ready (rs := [5]) (by kernel_rfl) (by simp) ?_
  refine late.Each.cons rfl (fun K hK => ?_) late.Each.nil
  try simp only [List.getElem_toArray, List.getElem_cons_zero, List.getElem_cons_succ]
  go_simp
  go_at_call 28
  with_reducible refine (HC2.out _).mono ?_
  rintro _ W2 ⟨rfl, ho⟩
  replace hot := Lib.hid (hot.out.trans ho)
  clear ho
  try dsimp only
  refine hK.out _ _ (fun _ => HSL.out _ hot.out) (fun hHeld2 => ?_)
  replace hHeld2 := hHeld2 rfl
  clear hK K
  try simp only [List.getElem_toArray, List.getElem_cons_zero, List.getElem_cons_succ, Act.put, List.setIfInBounds_toArray, List.set_cons_zero, List.set_cons_succ]
  refine late.take (i := 6) [10, 14, 15] (v := ?_) rfl (by kernel_rfl) (by kernel_rfl) (by kernel_rfl) (by kernel_rfl) (fun _ _ _ h => h) (Or.inl ⟨by rfl, ?_⟩) (by assumption) ?_
  rotate_left 1
  · intro w' hSw
    try dsimp only at hSw
    go_simp
    try with_reducible rfl
  try simp only [List.getElem_toArray, List.getElem_cons_zero, List.getElem_cons_succ, Act.put, List.setIfInBounds_toArray, List.set_cons_zero, List.set_cons_succ]
  refine late.ready (rs := [9]) (by kernel_rfl) (by simp) ?_
  refine late.Each.cons rfl (fun K hK => ?_) late.Each.nil
  try simp only [List.getElem_toArray, List.getElem_cons_zero, List.getElem_cons_succ]
  go_simp
  go_at_call 28
  with_reducible refine (HC3.out _).mono ?_
  rintro _ W3 ⟨rfl, ho⟩
  replace hot := Lib.hid (hot.out.trans ho)
  clear ho
  try dsimp only
  refine hK.out _ _ (fun _ => HSL.out _ hot.out) (fun hHeld3 => ?_)
  replace hHeld3 := hHeld3 rfl
  clear hK K
  try simp only [List.getElem_toArray, List.getElem_cons_zero, List.getElem_cons_succ, Act.put, List.setIfInBounds_toArray, List.set_cons_zero, List.set_cons_succ]
  refine late.take (i := 10) [14, 15] (v := ?_) rfl (by kernel_rfl) (by kernel_rfl) (by kernel_rfl) (by kernel_rfl) (fun _ _ _ h => h) (Or.inl ⟨by rfl, ?_⟩) (by assumption) ?_
  rotate_left 1
  · intro w' hSw
    try dsimp only at hSw
    go_simp
    try with_reducible rfl
  try simp only [List.getElem_toArray, List.getElem_cons_zero, List.getElem_cons_succ, Act.put, List.setIfInBounds_toArray, List.set_cons_zero, List.set_cons_succ]
  refine late.ready (rs := [13]) (by kernel_rfl) (by simp) ?_
  refine late.Each.cons rfl (fun K hK => ?_) late.Each.nil
  try simp only [List.getElem_toArray, List.getElem_cons_zero, List.getElem_cons_succ]
  go_simp
  go_at_call 29
  with_reducible refine (HC4.out _ hot.out).mono ?_
  rintro _ W4 ⟨rfl, ho⟩
  replace hot := Lib.hid (hot.out.trans ho)
  clear ho
  try dsimp only
  refine hK.out _ _ (fun _ => HSL.out _ hot.out) (fun hHeld4 => ?_)
  replace hHeld4 := hHeld4 rfl
  clear hK K
  try simp only [List.getElem_toArray, List.getElem_cons_zero, List.getElem_cons_succ, Act.put, List.setIfInBounds_toArray, List.set_cons_zero, List.set_cons_succ]
  refine late.take (i := 14) [15] (v := ?_) rfl (by kernel_rfl) (by kernel_rfl) (by kernel_rfl) (by kernel_rfl) (fun _ _ _ h => h) (Or.inl ⟨by rfl, ?_⟩) (by assumption) ?_
  rotate_left 1
  · intro w' hSw
    try dsimp only at hSw
    go_simp
    try with_reducible rfl
  try simp only [List.getElem_toArray, List.getElem_cons_zero, List.getElem_cons_succ, Act.put, List.setIfInBounds_toArray, List.set_cons_zero, List.set_cons_succ]
  refine late.take (i := 15) [] (v := ?_) rfl (by kernel_rfl) (by kernel_rfl) (by kernel_rfl) (by kernel_rfl) (fun _ _ _ h => h) (Or.inl ⟨by rfl, ?_⟩) (by assumption) ?_
  rotate_left 1
  · intro w' hSw
    try dsimp only at hSw
    go_simp
    try with_reducible rfl
  try simp only [List.getElem_toArray, List.getElem_cons_zero, List.getElem_cons_succ, Act.put, List.setIfInBounds_toArray, List.set_cons_zero, List.set_cons_succ]
  refine late.done (by kernel_rfl) ?_ _
  refine NoPanic.normal ?_
  have HO2 := Lib.hid hot.out
  obtain ⟨k0, k1, k2, k3, k4, k5, k6, k7, k8, k9, k10⟩ := HSL.out _ hot.out
  clear hHeld hot HC1 HC2 HC3 HC4 HSL f1 f2 f3 d1 d2 d3
  rename World => w2
  by_cases hz : D = 0
  · have hzb : (D != 0) = false := by simp [hz]
    have HF := Lib.hid (HF0.out hz)
    clear hz HF0 HF1 HCO HS4
    go_wp2_with fail
    rw [HF.out]
    go_ret
    exact ⟨rfl, HO1.out.trans HO2.out⟩
  · have hzb : (D != 0) = true := by simp [hz]
    have HF := Lib.hid (HF1.out hz)
    have HCO2 := Lib.hid (HCO.out hz _ HO2.out)
    obtain ⟨d4, f4⟩ := HS4.out hz
    clear hz HF0 HF1 HCO HS4
    go_wp2_with fail
    refine HCO2.out.mono ?_
    rintro _ w3 ⟨rfl, ho⟩
    have HO3 := Lib.hid ((HO1.out.trans HO2.out).trans ho)
    clear ho k0 k1 k2 k3 k4 k5 k6 k7 k8 k9 k10 HCO2
    go_wp2_with fail
    rw [HF.out]
    go_ret
    exact ⟨rfl, HO3.out⟩
end Go.Proofs.Ytfdaokjigjpomaa.tfw
namespace Go.Proofs.Ytfdaokjigjpomaa.tfw
open Go.RowKit mem codm codp tirm tirw intm
set_option linter.unusedVariables false

set_option maxRecDepth 100000 in
set_option maxHeartbeats 2000000 in
theorem tame9_any (G M B : Int) (a : Option Addr) (len cap n : Nat) (ts : List Tr) (w : World) (h : TiersR w a len cap ts) (hn : n = min len 9) :
    Calls Try.prog 15 #[.agg #[.int .i64 G, .int .i64 M, .int .i64 B, .slice a len cap]] w (TamedAt G M B (ts.take n) w) := by
  obtain ⟨i0, hi, hz0, hz1, hz2⟩ := info_parts info_tier
  obtain ⟨hr, hlc, hcm, hnone⟩ := h
  have hn70 : n ≤ 9 := by omega
  have hnl : n ≤ len := by omega
  have HR : Hid (ReadsT w a n (ts.take n)) := Lib.hid (hr.take n (by omega))
  have hlen : (ts.take n).length = n := HR.out.1
  unfold TamedAt
  rw [hlen]
  generalize ts.take n = l' at *
  rcases a with _ | x
  · obtain rfl : cap = 0 := hnone rfl
    obtain rfl : len = 0 := by omega
    obtain rfl : n = 0 := by omega
    have hm0 : min (0 : Int) 9 = 0 := by decide
    clear hr hnone hn
    have HN : Hid (l' = []) := Lib.hid (List.eq_nil_of_length_eq_zero hlen)
    clear hlen
    go_enter Try.func15, Try.ntmps15
    go_wp2_with fail
    refine bodyPost_ret (v := .agg #[.int .i64 G, .int .i64 M, .int .i64 B, .slice (some ⟨w.heap.size + 1 + 1, 0, none⟩) 0 0]) (by simp [results, Try.results15, go_sem]) rfl ⟨_, 0, rfl, by rw [HN.out]; exact ReadsT.nil _ _, Nat.le_refl _, by omega, (((Only.refl _ w).alloc _).alloc _).alloc _⟩
  · have hmin : min (len : Int) 9 = (n : Int) := by omega
    have HNL := Lib.hid hn
    have HIN : Hid (∀ x ∈ l', InI x.u ∧ InI x.p) := Lib.hid HR.out.2.2.1
    have HN2 := Lib.hid hlen
    have hni : (0 : Int) ≤ (n : Int) := by omega
    have hnc : (n : Int) ≤ (cap : Int) := by omega
    obtain ⟨W0, hW0⟩ : ∃ W0, W0 = ((w.alloc (.cells #[.int .i64 G, .int .i64 M, .int .i64 B, .slice (some x) len cap] 24)).alloc (.cells #[.int .i64 0, .int .i64 0, .int .i64 0, .slice none 0 0] 24)).alloc (.cells #[] 74) := ⟨_, rfl⟩
    have HO0 : Hid (Only (fun _ => False) w W0) := Lib.hid (by rw [hW0]; exact (((Only.refl _ w).alloc _).alloc _).alloc _)
    have HP : Hid (W0.ownsRow (w.heap.size + 2) 74 2 (.slice (some ⟨w.heap.size + 1 + 1, 0, none⟩) 0 0) 0 (tv [])) := Lib.hid (by
      rw [hW0]
      have := World.ownsRow_lit (base := w.heap.size + 2) (e := 74) (size := 2) ((w.alloc (.cells #[.int .i64 G, .int .i64 M, .int .i64 B, .slice (some x) len cap] 24)).alloc (.cells #[.int .i64 0, .int .i64 0, .int .i64 0, .slice none 0 0] 24)) #[] 0 (by simp) (by decide) rfl
      have e : ((w.alloc (.cells #[.int .i64 G, .int .i64 M, .int .i64 B, .slice (some x) len cap] 24)).alloc (.cells #[.int .i64 0, .int .i64 0, .int .i64 0, .slice none 0 0] 24)).heap.size = w.heap.size + 1 + 1 := by simp
      rw [e] at this
      exact this)
    have HTB : Hid (W0.cell? ⟨w.heap.size, 0, none⟩ = some (.int .i64 G) ∧ W0.cell? ⟨w.heap.size, 1, none⟩ = some (.int .i64 M) ∧ W0.cell? ⟨w.heap.size, 2, none⟩ = some (.int .i64 B) ∧ W0.cell? ⟨w.heap.size, 3, none⟩ = some (.slice (some x) len cap)) := Lib.hid (by
      rw [hW0]
      have ho : Only (fun _ => False) (w.alloc (.cells #[.int .i64 G, .int .i64 M, .int .i64 B, .slice (some x) len cap] 24)) (((w.alloc (.cells #[.int .i64 G, .int .i64 M, .int .i64 B, .slice (some x) len cap] 24)).alloc (.cells #[.int .i64 0, .int .i64 0, .int .i64 0, .slice none 0 0] 24)).alloc (.cells #[] 74)) := ((Only.refl _ _).alloc _).alloc _
      exact ⟨ho.cell' (alloc_new _ _ _ _ _ _ rfl rfl) (fun f => f), ho.cell' (alloc_new _ _ _ _ _ _ rfl rfl) (fun f => f), ho.cell' (alloc_new _ _ _ _ _ _ rfl rfl) (fun f => f), ho.cell' (alloc_new _ _ _ _ _ _ rfl rfl) (fun f => f)⟩)
    have HFT : Hid (Four W0 w.heap.size) := Lib.hid (by rw [hW0]; exact (Four.new rfl).only (((Only.refl (fun _ => False) _).alloc _).alloc _) (fun f => f))
    have HFR : Hid (Four W0 (w.heap.size + 1)) := Lib.hid (by rw [hW0]; exact (Four.new (by simp)).only ((Only.refl (fun _ => False) _).alloc _) (fun f => f))
    have HRW : Hid (ReadsT W0 (some x) n l') := Lib.hid (HR.out.only HO0.out (fun _ _ f => f))
    rw [hW0] at HP HRW
    have HW0 := Lib.hid hW0
    have hn9 : (len ≤ 9 ∧ n = len) ∨ (9 < len ∧ n = 9) := by omega
    clear hr hnone hn hlen hW0 hmin
    rcases hn9 with ⟨h9, rfl⟩ | ⟨h9, rfl⟩
    · have h99 : (n : Int) ≤ 9 := by omega
      go_enter Try.func15, Try.ntmps15
      go_wp2_with (at_builtin; refine wpList_append_own _ rfl _ _ 22 rfl (w.heap.size + 2) 74 i0 _ 2 16 Try.underlying22 hi hz0 hz1 hz2 rfl (by decide) _ 0 _ rfl HP.out x n cap (tv l') rfl ?c1 ?c2 ?c3 ?c4 ?c5 ?c6 ?_)
      case c1 => rw [tv_length, HN2.out]
      case c2 => exact newsT HRW.out
      case c3 => exact tv_one l'
      case c4 => unfold maxLen; omega
      case c5 => omega
      case c6 => simp
      intro v2 w2 hown hgrow hne
      obtain ⟨g, cp, rfl, hg, hcp⟩ := form_own hown (fun e => hne e)
      rw [← HW0.out] at hgrow
      have HGR : Hid (Only (fun q => q = w.heap.size + 1 + 1) W0 w2) := Lib.hid ((Only.of_grown hgrow).mono (fun q _ hq => by
        have : w.heap.size + 1 + 1 = q := by simpa [Value.ownBlock] using hq
        omega))
      have HRD := Lib.hid (own_readsT hown (by omega) HIN.out)
      have c0 := HGR.out.cell' HTB.out.1 (fun e => by have e' : w.heap.size = w.heap.size + 1 + 1 := e; omega)
      have c1 := HGR.out.cell' HTB.out.2.1 (fun e => by have e' : w.heap.size = w.heap.size + 1 + 1 := e; omega)
      have c2 := HGR.out.cell' HTB.out.2.2.1 (fun e => by have e' : w.heap.size = w.heap.size + 1 + 1 := e; omega)
      have c3 := HGR.out.cell' HTB.out.2.2.2 (fun e => by have e' : w.heap.size = w.heap.size + 1 + 1 := e; omega)
      obtain ⟨_, _, _, _, _, _, _, f3⟩ := HFT.out.only HGR.out (fun e => by have e' : w.heap.size = w.heap.size + 1 + 1 := e; omega)
      have HST : Hid (Only (fun q => q = w.heap.size) w2 (w2.setCell ⟨w.heap.size, 3, none⟩ (.slice (some ⟨g, 0, none⟩) n cp))) := Lib.hid (Only.set (fun q => q = w.heap.size) w2 w.heap.size 3 _ rfl)
      have HR4 := (HFR.out.only HGR.out (fun e => by have e' : w.heap.size + 1 = w.heap.size + 1 + 1 := e; omega)).only HST.out (fun e => by have e' : w.heap.size + 1 = w.heap.size := e; omega)
      have HE := Lib.hid (HR4.set (.int .i64 G) (.int .i64 M) (.int .i64 B) (.slice (some ⟨g, 0, none⟩) n cp))
      obtain ⟨⟨_, r0⟩, ⟨_, r1⟩, ⟨_, r2⟩, ⟨_, r3⟩, g0, g1, g2, g3⟩ := HR4
      have e0 : (w2.setCell ⟨w.heap.size, 3, none⟩ (.slice (some ⟨g, 0, none⟩) n cp)).cell? ⟨w.heap.size, 3, none⟩ = some (.slice (some ⟨g, 0, none⟩) n cp) := cell_same c3
      clear hown hgrow hne HP HRW
      go_wp2_with fail
      refine bodyPost_ret (v := .agg #[.int .i64 G, .int .i64 M, .int .i64 B, .slice (some ⟨g, 0, none⟩) n cp]) (by simp [results, Try.results15, go_sem, HE.out.1, HE.out.2.1, HE.out.2.2.1, HE.out.2.2.2.1]) rfl ⟨g, cp, rfl, ?_, by omega, by omega, ?_⟩
      · exact (HRD.out.only HST.out (fun y hy e => by injection hy with hy; subst hy; have e' : g = w.heap.size := e; omega)).only HE.out.2.2.2.2 (fun y hy e => by injection hy with hy; subst hy; have e' : g = w.heap.size + 1 := e; omega)
      · exact ((HO0.out.then HGR.out (fun q hq e => by have e' : q = w.heap.size + 1 + 1 := e; omega)).then HST.out (fun q hq e => by have e' : q = w.heap.size := e; omega)).then HE.out.2.2.2.2 (fun q hq e => by have e' : q = w.heap.size + 1 := e; omega)
    · have h99 : (9 : Int) < (len : Int) := by omega
      go_enter Try.func15, Try.ntmps15
      go_wp2_with (at_builtin; refine wpList_append_own _ rfl _ _ 22 rfl (w.heap.size + 2) 74 i0 _ 2 16 Try.underlying22 hi hz0 hz1 hz2 rfl (by decide) _ 0 _ rfl HP.out x 9 cap (tv l') rfl ?c1 ?c2 ?c3 ?c4 ?c5 ?c6 ?_)
      case c1 => rw [tv_length, HN2.out]
      case c2 => exact newsT HRW.out
      case c3 => exact tv_one l'
      case c4 => unfold maxLen; omega
      case c5 => omega
      case c6 => simp
      intro v2 w2 hown hgrow hne
      obtain ⟨g, cp, rfl, hg, hcp⟩ := form_own hown (fun e => hne e)
      rw [← HW0.out] at hgrow
      have HGR : Hid (Only (fun q => q = w.heap.size + 1 + 1) W0 w2) := Lib.hid ((Only.of_grown hgrow).mono (fun q _ hq => by
        have : w.heap.size + 1 + 1 = q := by simpa [Value.ownBlock] using hq
        omega))
      have HRD := Lib.hid (own_readsT hown (by omega) HIN.out)
      have c0 := HGR.out.cell' HTB.out.1 (fun e => by have e' : w.heap.size = w.heap.size + 1 + 1 := e; omega)
      have c1 := HGR.out.cell' HTB.out.2.1 (fun e => by have e' : w.heap.size = w.heap.size + 1 + 1 := e; omega)
      have c2 := HGR.out.cell' HTB.out.2.2.1 (fun e => by have e' : w.heap.size = w.heap.size + 1 + 1 := e; omega)
      have c3 := HGR.out.cell' HTB.out.2.2.2 (fun e => by have e' : w.heap.size = w.heap.size + 1 + 1 := e; omega)
      obtain ⟨_, _, _, _, _, _, _, f3⟩ := HFT.out.only HGR.out (fun e => by have e' : w.heap.size = w.heap.size + 1 + 1 := e; omega)
      have HST : Hid (Only (fun q => q = w.heap.size) w2 (w2.setCell ⟨w.heap.size, 3, none⟩ (.slice (some ⟨g, 0, none⟩) 9 cp))) := Lib.hid (Only.set (fun q => q = w.heap.size) w2 w.heap.size 3 _ rfl)
      have HR4 := (HFR.out.only HGR.out (fun e => by have e' : w.heap.size + 1 = w.heap.size + 1 + 1 := e; omega)).only HST.out (fun e => by have e' : w.heap.size + 1 = w.heap.size := e; omega)
      have HE := Lib.hid (HR4.set (.int .i64 G) (.int .i64 M) (.int .i64 B) (.slice (some ⟨g, 0, none⟩) 9 cp))
      obtain ⟨⟨_, r0⟩, ⟨_, r1⟩, ⟨_, r2⟩, ⟨_, r3⟩, g0, g1, g2, g3⟩ := HR4
      have e0 : (w2.setCell ⟨w.heap.size, 3, none⟩ (.slice (some ⟨g, 0, none⟩) 9 cp)).cell? ⟨w.heap.size, 3, none⟩ = some (.slice (some ⟨g, 0, none⟩) 9 cp) := cell_same c3
      clear hown hgrow hne HP HRW
      go_wp2_with fail
      refine bodyPost_ret (v := .agg #[.int .i64 G, .int .i64 M, .int .i64 B, .slice (some ⟨g, 0, none⟩) 9 cp]) (by simp [results, Try.results15, go_sem, HE.out.1, HE.out.2.1, HE.out.2.2.1, HE.out.2.2.2.1]) rfl ⟨g, cp, rfl, ?_, by omega, by omega, ?_⟩
      · exact (HRD.out.only HST.out (fun y hy e => by injection hy with hy; subst hy; have e' : g = w.heap.size := e; omega)).only HE.out.2.2.2.2 (fun y hy e => by injection hy with hy; subst hy; have e' : g = w.heap.size + 1 := e; omega)
      · exact ((HO0.out.then HGR.out (fun q hq e => by have e' : q = w.heap.size + 1 + 1 := e; omega)).then HST.out (fun q hq e => by have e' : q = w.heap.size := e; omega)).then HE.out.2.2.2.2 (fun q hq e => by have e' : q = w.heap.size + 1 := e; omega)
set_option maxRecDepth 100000 in
set_option maxHeartbeats 1000000 in
theorem to9_any (D F T G1 M1 B1 G2 M2 B2 : Int) (a1 a2 : Option Addr) (n1 n2 c1 c2 : Nat) (w : World) : Calls Try.prog 7 #[plV D F T G1 M1 B1 G2 M2 B2 a1 a2 n1 n2 c1 c2] w fun e w' => e = .returned (plV D F T G1 M1 B1 G2 M2 B2 a1 a2 n1 n2 c1 c2) ∧ Only (fun _ => False) w w' := by
  unfold plV
  go_enter Try.func7, Try.ntmps7
  obtain ⟨p0, p1, p2, p3, p4, p5, p6, p7, p8, p9, p10⟩ := (PlanAt.new (w := w) D F T G1 M1 B1 G2 M2 B2 a1 a2 n1 n2 c1 c2 26).only ((Only.refl (fun _ => False) _).alloc (.cells #[.int .i64 0, .int .i64 0, .int .i64 0, .int .i64 0, .int .i64 0, .int .i64 0, .slice none 0 0, .int .i64 0, .int .i64 0, .int .i64 0, .slice none 0 0] 32)) (fun f => f)
  go_wp2_with fail
  refine bodyPost_ret (v := .agg #[.int .i64 D, .int .i64 F, .int .i64 T, .int .i64 G1, .int .i64 M1, .int .i64 B1, .slice a1 n1 c1, .int .i64 G2, .int .i64 M2, .int .i64 B2, .slice a2 n2 c2]) (by simp [results, Try.results7, go_sem]) rfl ⟨rfl, ((Only.refl _ w).alloc _).alloc _⟩
set_option maxRecDepth 100000 in
set_option maxHeartbeats 4000000 in
theorem pwrite_no (D F T G1 M1 B1 G2 M2 B2 : Int) (a1 a2 : Option Addr) (n1 n2 c1 c2 : Nat) (t1 t2 : List Tr) (w : World) (er : Int) (h1 : ReadsT w a1 n1 t1) (h2 : ReadsT w a2 n2 t2) (h0 : pchkP ⟨D, F, T, ⟨G1, M1, B1, t1⟩, ⟨G2, M2, B2, t2⟩⟩ = er) (hne : er ≠ 0) :
    Calls Try.prog 6 #[plV D F T G1 M1 B1 G2 M2 B2 a1 a2 n1 n2 c1 c2] w fun e w' => e = .returned (.tuple #[.slice none 0 0, .int .i64 er]) ∧ Only (fun _ => False) w w' := by
  have HC := Lib.hid (fun w' (ho : Only (fun _ => False) w w') => cplan_any D F T G1 M1 B1 G2 M2 B2 a1 a2 n1 n2 c1 c2 t1 t2 w' (h1.only ho (fun _ _ f => f)) (h2.only ho (fun _ _ f => f)))
  rw [show pchk D F T G1 M1 B1 G2 M2 B2 t1 t2 = er from h0] at HC
  have hz : (er != 0) = true := by simp [hne]
  obtain ⟨w1, hw1⟩ : ∃ x, x = w.alloc (.cells #[.int .i64 D, .int .i64 F, .int .i64 T, .int .i64 G1, .int .i64 M1, .int .i64 B1, .slice a1 n1 c1, .int .i64 G2, .int .i64 M2, .int .i64 B2, .slice a2 n2 c2] 32) := ⟨_, rfl⟩
  obtain ⟨p1, hp1⟩ : ∃ x, x = w.heap.size := ⟨_, rfl⟩
  have HK1 : Hid (PlanAt w1 p1 D F T G1 M1 B1 G2 M2 B2 a1 a2 n1 n2 c1 c2) := Lib.hid (by rw [hw1, hp1]; exact PlanAt.new _ _ _ _ _ _ _ _ _ _ _ _ _ _ _ _)
  have HO1 : Hid (Only (fun _ => False) w w1) := Lib.hid (by rw [hw1]; exact (Only.refl _ _).alloc _)
  unfold plV
  clear h1 h2 h0 hne
  go_enter Try.func6, Try.ntmps6
  go_upto_region 1 with fail
  simp only [← hw1, ← hp1]
  clear hw1 hp1
  obtain ⟨k0, k1, k2, k3, k4, k5, k6, k7, k8, k9, k10⟩ := id HK1.out
  go_wp2_with fail
  refine (HC.out w1 HO1.out).mono ?_
  rintro _ w2 ⟨rfl, ho⟩
  have HO2 := Lib.hid (HO1.out.trans ho)
  clear ho k0 k1 k2 k3 k4 k5 k6 k7 k8 k9 k10 HC HK1 HO1
  go_wp2_with fail
  go_ret2
  exact ⟨rfl, HO2.out⟩
/-- both, tamed: of a plan the first nine tiers of each -/
def BothAt (D F T G1 M1 B1 G2 M2 B2 : Int) (u1 u2 : List Tr) (w : World) (e : Ending) (w' : World) : Prop := ∃ g1 g2 q1 q2, e = .returned (plV D F T G1 M1 B1 G2 M2 B2 (some ⟨g1, 0, none⟩) (some ⟨g2, 0, none⟩) u1.length u2.length q1 q2) ∧ ReadsT w' (some ⟨g1, 0, none⟩) u1.length u1 ∧ ReadsT w' (some ⟨g2, 0, none⟩) u2.length u2 ∧ w.heap.size ≤ g1 ∧ w.heap.size ≤ g2 ∧ Only (fun _ => False) w w'
set_option maxRecDepth 100000 in
set_option maxHeartbeats 4000000 in
theorem both_any (D F T G1 M1 B1 G2 M2 B2 : Int) (a1 a2 : Option Addr) (n1 n2 c1 c2 : Nat) (t1 t2 : List Tr) (w : World) (h1 : TiersR w a1 n1 c1 t1) (h2 : TiersR w a2 n2 c2 t2) :
    Calls Try.prog 5 #[plV D F T G1 M1 B1 G2 M2 B2 a1 a2 n1 n2 c1 c2] w (BothAt D F T G1 M1 B1 G2 M2 B2 (t1.take (min n1 9)) (t2.take (min n2 9)) w) := by
  obtain ⟨w1, hw1⟩ : ∃ x, x = w.alloc (.cells #[.int .i64 D, .int .i64 F, .int .i64 T, .int .i64 G1, .int .i64 M1, .int .i64 B1, .slice a1 n1 c1, .int .i64 G2, .int .i64 M2, .int .i64 B2, .slice a2 n2 c2] 26) := ⟨_, rfl⟩
  obtain ⟨p, hp⟩ : ∃ x, x = w.heap.size := ⟨_, rfl⟩
  obtain ⟨w2, hw2⟩ : ∃ x, x = w1.alloc (.cells #[.int .i64 0, .int .i64 0, .int .i64 0, .int .i64 0, .int .i64 0, .int .i64 0, .slice none 0 0, .int .i64 0, .int .i64 0, .int .i64 0, .slice none 0 0] 26) := ⟨_, rfl⟩
  obtain ⟨r, hr⟩ : ∃ x, x = w.heap.size + 1 := ⟨_, rfl⟩
  have hs1 : w1.heap.size = w.heap.size + 1 := by rw [hw1]; simp
  have HO1 : Hid (Only (fun _ => False) w w1) := Lib.hid (by rw [hw1]; exact (Only.refl _ _).alloc _)
  have HO2 : Hid (Only (fun _ => False) w1 w2) := Lib.hid (by rw [hw2]; exact (Only.refl _ _).alloc _)
  have hs2 : w2.heap.size = w.heap.size + 2 := by rw [hw2]; simp [hs1]
  have hpb : BoxV w2 p (tirw.plV D F T G1 M1 B1 G2 M2 B2 a1 a2 n1 n2 c1 c2) := BoxV.only (by rw [hw1]; exact BoxV.new w (tirw.plV D F T G1 M1 B1 G2 M2 B2 a1 a2 n1 n2 c1 c2) _ _ hp) HO2.out (fun f => f)
  have HPB : Hid (∀ w', Only (fun _ => False) w2 w' → BoxV w' p (tirw.plV D F T G1 M1 B1 G2 M2 B2 a1 a2 n1 n2 c1 c2)) := Lib.hid (fun w' ho => hpb.only ho (fun f => f))
  have HBR : Hid (BoxV w2 r zerosP) := Lib.hid (by rw [hw2]; exact BoxV.new w1 zerosP _ _ (by rw [hr, hs1]))
  have HSL : Hid (∀ w', Only (fun _ => False) w2 w' → w'.cell? ⟨p, 0, none⟩ = some (.int .i64 D) ∧ w'.cell? ⟨p, 1, none⟩ = some (.int .i64 F) ∧ w'.cell? ⟨p, 2, none⟩ = some (.int .i64 T) ∧ w'.cell? ⟨p, 3, none⟩ = some (.int .i64 G1) ∧ w'.cell? ⟨p, 4, none⟩ = some (.int .i64 M1) ∧ w'.cell? ⟨p, 5, none⟩ = some (.int .i64 B1) ∧ w'.cell? ⟨p, 6, none⟩ = some (.slice a1 n1 c1) ∧ w'.cell? ⟨p, 7, none⟩ = some (.int .i64 G2) ∧ w'.cell? ⟨p, 8, none⟩ = some (.int .i64 M2) ∧ w'.cell? ⟨p, 9, none⟩ = some (.int .i64 B2) ∧ w'.cell? ⟨p, 10, none⟩ = some (.slice a2 n2 c2)) := Lib.hid (fun w' ho => (HPB.out w' ho).all.1)
  have HPR : Hid (p = w.heap.size ∧ r = w.heap.size + 1 ∧ w1.heap.size = w.heap.size + 1 ∧ w2.heap.size = w.heap.size + 2) := Lib.hid ⟨hp, hr, hs1, hs2⟩
  have HT1 : Hid (∀ w', Only (fun _ => False) w2 w' → _) := Lib.hid (fun w' (ho : Only (fun _ => False) w2 w') => tame9_any G1 M1 B1 a1 n1 c1 (min n1 9) t1 w' ⟨h1.1.only ((HO1.out.trans HO2.out).trans ho) (fun _ _ f => f), h1.2⟩ rfl)
  have HT2 : Hid (∀ w', Only (fun _ => False) w2 w' → _) := Lib.hid (fun w' (ho : Only (fun _ => False) w2 w') => tame9_any G2 M2 B2 a2 n2 c2 (min n2 9) t2 w' ⟨h2.1.only ((HO1.out.trans HO2.out).trans ho) (fun _ _ f => f), h2.2⟩ rfl)
  generalize t1.take (min n1 9) = u1 at *
  generalize t2.take (min n2 9) = u2 at *
  unfold TamedAt at HT1 HT2
  rw [hw1] at hw2
  have HW2 := Lib.hid hw2
  have HHR := Lib.hid hr
  unfold plV
  clear h1 h2 hs1 hs2 hpb hw2 hw1 hr
  go_enter Try.func5, Try.ntmps5
  go_upto_region 1 with fail
  rw [← HW2.out, ← HHR.out, ← hp]
  clear hp
  refine wp_region_noPanic ?_
  refine late.region (fun w' => w'.cell? ⟨p, 0, none⟩ = some (.int .i64 D) ∧ w'.cell? ⟨p, 1, none⟩ = some (.int .i64 F) ∧ w'.cell? ⟨p, 2, none⟩ = some (.int .i64 T) ∧ w'.cell? ⟨p, 3, none⟩ = some (.int .i64 G1) ∧ w'.cell? ⟨p, 4, none⟩ = some (.int .i64 M1) ∧ w'.cell? ⟨p, 5, none⟩ = some (.int .i64 B1) ∧ w'.cell? ⟨p, 6, none⟩ = some (.slice a1 n1 c1) ∧ w'.cell? ⟨p, 7, none⟩ = some (.int .i64 G2) ∧ w'.cell? ⟨p, 8, none⟩ = some (.int .i64 M2) ∧ w'.cell? ⟨p, 9, none⟩ = some (.int .i64 B2) ∧ w'.cell? ⟨p, 10, none⟩ = some (.slice a2 n2 c2)) (fun j => [7, 8, 9].contains j) (by kernel_rfl) (HSL.out _ (Only.refl _ _).drew) (fun hHeld => ?_)
  obtain ⟨z0, hz0⟩ : ∃ x, x = w2.drew := ⟨_, rfl⟩
  rw [← hz0] at hHeld ⊢
  have hot : Hid (Only (fun _ => False) w2 z0) := Lib.hid (by rw [hz0]; exact (Only.refl _ _).drew)
  clear hz0
  refine late.take (i := 0) [1, 2, 5, 6, 7, 8, 9] (v := ?_) rfl (by kernel_rfl) (by kernel_rfl) (by kernel_rfl) (by kernel_rfl) (fun _ _ _ h => h) (Or.inl ⟨by rfl, ?_⟩) (by assumption) ?_
  rotate_left 1
  · intro w' hSw
    try dsimp only at hSw
    go_simp
    try with_reducible rfl
  try simp only [List.getElem_toArray, List.getElem_cons_zero, Act.put, List.setIfInBounds_toArray, List.set_cons_zero, List.set_cons_succ]
  refine late.take (i := 1) [2, 5, 6, 7, 8, 9] (v := ?_) rfl (by kernel_rfl) (by kernel_rfl) (by kernel_rfl) (by kernel_rfl) (fun _ _ _ h => h) (Or.inl ⟨by rfl, ?_⟩) (by assumption) ?_
  rotate_left 1
  · intro w' hSw
    try dsimp only at hSw
    go_simp
    try with_reducible rfl
  try simp only [List.getElem_toArray, List.getElem_cons_zero, List.getElem_cons_succ, Act.put, List.setIfInBounds_toArray, List.set_cons_zero, List.set_cons_succ]
  refine late.take (i := 3) [4, 5, 6, 7, 8, 9] (v := ?_) rfl (by kernel_rfl) (by kernel_rfl) (by kernel_rfl) (by kernel_rfl) (fun _ _ _ h => h) (Or.inl ⟨by rfl, ?_⟩) (by assumption) ?_
  rotate_left 1
  · intro w' hSw
    try dsimp only at hSw
    go_simp
    try with_reducible rfl
  try simp only [List.getElem_toArray, List.getElem_cons_zero, List.getElem_cons_succ, Act.put, List.setIfInBounds_toArray, List.set_cons_zero, List.set_cons_succ]
  refine late.take (i := 4) [5, 6, 7, 8, 9] (v := ?_) rfl (by kernel_rfl) (by kernel_rfl) (by kernel_rfl) (by kernel_rfl) (fun _ _ _ h => h) (Or.inl ⟨by rfl, ?_⟩) (by assumption) ?_
  rotate_left 1
  · intro w' hSw
    try dsimp only at hSw
    go_simp
    try with_reducible rfl
  try simp only [List.getElem_toArray, List.getElem_cons_zero, List.getElem_cons_succ, Act.put, List.setIfInBounds_toArray, List.set_cons_zero, List.set_cons_succ]
  refine late.ready (rs := [2]) (by kernel_rfl) (by simp) ?_
  refine late.Each.cons rfl (fun K hK => ?_) late.Each.nil
  try simp only [List.getElem_toArray, List.getElem_cons_zero, List.getElem_cons_succ]
  go_simp
  go_at_call 15
  with_reducible refine (HT1.out _ hot.out).mono ?_
  rintro _ W1 ⟨g1, q1, rfl, hrd, hle, hgb, ho⟩
  have HR1 : Hid (ReadsT W1 (some ⟨g1, 0, none⟩) u1.length u1 ∧ w2.heap.size ≤ g1) := Lib.hid ⟨hrd, by have := hot.out.size; have := HPR.out; omega⟩
  skip
  replace hot := Lib.hid (hot.out.trans ho)
  clear ho hrd hle hgb
  try dsimp only
  refine hK.out _ _ (fun _ => HSL.out _ hot.out) (fun hHeld1 => ?_)
  replace hHeld1 := hHeld1 rfl
  clear hK K
  try simp only [List.getElem_toArray, List.getElem_cons_zero, List.getElem_cons_succ, Act.put, List.setIfInBounds_toArray, List.set_cons_zero, List.set_cons_succ]
  refine late.take (i := 6) [7, 8, 9] (v := ?_) rfl (by kernel_rfl) (by kernel_rfl) (by kernel_rfl) (by kernel_rfl) (fun _ _ _ h => h) (Or.inl ⟨by rfl, ?_⟩) (by assumption) ?_
  rotate_left 1
  · intro w' hSw
    try dsimp only at hSw
    go_simp
    try with_reducible rfl
  try simp only [List.getElem_toArray, List.getElem_cons_zero, List.getElem_cons_succ, Act.put, List.setIfInBounds_toArray, List.set_cons_zero, List.set_cons_succ]
  refine late.ready (rs := [5]) (by kernel_rfl) (by simp) ?_
  refine late.Each.cons rfl (fun K hK => ?_) late.Each.nil
  try simp only [List.getElem_toArray, List.getElem_cons_zero, List.getElem_cons_succ]
  go_simp
  go_at_call 15
  with_reducible refine (HT2.out _ hot.out).mono ?_
  rintro _ W2 ⟨g2, q2, rfl, hrd, hle, hgb, ho⟩
  have HR2 : Hid (ReadsT W2 (some ⟨g2, 0, none⟩) u2.length u2 ∧ w2.heap.size ≤ g2) := Lib.hid ⟨hrd, by have := hot.out.size; have := HPR.out; omega⟩
  have HR1 : Hid (ReadsT W2 (some ⟨g1, 0, none⟩) u1.length u1 ∧ w2.heap.size ≤ g1) := Lib.hid ⟨HR1.out.1.only ho (fun _ _ f => f), HR1.out.2⟩
  replace hot := Lib.hid (hot.out.trans ho)
  clear ho hrd hle hgb
  try dsimp only
  refine hK.out _ _ (fun _ => HSL.out _ hot.out) (fun hHeld2 => ?_)
  replace hHeld2 := hHeld2 rfl
  clear hK K
  try simp only [List.getElem_toArray, List.getElem_cons_zero, List.getElem_cons_succ, Act.put, List.setIfInBounds_toArray, List.set_cons_zero, List.set_cons_succ]
  refine late.ready (rs := [7]) (by kernel_rfl) (by simp) ?_
  refine late.Each.cons rfl (fun K hK => ?_) late.Each.nil
  clear hHeld
  try simp only [List.getElem_toArray, List.getElem_cons_zero, List.getElem_cons_succ]
  obtain ⟨⟨p0, p1, p2, p3, p4, p5, p6, p7, p8, p9, p10⟩, f0, f1, f2, f3, f4, f5, f6, f7, f8, f9, f10⟩ := (HPB.out _ hot.out).all
  go_simp
  refine hK.out _ _ (fun h => by cases h) (fun _ => ?_)
  clear hK K
  obtain ⟨wa, hwa⟩ : ∃ x, x = (((W2.setCell ⟨p, 3, none⟩ (.int .i64 G1)).setCell ⟨p, 4, none⟩ (.int .i64 M1)).setCell ⟨p, 5, none⟩ (.int .i64 B1)).setCell ⟨p, 6, none⟩ (.slice (some ⟨g1, 0, none⟩) u1.length q1) := ⟨_, rfl⟩
  rw [← hwa]
  have HPA : Hid (BoxV wa p (tirw.plV D F T G1 M1 B1 G2 M2 B2 (some ⟨g1, 0, none⟩) a2 u1.length n2 q1 c2)) := Lib.hid (by rw [hwa]; exact ((((HPB.out _ hot.out).set 3 _ (by show 3 < 11; omega)).set 4 _ (by show 4 < 11; omega)).set 5 _ (by show 5 < 11; omega)).set 6 _ (by show 6 < 11; omega))
  have HOA : Hid (Only (fun x => x = p) W2 wa) := Lib.hid (by rw [hwa]; exact (((Only.set (fun q => q = p) _ p 3 _ rfl).trans (Only.set (fun q => q = p) _ p 4 _ rfl)).trans (Only.set (fun q => q = p) _ p 5 _ rfl)).trans (Only.set (fun q => q = p) _ p 6 _ rfl))
  clear hwa p0 p1 p2 p3 p4 p5 p6 p7 p8 p9 p10 f0 f1 f2 f3 f4 f5 f6 f7 f8 f9 f10
  try simp only [List.getElem_toArray, List.getElem_cons_zero, List.getElem_cons_succ, Act.put, List.setIfInBounds_toArray, List.set_cons_zero, List.set_cons_succ]
  refine late.ready (rs := [8]) (by kernel_rfl) (by simp) ?_
  refine late.Each.cons rfl (fun K hK => ?_) late.Each.nil
  try simp only [List.getElem_toArray, List.getElem_cons_zero, List.getElem_cons_succ]
  go_simp
  refine hK.out _ _ (fun h => by cases h) (fun _ => ?_)
  clear hK K
  try simp only [List.getElem_toArray, List.getElem_cons_zero, List.getElem_cons_succ, Act.put, List.setIfInBounds_toArray, List.set_cons_zero, List.set_cons_succ]
  refine late.ready (rs := [9]) (by kernel_rfl) (by simp) ?_
  refine late.Each.cons rfl (fun K hK => ?_) late.Each.nil
  try simp only [List.getElem_toArray, List.getElem_cons_zero, List.getElem_cons_succ]
  obtain ⟨⟨p0, p1, p2, p3, p4, p5, p6, p7, p8, p9, p10⟩, f0, f1, f2, f3, f4, f5, f6, f7, f8, f9, f10⟩ := HPA.out.all
  go_simp
  refine hK.out _ _ (fun h => by cases h) (fun _ => ?_)
  clear hK K
  obtain ⟨wb, hwb⟩ : ∃ x, x = (((wa.setCell ⟨p, 7, none⟩ (.int .i64 G2)).setCell ⟨p, 8, none⟩ (.int .i64 M2)).setCell ⟨p, 9, none⟩ (.int .i64 B2)).setCell ⟨p, 10, none⟩ (.slice (some ⟨g2, 0, none⟩) u2.length q2) := ⟨_, rfl⟩
  rw [← hwb]
  have HPC : Hid (BoxV wb p (tirw.plV D F T G1 M1 B1 G2 M2 B2 (some ⟨g1, 0, none⟩) (some ⟨g2, 0, none⟩) u1.length u2.length q1 q2)) := Lib.hid (by rw [hwb]; exact (((HPA.out.set 7 _ (by show 7 < 11; omega)).set 8 _ (by show 8 < 11; omega)).set 9 _ (by show 9 < 11; omega)).set 10 _ (by show 10 < 11; omega))
  have HOB : Hid (Only (fun x => x = p) W2 wb) := Lib.hid (by rw [hwb]; exact HOA.out.trans ((((Only.set (fun q => q = p) _ p 7 _ rfl).trans (Only.set (fun q => q = p) _ p 8 _ rfl)).trans (Only.set (fun q => q = p) _ p 9 _ rfl)).trans (Only.set (fun q => q = p) _ p 10 _ rfl)))
  clear hwb p0 p1 p2 p3 p4 p5 p6 p7 p8 p9 p10 f0 f1 f2 f3 f4 f5 f6 f7 f8 f9 f10
  try simp only [List.getElem_toArray, List.getElem_cons_zero, List.getElem_cons_succ, Act.put, List.setIfInBounds_toArray, List.set_cons_zero, List.set_cons_succ]
  refine late.done (by kernel_rfl) ?_ _
  refine NoPanic.normal ?_
  have HRZ : Hid (BoxV wb r zerosP) := Lib.hid ((HBR.out.only hot.out (fun f => f)).only HOB.out (fun e => by have e' : r = p := e; have := HPR.out; omega))
  have HR1' : Hid (ReadsT wb (some ⟨g1, 0, none⟩) u1.length u1) := Lib.hid (HR1.out.1.only HOB.out (fun y hy e => by injection hy with hy; subst hy; have e' : g1 = p := e; have := HR1.out.2; have := HPR.out; omega))
  have HR2' : Hid (ReadsT wb (some ⟨g2, 0, none⟩) u2.length u2) := Lib.hid (HR2.out.1.only HOB.out (fun y hy e => by injection hy with hy; subst hy; have e' : g2 = p := e; have := HR2.out.2; have := HPR.out; omega))
  have HO9 : Hid (Only (fun _ => False) w wb) := Lib.hid (((HO1.out.trans HO2.out).trans hot.out).then HOB.out (fun q hq e => by have e' : q = p := e; have := HPR.out; omega))
  have HG : Hid (w2.heap.size ≤ g1 ∧ w2.heap.size ≤ g2) := Lib.hid ⟨HR1.out.2, HR2.out.2⟩
  clear hot HOA HOB HPA HSL HBR HR1 HR2 HO1 HO2
  obtain ⟨wc, HBW, HOW, hwc⟩ := plan_put HRZ.out rfl D F T G1 M1 B1 G2 M2 B2 (some ⟨g1, 0, none⟩) (some ⟨g2, 0, none⟩) u1.length u2.length q1 q2
  obtain ⟨⟨p0, p1, p2, p3, p4, p5, p6, p7, p8, p9, p10⟩, f0, f1, f2, f3, f4, f5, f6, f7, f8, f9, f10⟩ := HPC.out.all
  have z0 := (HRZ.out 0 _ rfl); have z1 := (HRZ.out 1 _ rfl); have z2 := (HRZ.out 2 _ rfl); have z3 := (HRZ.out 3 _ rfl); have z4 := (HRZ.out 4 _ rfl); have z5 := (HRZ.out 5 _ rfl)
  have z6 := (HRZ.out 6 _ rfl); have z7 := (HRZ.out 7 _ rfl); have z8 := (HRZ.out 8 _ rfl); have z9 := (HRZ.out 9 _ rfl); have z10 := (HRZ.out 10 _ rfl)
  obtain ⟨z0, y0⟩ := z0; obtain ⟨z1, y1⟩ := z1; obtain ⟨z2, y2⟩ := z2; obtain ⟨z3, y3⟩ := z3; obtain ⟨z4, y4⟩ := z4; obtain ⟨z5, y5⟩ := z5
  obtain ⟨z6, y6⟩ := z6; obtain ⟨z7, y7⟩ := z7; obtain ⟨z8, y8⟩ := z8; obtain ⟨z9, y9⟩ := z9; obtain ⟨z10, y10⟩ := z10
  have HBW := Lib.hid HBW
  have HOW := Lib.hid HOW
  have hwc := Lib.hid hwc
  go_wp2_with fail
  clear p0 p1 p2 p3 p4 p5 p6 p7 p8 p9 p10
  obtain ⟨⟨p0, p1, p2, p3, p4, p5, p6, p7, p8, p9, p10⟩, _⟩ := HBW.out.all
  rw [← hwc.out]
  refine bodyPost_ret (v := .agg #[.int .i64 D, .int .i64 F, .int .i64 T, .int .i64 G1, .int .i64 M1, .int .i64 B1, .slice (some ⟨g1, 0, none⟩) u1.length q1, .int .i64 G2, .int .i64 M2, .int .i64 B2, .slice (some ⟨g2, 0, none⟩) u2.length q2]) (by simp [results, Try.results5, go_sem, p0, p1, p2, p3, p4, p5, p6, p7, p8, p9, p10]) rfl ⟨g1, g2, q1, q2, rfl, ?_, ?_, by have := HG.out; have := HPR.out; omega, by have := HG.out; have := HPR.out; omega, ?_⟩
  · exact HR1'.out.only HOW.out (fun y hy e => by injection hy with hy; subst hy; have e' : g1 = r := e; have := HG.out; have := HPR.out; omega)
  · exact HR2'.out.only HOW.out (fun y hy e => by injection hy with hy; subst hy; have e' : g2 = r := e; have := HG.out; have := HPR.out; omega)
  · exact HO9.out.then HOW.out (fun q hq e => by have e' : q = r := e; have := HPR.out; omega)
end Go.Proofs.Ytfdaokjigjpomaa.tfw
namespace Go.Proofs.Ytfdaokjigjpomaa.tfw
open Go.RowKit mem codm codp codw tirm tirw
set_option linter.unusedVariables false

theorem plB_len {x : Pl} (h : PlIn x) : (plB x).length ≤ 500 := by
  obtain ⟨h1, h2, h3, h4, h5⟩ := h
  unfold plB
  have a1 := (enc_length x.d.toNat).1
  have a2 := (enc_length x.f.toNat).1
  have a3 := (enc_length x.t.toNat).1
  have a4 := tarB_len h4
  by_cases hz : x.d = 0
  · rw [if_pos hz]; simp only [List.length_append, List.length_nil]; omega
  · rw [if_neg hz] at h5 ⊢
    have a5 := tarB_len h5
    simp only [List.length_append]; omega
theorem back_of {x : Pl} (h0 : pchkP x = 0) : errP (plB x) = 0 ∧ ansP (plB x) = x := by
  have e := rdP_plB (pl_in h0)
  have he : errP (plB x) = 0 := by unfold errP; rw [e]; dsimp only; rw [if_pos rfl]; exact h0
  exact ⟨he, by unfold ansP; rw [if_pos he, e]⟩
set_option maxRecDepth 100000 in
set_option maxHeartbeats 8000000 in
theorem tback_any (D F T G1 M1 B1 G2 M2 B2 : Int) (a1 a2 : Option Addr) (n1 n2 c1 c2 : Nat) (t1 t2 : List Tr) (w : World) (h1 : TiersR w a1 n1 c1 t1) (h2 : TiersR w a2 n2 c2 t2) :
    Calls Try.prog 3 #[.agg #[.int .i64 D, .int .i64 F, .int .i64 T, .int .i64 G1, .int .i64 M1, .int .i64 B1, .slice a1 n1 c1, .int .i64 G2, .int .i64 M2, .int .i64 B2, .slice a2 n2 c2]] w fun e w' => e = .returned (.bool true) ∧ Only (fun _ => False) w w' := by
  obtain ⟨w1, hw1⟩ : ∃ x, x = w.alloc (.cells #[.int .i64 D, .int .i64 F, .int .i64 T, .int .i64 G1, .int .i64 M1, .int .i64 B1, .slice a1 n1 c1, .int .i64 G2, .int .i64 M2, .int .i64 B2, .slice a2 n2 c2] 26) := ⟨_, rfl⟩
  obtain ⟨p, hp⟩ : ∃ x, x = w.heap.size := ⟨_, rfl⟩
  have HO1 : Hid (Only (fun _ => False) w w1) := Lib.hid (by rw [hw1]; exact (Only.refl _ _).alloc _)
  have hs1 : w1.heap.size = w.heap.size + 1 := by rw [hw1]; simp
  have HPS : Hid (p = w.heap.size ∧ w1.heap.size = w.heap.size + 1) := Lib.hid ⟨hp, hs1⟩
  have HB1 : Hid (BoxV w1 p (tirw.plV D F T G1 M1 B1 G2 M2 B2 a1 a2 n1 n2 c1 c2)) := Lib.hid (by rw [hw1]; exact BoxV.new w (tirw.plV D F T G1 M1 B1 G2 M2 B2 a1 a2 n1 n2 c1 c2) _ _ hp)
  have hbo := both_any D F T G1 M1 B1 G2 M2 B2 a1 a2 n1 n2 c1 c2 t1 t2 w1 ⟨h1.1.only HO1.out (fun _ _ f => f), h1.2⟩ ⟨h2.1.only HO1.out (fun _ _ f => f), h2.2⟩
  have hu1 : (t1.take (min n1 9)).length ≤ 9 := by rw [List.length_take]; omega
  have hu2 : (t2.take (min n2 9)).length ≤ 9 := by rw [List.length_take]; omega
  generalize t1.take (min n1 9) = u1 at *
  generalize t2.take (min n2 9) = u2 at *
  unfold BothAt plV at hbo
  have HBO := Lib.hid hbo
  clear hbo hs1 h1 h2
  go_enter Try.func3, Try.ntmps3
  go_upto_region 1 with fail
  simp only [← hw1, ← hp]
  clear hw1 hp
  obtain ⟨⟨p0, p1, p2, p3, p4, p5', p6, p7, p8, p9, p10⟩, -⟩ := HB1.out.all
  go_wp2_with fail
  refine HBO.out.mono ?_
  rintro _ w2 ⟨g1, g2, q1, q2, rfl, hr1, hr2, hg1, hg2, ho⟩
  clear p0 p1 p2 p3 p4 p5' p6 p7 p8 p9 p10 HBO
  have HB2 : Hid (BoxV w2 p (tirw.plV D F T G1 M1 B1 G2 M2 B2 a1 a2 n1 n2 c1 c2)) := Lib.hid (HB1.out.only ho (fun f => f))
  obtain ⟨w3, hb3, ho3, hw3⟩ := plan_put HB2.out rfl D F T G1 M1 B1 G2 M2 B2 (some ⟨g1, 0, none⟩) (some ⟨g2, 0, none⟩) u1.length u2.length q1 q2
  have HW3 := Lib.hid hw3
  have HB3 := Lib.hid hb3
  have HRT : Hid (∀ w', Only (fun _ => False) w3 w' → ReadsT w' (some ⟨g1, 0, none⟩) u1.length u1 ∧ ReadsT w' (some ⟨g2, 0, none⟩) u2.length u2) := Lib.hid (fun w' h => ⟨(hr1.only ho3 (fun y hy e => by injection hy with hy; subst hy; have e' : g1 = p := e; have := HPS.out; omega)).only h (fun _ _ f => f), (hr2.only ho3 (fun y hy e => by injection hy with hy; subst hy; have e' : g2 = p := e; have := HPS.out; omega)).only h (fun _ _ f => f)⟩)
  have HO3 : Hid (Only (fun _ => False) w w3) := Lib.hid ((HO1.out.trans ho).then ho3 (fun q hq e => by have e' : q = p := e; have := HPS.out; omega))
  obtain ⟨⟨p0, p1, p2, p3, p4, p5', p6, p7, p8, p9, p10⟩, f0, f1, f2, f3, f4, f5, f6, f7, f8, f9, f10⟩ := HB2.out.all
  clear hr1 hr2 hg1 hg2 ho hb3 ho3 hw3 HB1 HO1
  go_upto_region 2 with fail
  rw [← HW3.out]
  clear p0 p1 p2 p3 p4 p5' p6 p7 p8 p9 p10 f0 f1 f2 f3 f4 f5 f6 f7 f8 f9 f10 HB2 HW3 HPS
  obtain ⟨⟨p0, p1, p2, p3, p4, p5', p6, p7, p8, p9, p10⟩, -⟩ := HB3.out.all
  by_cases h0 : pchkP ⟨D, F, T, ⟨G1, M1, B1, u1⟩, ⟨G2, M2, B2, u2⟩⟩ = 0
  · have hwr := fun w' (h : Only (fun _ => False) w3 w') => pwrite_any D F T G1 M1 B1 G2 M2 B2 (some ⟨g1, 0, none⟩) (some ⟨g2, 0, none⟩) u1.length u2.length q1 q2 u1 u2 w' (HRT.out w' h).1 (HRT.out w' h).2 h0
    have HPB := Lib.hid (back_of h0)
    have HLB := Lib.hid (plB_len (pl_in h0))
    have HRW := Lib.hid (fun w' (h : Only (fun _ => False) w3 w') => rpwrite_any D F T G1 M1 B1 G2 M2 B2 (some ⟨g1, 0, none⟩) (some ⟨g2, 0, none⟩) u1.length u2.length q1 q2 u1 u2 w' (HRT.out w' h).1 (HRT.out w' h).2 h0)
    have hck := fun w' (h : Only (fun _ => False) w3 w') => rcplan_any D F T G1 M1 B1 G2 M2 B2 (some ⟨g1, 0, none⟩) (some ⟨g2, 0, none⟩) u1.length u2.length q1 q2 u1 u2 w' (HRT.out w' h).1 (HRT.out w' h).2
    rw [show pchk D F T G1 M1 B1 G2 M2 B2 u1 u2 = 0 from h0] at hck
    obtain ⟨b, hb⟩ : ∃ x, plB ⟨D, F, T, ⟨G1, M1, B1, u1⟩, ⟨G2, M2, B2, u2⟩⟩ = x := ⟨_, rfl⟩
    rw [hb] at hwr HPB HLB HRW
    unfold plV at hwr HRW
    have HCK := Lib.hid hck
    have HWP := Lib.hid hwr
    clear hb hwr hck h0
    have HTO := Lib.hid (fun w' => to9_any D F T G1 M1 B1 G2 M2 B2 (some ⟨g1, 0, none⟩) (some ⟨g2, 0, none⟩) u1.length u2.length q1 q2 w')
    unfold plV at HTO
    go_wp2_with fail
    refine (HTO.out _).mono ?_
    rintro _ w4 ⟨rfl, ho⟩
    have HO34 := Lib.hid ho
    clear ho
    go_wp2_with fail
    refine (HWP.out _ HO34.out).mono ?_
    rintro _ w5 ⟨ra, rc, rfl, hby, hyb, ho⟩
    have HO35 := Lib.hid (HO34.out.trans ho)
    have HBY : Hid (Bytes w5 ra b.length rc b) := Lib.hid hby
    have HBB : Hid (By b) := Lib.hid ⟨hby.1.2.2.1, by have := HLB.out; omega⟩
    have hrcm : rc ≤ 9223372036854775807 := by have := hby.2.2.1; unfold maxLen at this; omega
    have hnbc : b.length ≤ rc := hby.2.1
    clear ho hby hyb HO34 HWP HTO HLB p0 p1 p2 p3 p4 p5' p6 p7 p8 p9 p10
    obtain ⟨nb, hnb⟩ : ∃ x, b.length = x := ⟨_, rfl⟩
    rw [hnb] at HBY hnbc ⊢
    clear hnb
    obtain ⟨⟨p0, p1, p2, p3, p4, p5', p6, p7, p8, p9, p10⟩, -⟩ := (HB3.out.only HO35.out (fun f => f)).all
    go_wp2_with fail
    refine (HCK.out _ HO35.out).mono ?_
    rintro _ w6 ⟨rfl, ho⟩
    have HO36 := Lib.hid (HO35.out.trans ho)
    replace HBY := Lib.hid (HBY.out.only ho (fun _ _ f => f))
    clear ho HO35 HCK p0 p1 p2 p3 p4 p5' p6 p7 p8 p9 p10
    go_wp2_with fail
    refine (tariffs_any _).mono ?_
    rintro _ w7 ⟨rfl, ho⟩
    have HO37 := Lib.hid (HO36.out.trans ho)
    replace HBY := Lib.hid (HBY.out.only ho (fun _ _ f => f))
    clear ho HO36
    have HRD := Lib.hid (pread_any ra nb rc b w7 HBY.out HBB.out)
    unfold ReadP at HRD
    rw [HPB.out.1, HPB.out.2] at HRD
    unfold IsPl plV at HRD
    go_wp2_with fail
    refine HRD.out.mono ?_
    rintro _ w7b ⟨ho, v1, rfl, b1, b2, m1, m2, d1, d2, rfl, hr3, hr4⟩
    try dsimp only at hr3 hr4
    obtain rfl : m1 = u1.length := hr3.1.symm
    obtain rfl : m2 = u2.length := hr4.1.symm
    try dsimp only
    have HR3 := Lib.hid hr3
    have HR4 := Lib.hid hr4
    have HO3b := Lib.hid (HO37.out.trans ho)
    replace HBY := Lib.hid (HBY.out.only ho (fun _ _ f => f))
    clear ho hr3 hr4 HO37 HRD HPB
    go_upto_region 9 with fail
    obtain ⟨w8, hw8⟩ : ∃ x, x = w7b.alloc (.cells #[.int .i64 D, .int .i64 F, .int .i64 T, .int .i64 G1, .int .i64 M1, .int .i64 B1, .slice b1 u1.length d1, .int .i64 G2, .int .i64 M2, .int .i64 B2, .slice b2 u2.length d2] 32) := ⟨_, rfl⟩
    obtain ⟨p5, hp5⟩ : ∃ x, x = w7b.heap.size := ⟨_, rfl⟩
    have HK8 : Hid (PlanAt w8 p5 D F T G1 M1 B1 G2 M2 B2 b1 b2 u1.length u2.length d1 d2) := Lib.hid (by rw [hw8, hp5]; exact PlanAt.new _ _ _ _ _ _ _ _ _ _ _ _ _ _ _ _)
    have hob : Only (fun _ => False) w7b w8 := by rw [hw8]; exact (Only.refl _ _).alloc _
    have HO38 := Lib.hid (HO3b.out.trans hob)
    have HSL : Hid (∀ w', Only (fun _ => False) w8 w' → Reads w' ra nb b ∧ PlanAt w' p D F T G1 M1 B1 G2 M2 B2 (some ⟨g1, 0, none⟩) (some ⟨g2, 0, none⟩) u1.length u2.length q1 q2 ∧ PlanAt w' p5 D F T G1 M1 B1 G2 M2 B2 b1 b2 u1.length u2.length d1 d2) := Lib.hid (fun w' h => ⟨(HBY.out.only (hob.trans h) (fun _ _ f => f)).1, (HB3.out.only (HO38.out.trans h) (fun f => f)).all.1, HK8.out.only h (fun f => f)⟩)
    have hsp := fun w' (h : Only (fun _ => False) w8 w') => splan_yes D F T G1 M1 B1 G2 M2 B2 b1 b2 (some ⟨g1, 0, none⟩) (some ⟨g2, 0, none⟩) u1.length u2.length d1 d2 q1 q2 u1 u2 w' (HR3.out.only (hob.trans h) (fun _ _ f => f)) (HR4.out.only (hob.trans h) (fun _ _ f => f)) (HRT.out w' (HO38.out.trans h)).1 (HRT.out w' (HO38.out.trans h)).2 (by omega) (by omega)
    have hfr := fun w' (h : Only (fun _ => False) w8 w') => from_any D F T G1 M1 B1 G2 M2 B2 b1 b2 u1.length u2.length d1 d2 w'
    have HWR := Lib.hid (fun w' (h : Only (fun _ => False) w8 w') => HRW.out w' (HO38.out.trans h))
    unfold plV at hsp hfr
    have HSP := Lib.hid hsp
    have HFR := Lib.hid hfr
    have HO8 := Lib.hid (HO3.out.trans HO38.out)
    have hcv : ∀ w', Reads w' ra nb b → (convert 28 9 (.slice ra nb rc)).run Try.prog w' = .ok (.string (dskw.strN b)) w' := fun w' h => dskw.conv_reads h rc
    have hself : ((dskw.strN b).toList == (dskw.strN b).toList) = true := by simp
    simp only [← hw8, ← hp5]
    unfold PlanAt at HSL
    clear hw8 hp5 hob hsp hfr HK8 HR3 HR4 HO3b HO38 HBY HBB HRW HB3 HRT HO3 hu1 hu2
    refine wp_region_noPanic ?_
    refine late.region (fun w' => (Reads w' ra nb b) ∧ (w'.cell? ⟨p, 0, none⟩ = some (.int .i64 D) ∧ w'.cell? ⟨p, 1, none⟩ = some (.int .i64 F) ∧ w'.cell? ⟨p, 2, none⟩ = some (.int .i64 T) ∧ w'.cell? ⟨p, 3, none⟩ = some (.int .i64 G1) ∧ w'.cell? ⟨p, 4, none⟩ = some (.int .i64 M1) ∧ w'.cell? ⟨p, 5, none⟩ = some (.int .i64 B1) ∧ w'.cell? ⟨p, 6, none⟩ = some (.slice (some ⟨g1, 0, none⟩) u1.length q1) ∧ w'.cell? ⟨p, 7, none⟩ = some (.int .i64 G2) ∧ w'.cell? ⟨p, 8, none⟩ = some (.int .i64 M2) ∧ w'.cell? ⟨p, 9, none⟩ = some (.int .i64 B2) ∧ w'.cell? ⟨p, 10, none⟩ = some (.slice (some ⟨g2, 0, none⟩) u2.length q2)) ∧ (w'.cell? ⟨p5, 0, none⟩ = some (.int .i64 D) ∧ w'.cell? ⟨p5, 1, none⟩ = some (.int .i64 F) ∧ w'.cell? ⟨p5, 2, none⟩ = some (.int .i64 T) ∧ w'.cell? ⟨p5, 3, none⟩ = some (.int .i64 G1) ∧ w'.cell? ⟨p5, 4, none⟩ = some (.int .i64 M1) ∧ w'.cell? ⟨p5, 5, none⟩ = some (.int .i64 B1) ∧ w'.cell? ⟨p5, 6, none⟩ = some (.slice b1 u1.length d1) ∧ w'.cell? ⟨p5, 7, none⟩ = some (.int .i64 G2) ∧ w'.cell? ⟨p5, 8, none⟩ = some (.int .i64 M2) ∧ w'.cell? ⟨p5, 9, none⟩ = some (.int .i64 B2) ∧ w'.cell? ⟨p5, 10, none⟩ = some (.slice b2 u2.length d2))) (fun j => [].contains j) (by kernel_rfl) (HSL.out _ (Only.refl _ _).drew) (fun hHeld => ?_)
    obtain ⟨z0, hz0⟩ : ∃ x, x = w8.drew := ⟨_, rfl⟩
    rw [← hz0] at hHeld ⊢
    have hot : Hid (Only (fun _ => False) w8 z0) := Lib.hid (by rw [hz0]; exact (Only.refl _ _).drew)
    clear hz0
    refine late.take (i := 0) [1, 4, 5, 6, 7, 8, 9, 10, 11, 12, 13, 14, 15] (v := ?_) rfl (by kernel_rfl) (by kernel_rfl) (by kernel_rfl) (by kernel_rfl) (fun _ _ _ h => h) (Or.inl ⟨by rfl, ?_⟩) (by assumption) ?_
    rotate_left 1
    · intro w' hSw
      try dsimp only at hSw
      go_simp
      try with_reducible rfl
    try simp only [List.getElem_toArray, List.getElem_cons_zero, Act.put, List.setIfInBounds_toArray, List.set_cons_zero, List.set_cons_succ]
    refine late.take (i := 1) [4, 5, 6, 7, 8, 9, 10, 11, 12, 13, 14, 15] (v := ?_) rfl (by kernel_rfl) (by kernel_rfl) (by kernel_rfl) (by kernel_rfl) (fun _ _ _ h => h) (Or.inl ⟨by rfl, ?_⟩) (by assumption) ?_
    rotate_left 1
    · intro w' hSw
      try dsimp only at hSw
      go_simp
      try with_reducible rfl
    try simp only [List.getElem_toArray, List.getElem_cons_zero, List.getElem_cons_succ, Act.put, List.setIfInBounds_toArray, List.set_cons_zero, List.set_cons_succ]
    refine late.take (i := 2) [3, 4, 5, 6, 7, 8, 9, 10, 11, 12, 13, 14, 15] (v := ?_) rfl (by kernel_rfl) (by kernel_rfl) (by kernel_rfl) (by kernel_rfl) (fun _ _ _ h => h) (Or.inl ⟨by rfl, ?_⟩) (by assumption) ?_
    rotate_left 1
    · intro w' hSw
      try dsimp only at hSw
      go_simp
      try with_reducible rfl
    try simp only [List.getElem_toArray, List.getElem_cons_zero, List.getElem_cons_succ, Act.put, List.setIfInBounds_toArray, List.set_cons_zero, List.set_cons_succ]
    refine late.ready (rs := [3]) (by kernel_rfl) (by simp) ?_
    refine late.Each.cons rfl (fun K hK => ?_) late.Each.nil
    try simp only [List.getElem_toArray, List.getElem_cons_zero, List.getElem_cons_succ]
    go_simp
    go_at_call 11
    with_reducible refine (HWR.out _ hot.out).mono ?_
    rintro _ W1 ⟨rfl, ho⟩
    replace hot := Lib.hid (hot.out.trans ho)
    clear ho
    try dsimp only
    refine hK.out _ _ (fun _ => HSL.out _ hot.out) (fun hHeld1 => ?_)
    replace hHeld1 := hHeld1 rfl
    clear hK K
    try simp only [List.getElem_toArray, List.getElem_cons_zero, List.getElem_cons_succ, Act.put, List.setIfInBounds_toArray, List.set_cons_zero, List.set_cons_succ]
    refine late.take (i := 4) [5, 6, 7, 8, 9, 10, 11, 12, 13, 14, 15] (v := ?_) rfl (by kernel_rfl) (by kernel_rfl) (by kernel_rfl) (by kernel_rfl) (fun _ _ _ h => h) (Or.inl ⟨by rfl, ?_⟩) (by assumption) ?_
    rotate_left 1
    · intro w' hSw
      try dsimp only at hSw
      go_simp
      try with_reducible rfl
    try simp only [List.getElem_toArray, List.getElem_cons_zero, List.getElem_cons_succ, Act.put, List.setIfInBounds_toArray, List.set_cons_zero, List.set_cons_succ]
    refine late.take (i := 5) [6, 7, 8, 9, 10, 11, 12, 13, 14, 15] (v := ?_) rfl (by kernel_rfl) (by kernel_rfl) (by kernel_rfl) (by kernel_rfl) (fun _ _ _ h => h) (Or.inl ⟨by rfl, ?_⟩) (by assumption) ?_
    rotate_left 1
    · intro w' hSw
      try dsimp only at hSw
      go_simp
      try with_reducible rfl
    try simp only [List.getElem_toArray, List.getElem_cons_zero, List.getElem_cons_succ, Act.put, List.setIfInBounds_toArray, List.set_cons_zero, List.set_cons_succ]
    refine late.take (i := 6) [7, 8, 9, 10, 11, 12, 13, 14, 15] (v := ?_) rfl (by kernel_rfl) (by kernel_rfl) (by kernel_rfl) (by kernel_rfl) (fun _ _ _ h => h) (Or.inl ⟨by rfl, ?_⟩) (by assumption) ?_
    rotate_left 1
    · intro w' hSw
      try dsimp only at hSw
      go_simp
      try with_reducible rfl
    try simp only [List.getElem_toArray, List.getElem_cons_zero, List.getElem_cons_succ, Act.put, List.setIfInBounds_toArray, List.set_cons_zero, List.set_cons_succ]
    refine late.take (i := 7) [8, 9, 10, 11, 12, 13, 14, 15] (v := ?_) rfl (by kernel_rfl) (by kernel_rfl) (by kernel_rfl) (by kernel_rfl) (fun _ _ _ h => h) (Or.inl ⟨by rfl, ?_⟩) (by assumption) ?_
    rotate_left 1
    · intro w' hSw
      try dsimp only at hSw
      go_simp
      try with_reducible rfl
    try simp only [List.getElem_toArray, List.getElem_cons_zero, List.getElem_cons_succ, Act.put, List.setIfInBounds_toArray, List.set_cons_zero, List.set_cons_succ]
    refine late.take (i := 8) [9, 10, 11, 12, 13, 14, 15] (v := ?_) rfl (by kernel_rfl) (by kernel_rfl) (by kernel_rfl) (by kernel_rfl) (fun _ _ _ h => h) (Or.inl ⟨by rfl, ?_⟩) (by assumption) ?_
    rotate_left 1
    · intro w' hSw
      try dsimp only at hSw
      go_simp
      try with_reducible rfl
    try simp only [List.getElem_toArray, List.getElem_cons_zero, List.getElem_cons_succ, Act.put, List.setIfInBounds_toArray, List.set_cons_zero, List.set_cons_succ]
    refine late.take (i := 9) [10, 11, 12, 13, 14, 15] (v := ?_) rfl (by kernel_rfl) (by kernel_rfl) (by kernel_rfl) (by kernel_rfl) (fun _ _ _ h => h) (Or.inl ⟨by rfl, ?_⟩) (by assumption) ?_
    rotate_left 1
    · intro w' hSw
      try dsimp only at hSw
      go_simp
      try with_reducible rfl
    try simp only [List.getElem_toArray, List.getElem_cons_zero, List.getElem_cons_succ, Act.put, List.setIfInBounds_toArray, List.set_cons_zero, List.set_cons_succ]
    refine late.take (i := 10) [11, 13, 14, 15] (v := ?_) rfl (by kernel_rfl) (by kernel_rfl) (by kernel_rfl) (by kernel_rfl) (fun _ _ _ h => h) (Or.inl ⟨by rfl, ?_⟩) (by assumption) ?_
    rotate_left 1
    · intro w' hSw
      try dsimp only at hSw
      go_simp
      try with_reducible rfl
    try simp only [List.getElem_toArray, List.getElem_cons_zero, List.getElem_cons_succ, Act.put, List.setIfInBounds_toArray, List.set_cons_zero, List.set_cons_succ]
    refine late.take (i := 12) [13, 14, 15] (v := ?_) rfl (by kernel_rfl) (by kernel_rfl) (by kernel_rfl) (by kernel_rfl) (fun _ _ _ h => h) (Or.inl ⟨by rfl, ?_⟩) (by assumption) ?_
    rotate_left 1
    · intro w' hSw
      try dsimp only at hSw
      go_simp
      try with_reducible rfl
    try simp only [List.getElem_toArray, List.getElem_cons_zero, List.getElem_cons_succ, Act.put, List.setIfInBounds_toArray, List.set_cons_zero, List.set_cons_succ]
    refine late.ready (rs := [11]) (by kernel_rfl) (by simp) ?_
    refine late.Each.cons rfl (fun K hK => ?_) late.Each.nil
    try simp only [List.getElem_toArray, List.getElem_cons_zero, List.getElem_cons_succ]
    go_simp
    go_at_call 13
    with_reducible refine (HFR.out _ hot.out).mono ?_
    rintro _ W2 ⟨rfl, ho⟩
    replace hot := Lib.hid (hot.out.trans ho)
    clear ho
    try dsimp only
    refine hK.out _ _ (fun _ => HSL.out _ hot.out) (fun hHeld2 => ?_)
    replace hHeld2 := hHeld2 rfl
    clear hK K
    try simp only [List.getElem_toArray, List.getElem_cons_zero, List.getElem_cons_succ, Act.put, List.setIfInBounds_toArray, List.set_cons_zero, List.set_cons_succ]
    refine late.ready (rs := [13]) (by kernel_rfl) (by simp) ?_
    refine late.Each.cons rfl (fun K hK => ?_) late.Each.nil
    try simp only [List.getElem_toArray, List.getElem_cons_zero, List.getElem_cons_succ]
    go_simp
    go_at_call 12
    with_reducible refine (HSP.out _ hot.out).mono ?_
    rintro _ W3 ⟨rfl, ho⟩
    replace hot := Lib.hid (hot.out.trans ho)
    clear ho
    try dsimp only
    refine hK.out _ _ (fun _ => HSL.out _ hot.out) (fun hHeld3 => ?_)
    replace hHeld3 := hHeld3 rfl
    clear hK K
    try simp only [List.getElem_toArray, List.getElem_cons_zero, List.getElem_cons_succ, Act.put, List.setIfInBounds_toArray, List.set_cons_zero, List.set_cons_succ]
    refine late.take (i := 14) [15] (v := ?_) rfl (by kernel_rfl) (by kernel_rfl) (by kernel_rfl) (by kernel_rfl) (fun _ _ _ h => h) (Or.inl ⟨by rfl, ?_⟩) (by assumption) ?_
    rotate_left 1
    · intro w' hSw
      try dsimp only at hSw
      go_simp
      try with_reducible rfl
    try simp only [List.getElem_toArray, List.getElem_cons_zero, List.getElem_cons_succ, Act.put, List.setIfInBounds_toArray, List.set_cons_zero, List.set_cons_succ]
    refine late.take (i := 15) [] (v := ?_) rfl (by kernel_rfl) (by kernel_rfl) (by kernel_rfl) (by kernel_rfl) (fun _ _ _ h => h) (Or.inl ⟨by rfl, ?_⟩) (by assumption) ?_
    rotate_left 1
    · intro w' hSw
      try dsimp only at hSw
      go_simp
      try with_reducible rfl
    try simp only [List.getElem_toArray, List.getElem_cons_zero, List.getElem_cons_succ, Act.put, List.setIfInBounds_toArray, List.set_cons_zero, List.set_cons_succ]
    refine late.done (by kernel_rfl) ?_ _
    refine NoPanic.normal ?_
    have HO9 := Lib.hid (HO8.out.trans hot.out)
    clear hHeld hot HSL HWR HFR HSP hcv HO8
    go_wp2_with fail
    go_ret
    exact ⟨by simp, HO9.out⟩
  · obtain ⟨er, her⟩ : ∃ x, pchkP ⟨D, F, T, ⟨G1, M1, B1, u1⟩, ⟨G2, M2, B2, u2⟩⟩ = x := ⟨_, rfl⟩
    rw [her] at h0
    have HWP := Lib.hid (fun w' (h : Only (fun _ => False) w3 w') => pwrite_no D F T G1 M1 B1 G2 M2 B2 (some ⟨g1, 0, none⟩) (some ⟨g2, 0, none⟩) u1.length u2.length q1 q2 u1 u2 w' er (HRT.out w' h).1 (HRT.out w' h).2 her h0)
    have hck := fun w' (h : Only (fun _ => False) w3 w') => rcplan_any D F T G1 M1 B1 G2 M2 B2 (some ⟨g1, 0, none⟩) (some ⟨g2, 0, none⟩) u1.length u2.length q1 q2 u1 u2 w' (HRT.out w' h).1 (HRT.out w' h).2
    rw [show pchk D F T G1 M1 B1 G2 M2 B2 u1 u2 = er from her] at hck
    have hz : (er != 0) = true := by simp [h0]
    have hee : (er != er) = false := by simp
    unfold plV at HWP
    have HCK := Lib.hid hck
    have HTO := Lib.hid (fun w' => to9_any D F T G1 M1 B1 G2 M2 B2 (some ⟨g1, 0, none⟩) (some ⟨g2, 0, none⟩) u1.length u2.length q1 q2 w')
    unfold plV at HTO
    clear her h0 hck
    go_wp2_with fail
    refine (HTO.out _).mono ?_
    rintro _ w4 ⟨rfl, ho⟩
    have HO34 := Lib.hid ho
    clear ho
    go_wp2_with fail
    refine (HWP.out _ HO34.out).mono ?_
    rintro _ w5 ⟨rfl, ho⟩
    have HO35 := Lib.hid (HO34.out.trans ho)
    clear ho HO34 HWP HTO p0 p1 p2 p3 p4 p5' p6 p7 p8 p9 p10
    obtain ⟨⟨p0, p1, p2, p3, p4, p5', p6, p7, p8, p9, p10⟩, -⟩ := (HB3.out.only HO35.out (fun f => f)).all
    go_wp2_with fail
    refine (HCK.out _ HO35.out).mono ?_
    rintro _ w6 ⟨rfl, ho⟩
    have HO36 := Lib.hid (HO35.out.trans ho)
    clear ho HO35 HCK p0 p1 p2 p3 p4 p5' p6 p7 p8 p9 p10
    go_wp2_with fail
    refine (tariffs_any _).mono ?_
    rintro _ w7 ⟨rfl, ho⟩
    have HO37 := Lib.hid (HO3.out.trans (HO36.out.trans ho))
    clear ho HO36
    go_wp2_with fail
    go_ret
    exact ⟨by simp, HO37.out⟩
theorem tback_walk (D F T G1 M1 B1 G2 M2 B2 : Int) (a1 a2 : Option Addr) (n1 n2 c1 c2 : Nat) (t1 t2 : List Tr) (w : World) (h1 : TiersR w a1 n1 c1 t1) (h2 : TiersR w a2 n2 c2 t2) :
    Calls Try.prog 3 #[.agg #[.int .i64 D, .int .i64 F, .int .i64 T, .int .i64 G1, .int .i64 M1, .int .i64 B1, .slice a1 n1 c1, .int .i64 G2, .int .i64 M2, .int .i64 B2, .slice a2 n2 c2]] w fun e w' => e = .returned (.bool true) ∧ Below w.heap.size w w' :=
  (tback_any D F T G1 M1 B1 G2 M2 B2 a1 a2 n1 n2 c1 c2 t1 t2 w h1 h2).mono fun _ _ ⟨p, q⟩ => ⟨p, q.none⟩
end Go.Proofs.Ytfdaokjigjpomaa.tfw
namespace Go.Proofs.Ytfdaokjigjpomaa.tariffBack
open Go.ChangeShapes Go.WideShapes Go.ChangeAt Go.RowKit
set_option linter.unusedVariables false

theorem own : ownKnob Try.prog.godebug = none := by kernel_rfl
theorem laidOut : laidOutB Try.prog = true := by kernel_rfl

set_option maxRecDepth 100000 in
theorem lifted (os : Os) (started : os.Started) (H : Type) (enc : TypeId × Value → H) :
    ReturnsInHanded {} Try.checked os 3 .any (Rows.tariffBackSpec.pre6 enc Try.prog Try.f3 Rows.tariffBackRow.domain false) (Rows.tariffBackSpec.post enc Try.prog Try.f3 false true false false) := by
  refine returnsInHanded_of_change (C := Try.checked) own started (by kernel_rfl) Try.func3
    (ChangeSpec.witness6 (enc := enc) (C := Try.checked) false ⟨#[], #[.agg #[.int .i64 0, .int .i64 0, .int .i64 0, .int .i64 0, .int .i64 0, .int .i64 0, .slice none 0 0, .int .i64 0, .int .i64 0, .int .i64 0, .slice none 0 0]], []⟩ 8 (by kernel_rfl) (by kernel_rfl) (by kernel_rfl) (by kernel_rfl)) ?_
  intro W base args ds gs before hval0 hW hcnd _
  have hval : ∀ (j : Nat) t v, Try.f3.params[j]? = some t → args[j]? = some v → Value.okWide Try.prog W .any base t v := hval0
  have hW' := hW
  obtain ⟨p, q, hA0, hV, rfl, hfz, hnd⟩ := hW
  have hA : DataW.TrodAll enc Try.prog W 0 (fun _ => true) true Try.f3.params.toList args.toList ds p := hA0
  rw [Try.params3] at hA hval
  obtain ⟨v0, vs0, d0, ds0, p0, q0, hargs, rfl, rfl, h0, r0⟩ := trodAll_cons hA
  obtain ⟨rfl, rfl, rfl⟩ := trodAll_nil r0
  obtain rfl : args = #[v0] := by cases args; simp_all
  obtain ⟨rfl, rfl⟩ := trodVars_none hV
  obtain ⟨cs0, rfl, sz0⟩ := okWide_struct Try.underlying26 (hval 0 26 v0 rfl rfl)
  have k0 := h0
  have lt0 : ∀ x ∈ p0, x.block < W.heap.size := by obtain ⟨m, hm⟩ := k0; exact DataW.trod_lt m _ _ _ hm
  obtain ⟨D0, F0, T0, G0, M0, B0, ao0, len0, cap0, l0, GG0, MM0, BB0, bo0, lenb0, capb0, lb0, rfl, w0⟩ := Exists.elim h0 (fun _ hf => tirw.plan_open sz0 hf)
  clear hA0 hval0
  refine Calls.mono (tfw.tback_walk D0 F0 T0 G0 M0 B0 GG0 MM0 BB0 ao0 bo0 len0 lenb0 cap0 capb0 l0 lb0 W w0.1 w0.2) fun e W' ⟨he, bel⟩ => ?_
  subst he
  exact ⟨_, rfl, _, _, _, [], _, [], hW', trodAll_mk1 (shut_bool Try.underlying4 _), (trodAll_cons_mk (Below.trod laidOut (by kernel_rfl) (of_decide_eq_true (by kernel_rfl)) k0 bel lt0) trodAll_mk0), rfl, bel.frame _, fun h => by cases h⟩

theorem over : Rows.tariffBackRow.holds Try.pinned (OpenSpec.ofChange Rows.tariffBackSpec) :=
  OpenClaim.holds_of_wide 3 Try.f3 rfl rfl rfl rfl rfl rfl rfl ⟨rfl, rfl, rfl, rfl, rfl⟩ rfl rfl rfl rfl rfl (by kernel_rfl) Try.func3 (by kernel_rfl)
    (of_decide_eq_true (by kernel_rfl)) (by unfold Func.isWrapper; first | (rw [if_pos (by decide +kernel)]; kernel_rfl) | (rw [if_neg (by decide +kernel)]; exact ⟨rfl, rfl⟩))
    (fun os started H enc _ => lifted os started H enc)

/-- THE STATEMENT -/
theorem proved : Rows.TariffBackSaid := over
end Go.Proofs.Ytfdaokjigjpomaa.tariffBack
