/- What comes in opened: a tariff, its tiers. -/
import Derived.Test.YtdfghdccbpnohaaTirG
import Derived.Deep.Slices
import Derived.OpenShut
import Derived.ChangeOld
namespace Go.Proofs.Ytdfghdccbpnohaa.tirw
open Go.RowKit mem tirm intm
open Go.ChangeShapes Go.WideShapes Go.ChangeAt
set_option linter.unusedVariables false

theorem int_of_wf {n : Int} (h : (Lit.int .i64 n).wf = true) : InI n := by
  have : -9223372036854775808 ≤ n ∧ n ≤ 9223372036854775807 := by simpa [Lit.wf, IntKind.min, IntKind.max, IntKind.signed, IntKind.bits] using h
  exact this
/-- the int of a value -/
def intV : Option Value → Int
  | some (.int _ n) => n
  | _ => 0

section
variable {H : Type} {enc : TypeId × Value → H} {w : World} {base : Nat}

set_option maxRecDepth 100000 in
theorem tiers_open {fuel : Nat} {ao : Option Addr} {len cap : Nat} {x : DataW H × List MemPlace} (h : DataW.trod enc Try.prog w base (fun _ => true) true fuel 41 [.slice ao len cap] = some x) : ∃ ts, TiersR w ao len cap ts := by
  rcases Go.Deep.open_slice Try.underlying41 h with ⟨hcs, _⟩ | ⟨a, len2, cap2, m, n, D, Pl, hcs, hb, hl, hm, hmm, hx, hi⟩
  · simp at hcs
    obtain ⟨rfl, rfl, rfl⟩ := hcs
    exact ⟨[], ReadsT.nil _ _, by omega, by omega, fun _ => rfl⟩
  · simp at hcs
    obtain ⟨rfl, rfl, rfl⟩ := hcs
    unfold maxLen at hm
    simp at hmm
    have hC : Try.prog.cellsOf 63 = 2 := by kernel_rfl
    rw [hC] at hi
    have key : ∀ i, i < len → ∃ l : Tr, (InI l.u ∧ InI l.p) ∧ w.cell? ((a.add (i * 2)).add 0) = some (.int .i64 l.u) ∧ w.cell? ((a.add (i * 2)).add 1) = some (.int .i64 l.p) := by
      intro i hil
      obtain ⟨cs', hc, ht'⟩ := hi i (by omega)
      obtain ⟨ys, n', _, _, hlen, hyl, hf⟩ := DataW.trod_struct Try.underlying63 ht'
      obtain ⟨_, hcl, hat⟩ := World.cells?_some hc
      match cs', ys, hcl, hyl, hat, hf with
      | [c0, c1], [y0, y1], _, _, hat, hf =>
        have f0 := hf 0 _ rfl
        have f1 := hf 1 _ rfl
        have o3 : Try.prog.cellsOf 3 = 1 := by kernel_rfl
        simp [o3] at f0 f1
        obtain ⟨k0, hk0, _, w0⟩ := DataW.trod_int Try.underlying3 f0
        obtain ⟨k1, hk1, _, w1⟩ := DataW.trod_int Try.underlying3 f1
        simp at hk0 hk1
        subst hk0 hk1
        exact ⟨⟨k0, k1⟩, ⟨int_of_wf w0, int_of_wf w1⟩, by simpa using hat 0 (by omega), by simpa using hat 1 (by omega)⟩
    by_cases h0 : len = 0
    · subst h0
      exact ⟨[], ReadsT.nil _ _, hl, hm, fun e => by cases e⟩
    · obtain ⟨b, off, spot⟩ := a
      obtain ⟨l0, _, d0, _⟩ := key 0 (by omega)
      have hspot : spot = none := by simpa [Addr.add] using World.cell?_spot d0
      subst hspot
      refine ⟨(List.range len).map (fun i => ⟨intV (w.cell? ⟨b, off + i * 2, none⟩), intV (w.cell? ⟨b, off + i * 2 + 1, none⟩)⟩), ⟨by simp, by omega, ?_, .inr ⟨b, off, rfl, fun i hil => ?_⟩⟩, hl, hm, fun e => by cases e⟩
      · intro l hl'
        obtain ⟨i, hi', rfl⟩ := List.mem_map.1 hl'
        obtain ⟨l1, hin, d0, d1⟩ := key i (List.mem_range.1 hi')
        rw [add_none, add_none] at d0 d1
        rw [Nat.add_zero] at d0
        rw [d0, d1]
        exact hin
      · obtain ⟨l1, hin, d0, d1⟩ := key i hil
        rw [add_none, add_none] at d0 d1
        rw [Nat.add_zero] at d0
        have e : ((List.range len).map (fun i => (⟨intV (w.cell? ⟨b, off + i * 2, none⟩), intV (w.cell? ⟨b, off + i * 2 + 1, none⟩)⟩ : Tr))).getD i default = l1 := by
          rw [List.getD_eq_getElem?_getD, List.getElem?_map, List.getElem?_range hil]
          show (⟨_, _⟩ : Tr) = l1
          rw [d0, d1]; rfl
        rw [e]
        exact ⟨d0, d1⟩

set_option maxRecDepth 100000 in
theorem tariff_open {fuel : Nat} {cs : Array Value} (hsz : cs.size = 4) {x : DataW H × List MemPlace} (h : DataW.trod enc Try.prog w base (fun _ => true) true fuel 43 (Value.agg cs).cells.toList = some x) : ∃ G M B ao len cap ts, cs = #[.int .i64 G, .int .i64 M, .int .i64 B, .slice ao len cap] ∧ TiersR w ao len cap ts := by
  obtain ⟨ys, n', _, _, hlen, hyl, hf⟩ := DataW.trod_struct Try.underlying43 h
  obtain ⟨l⟩ := cs
  match l, ys, hsz, hyl, hf with
  | [c0, c1, c2, c3], [y0, y1, y2, y3], _, _, hf =>
    have f0 := hf 0 _ rfl
    have f1 := hf 1 _ rfl
    have f2 := hf 2 _ rfl
    have f3 := hf 3 _ rfl
    have o3 : Try.prog.cellsOf 3 = 1 := by kernel_rfl
    have o4 : Try.prog.cellsOf 41 = 1 := by kernel_rfl
    simp [o3, Value.cells] at f0 f1 f2
    simp [o4, Value.cells] at f3
    obtain ⟨k0, hk0, _, w0⟩ := DataW.trod_int Try.underlying3 f0
    obtain ⟨k1, hk1, _, w1⟩ := DataW.trod_int Try.underlying3 f1
    obtain ⟨k2, hk2, _, w2⟩ := DataW.trod_int Try.underlying3 f2
    simp at hk0 hk1 hk2
    subst hk0 hk1 hk2
    rcases Go.Deep.open_slice Try.underlying41 f3 with ⟨hcs, _⟩ | ⟨a, len2, cap2, m, n, D, Pl, hcs, _⟩
    · simp at hcs
      subst hcs
      obtain ⟨ts, hl⟩ := tiers_open f3
      exact ⟨k0, k1, k2, none, 0, 0, ts, rfl, hl⟩
    · simp at hcs
      subst hcs
      obtain ⟨ts, hl⟩ := tiers_open f3
      exact ⟨k0, k1, k2, some a, len2, cap2, ts, rfl, hl⟩
end
end Go.Proofs.Ytdfghdccbpnohaa.tirw
