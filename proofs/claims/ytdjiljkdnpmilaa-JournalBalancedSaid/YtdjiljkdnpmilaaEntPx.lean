/- What comes in opened: an entry of the law's. -/
import Derived.Test.YtdjiljkdnpmilaaEntN
import Derived.Deep.Slices
import Derived.OpenShut
import Derived.ChangeOld
namespace Go.Proofs.Ytdjiljkdnpmilaa.entw
open Go.RowKit mem entm
open Go.ChangeShapes Go.WideShapes Go.ChangeAt
set_option linter.unusedVariables false

/-- the int of a value -/
def intV : Option Value → Int
  | some (.int _ n) => n
  | _ => 0

section
variable {H : Type} {enc : TypeId × Value → H} {w : World} {base : Nat}

set_option maxRecDepth 100000 in
theorem legs_open {fuel : Nat} {ao : Option Addr} {len cap : Nat} {x : DataW H × List MemPlace} (h : DataW.trod enc Try.prog w base (fun _ => true) true fuel 31 [.slice ao len cap] = some x) : ∃ ls, LegsR w ao len cap ls := by
  rcases Go.Deep.open_slice Try.underlying31 h with ⟨hcs, _⟩ | ⟨a, len2, cap2, m, n, D, Pl, hcs, hb, hl, hm, hmm, hx, hi⟩
  · simp at hcs
    obtain ⟨rfl, rfl, rfl⟩ := hcs
    exact ⟨[], ReadsL.nil _ _, by omega, by omega, fun _ => rfl⟩
  · simp at hcs
    obtain ⟨rfl, rfl, rfl⟩ := hcs
    unfold maxLen at hm
    simp at hmm
    have hC : Try.prog.cellsOf 68 = 4 := by kernel_rfl
    rw [hC] at hi
    have key : ∀ i, i < len → ∃ l : Lg, InL l ∧ w.cell? ((a.add (i * 4)).add 0) = some (.int .i64 l.k) ∧ w.cell? ((a.add (i * 4)).add 1) = some (.int .i64 l.n) ∧ w.cell? ((a.add (i * 4)).add 2) = some (.int .i64 l.g) ∧ w.cell? ((a.add (i * 4)).add 3) = some (.int .i64 l.a) := by
      intro i hil
      obtain ⟨cs', hc, ht'⟩ := hi i (by omega)
      obtain ⟨ys, n', _, _, hlen, hyl, hf⟩ := DataW.trod_struct Try.underlying68 ht'
      obtain ⟨_, hcl, hat⟩ := World.cells?_some hc
      match cs', ys, hcl, hyl, hat, hf with
      | [c0, c1, c2, c3], [y0, y1, y2, y3], _, _, hat, hf =>
        have f0 := hf 0 _ rfl
        have f1 := hf 1 _ rfl
        have f2 := hf 2 _ rfl
        have f3 := hf 3 _ rfl
        have o3 : Try.prog.cellsOf 3 = 1 := by kernel_rfl
        simp [o3] at f0 f1 f2 f3
        obtain ⟨k0, hk0, _, w0⟩ := DataW.trod_int Try.underlying3 f0
        obtain ⟨k1, hk1, _, w1⟩ := DataW.trod_int Try.underlying3 f1
        obtain ⟨k2, hk2, _, w2⟩ := DataW.trod_int Try.underlying3 f2
        obtain ⟨k3, hk3, _, w3⟩ := DataW.trod_int Try.underlying3 f3
        simp at hk0 hk1 hk2 hk3
        subst hk0 hk1 hk2 hk3
        exact ⟨⟨k0, k1, k2, k3⟩, ⟨int_of_wf w0, int_of_wf w1, int_of_wf w2, int_of_wf w3⟩, by simpa using hat 0 (by omega), by simpa using hat 1 (by omega), by simpa using hat 2 (by omega), by simpa using hat 3 (by omega)⟩
    by_cases h0 : len = 0
    · subst h0
      exact ⟨[], ReadsL.nil _ _, hl, hm, fun e => by cases e⟩
    · obtain ⟨b, off, spot⟩ := a
      obtain ⟨l0, _, d0, _⟩ := key 0 (by omega)
      have hspot : spot = none := by simpa [Addr.add] using World.cell?_spot d0
      subst hspot
      refine ⟨(List.range len).map (fun i => ⟨intV (w.cell? ⟨b, off + i * 4, none⟩), intV (w.cell? ⟨b, off + i * 4 + 1, none⟩), intV (w.cell? ⟨b, off + i * 4 + 2, none⟩), intV (w.cell? ⟨b, off + i * 4 + 3, none⟩)⟩), ⟨by simp, by omega, ?_, .inr ⟨b, off, rfl, fun i hil => ?_⟩⟩, hl, hm, fun e => by cases e⟩
      · intro l hl'
        obtain ⟨i, hi', rfl⟩ := List.mem_map.1 hl'
        obtain ⟨l1, hin, d0, d1, d2, d3⟩ := key i (List.mem_range.1 hi')
        rw [add_none, add_none] at d0 d1 d2 d3
        rw [Nat.add_zero] at d0
        rw [d0, d1, d2, d3]
        exact hin
      · obtain ⟨l1, hin, d0, d1, d2, d3⟩ := key i hil
        rw [add_none, add_none] at d0 d1 d2 d3
        rw [Nat.add_zero] at d0
        have e : ((List.range len).map (fun i => (⟨intV (w.cell? ⟨b, off + i * 4, none⟩), intV (w.cell? ⟨b, off + i * 4 + 1, none⟩), intV (w.cell? ⟨b, off + i * 4 + 2, none⟩), intV (w.cell? ⟨b, off + i * 4 + 3, none⟩)⟩ : Lg))).getD i default = l1 := by
          rw [List.getD_eq_getElem?_getD, List.getElem?_map, List.getElem?_range hil]
          show (⟨_, _, _, _⟩ : Lg) = l1
          rw [d0, d1, d2, d3]; rfl
        rw [e]
        exact ⟨d0, d1, d2, d3⟩

set_option maxRecDepth 100000 in
theorem entry_open {fuel : Nat} {cs : Array Value} (hsz : cs.size = 2) {x : DataW H × List MemPlace} (h : DataW.trod enc Try.prog w base (fun _ => true) true fuel 33 (Value.agg cs).cells.toList = some x) : ∃ kind ao len cap ls, cs = #[.int .i64 kind, .slice ao len cap] ∧ LegsR w ao len cap ls := by
  obtain ⟨ys, n', _, _, hlen, hyl, hf⟩ := DataW.trod_struct Try.underlying33 h
  obtain ⟨l⟩ := cs
  match l, ys, hsz, hyl, hf with
  | [c0, c1], [y0, y1], _, _, hf =>
    have f0 := hf 0 _ rfl
    have f1 := hf 1 _ rfl
    have o3 : Try.prog.cellsOf 3 = 1 := by kernel_rfl
    have o4 : Try.prog.cellsOf 31 = 1 := by kernel_rfl
    simp [o3, Value.cells] at f0
    simp [o4, Value.cells] at f1
    obtain ⟨k0, hk0, _, w0⟩ := DataW.trod_int Try.underlying3 f0
    simp at hk0
    subst hk0
    rcases Go.Deep.open_slice Try.underlying31 f1 with ⟨hcs, _⟩ | ⟨a, len2, cap2, m, n, D, Pl, hcs, _⟩
    · simp at hcs
      subst hcs
      obtain ⟨ls, hl⟩ := legs_open f1
      exact ⟨k0, none, 0, 0, ls, rfl, hl⟩
    · simp at hcs
      subst hcs
      obtain ⟨ls, hl⟩ := legs_open f1
      exact ⟨k0, some a, len2, cap2, ls, rfl, hl⟩
end
end Go.Proofs.Ytdjiljkdnpmilaa.entw
