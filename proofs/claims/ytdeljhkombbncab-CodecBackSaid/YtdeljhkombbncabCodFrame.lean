/- A slice of parts that came in, opened to its cells. -/
import Derived.Test.YtdeljhkombbncabCodWrites0
import Derived.Deep.Slices
import Derived.OpenShut
import Derived.ChangeOld
namespace Go.Proofs.Ytdeljhkombbncab.codw
open Go.RowKit mem codm
open Go.ChangeShapes Go.WideShapes Go.ChangeAt
set_option linter.unusedVariables false

section
variable {H : Type} {enc : TypeId × Value → H} {w : World} {base : Nat}

/-- bytes in a field -/
theorem bytes_of_trod {fuel : Nat} {c : Value} {x : DataW H × List MemPlace} (h : DataW.trod enc Try.prog w base (fun _ => true) true fuel 22 [c] = some x) :
    ∃ a len cap l, c = .slice a len cap ∧ Bytes w a len cap l := by
  rcases open_ints Try.underlying22 Try.underlying5 (by kernel_rfl) h with ⟨hcs, _⟩ | ⟨x, l, c', zs, hcs, _, hl, hm, hz, _, hcell, hwz⟩
  · simp at hcs
    obtain ⟨l, hl⟩ := bytes_of_row (w := w) (a := none) (len := 0) (cap := 0) (zs := []) (.inl ⟨rfl, rfl, rfl, rfl⟩)
    exact ⟨none, 0, 0, l, hcs, hl⟩
  · simp at hcs
    obtain ⟨l', hl'⟩ := bytes_of_row (w := w) (a := some x) (len := l) (cap := c') (zs := zs) (.inr ⟨x, rfl, hl, hm, by simpa using hz, hcell, hwz⟩)
    exact ⟨some x, l, c', l', hcs, hl'⟩

theorem parts_open {fuel : Nat} {ao : Option Addr} {len cap : Nat} {x : DataW H × List MemPlace} (h : DataW.trod enc Try.prog w base (fun _ => true) true fuel 32 [.slice ao len cap] = some x) :
    len ≤ 9223372036854775807 ∧ (len = 0 ∨ ∃ b off, ao = some ⟨b, off, none⟩ ∧ ∀ i, i < len → ∃ k n y a' len' cap' l', PartAt w b (off + i * 4) k n y a' len' cap' l') := by
  rcases Go.Deep.open_slice Try.underlying32 h with ⟨hcs, _⟩ | ⟨a, len2, cap2, m, n, D, Pl, hcs, hb, hl, hm, hmm, hx, hi⟩
  · simp at hcs; exact ⟨by omega, .inl hcs.2.1⟩
  · simp at hcs
    obtain ⟨rfl, rfl, rfl⟩ := hcs
    unfold maxLen at hm
    refine ⟨by omega, ?_⟩
    simp at hmm
    have hC : Try.prog.cellsOf 42 = 4 := by kernel_rfl
    rw [hC] at hi
    have key : ∀ i, i < len → ∃ k n y a' len' cap' l', w.cell? ((a.add (i * 4)).add 0) = some (.int .i64 k) ∧ w.cell? ((a.add (i * 4)).add 1) = some (.int .i64 n) ∧ w.cell? ((a.add (i * 4)).add 2) = some (.bool y) ∧ w.cell? ((a.add (i * 4)).add 3) = some (.slice a' len' cap') ∧
        (-9223372036854775808 ≤ n ∧ n ≤ 9223372036854775807) ∧ Bytes w a' len' cap' l' := by
      intro i hil
      obtain ⟨cs', hc, ht'⟩ := hi i (by omega)
      obtain ⟨ys, n', _, _, hlen, hyl, hf⟩ := DataW.trod_struct Try.underlying42 ht'
      obtain ⟨_, hcl, hat⟩ := World.cells?_some hc
      match cs', ys, hcl, hyl, hat, hf with
      | [c0, c1, c2, c3], [y0, y1, y2, y3], _, _, hat, hf =>
        have f0 := hf 0 _ rfl
        have f1 := hf 1 _ rfl
        have f2 := hf 2 _ rfl
        have f3 := hf 3 _ rfl
        have o3 : Try.prog.cellsOf 3 = 1 := by kernel_rfl
        have o4 : Try.prog.cellsOf 4 = 1 := by kernel_rfl
        have o22 : Try.prog.cellsOf 22 = 1 := by kernel_rfl
        simp [o3] at f0 f1
        simp [o4] at f2
        simp [o22] at f3
        obtain ⟨k, hk, _⟩ := DataW.trod_int Try.underlying3 f0
        obtain ⟨n, hn, _, hw⟩ := DataW.trod_int Try.underlying3 f1
        obtain ⟨y, hy, _⟩ := DataW.trod_bool Try.underlying4 f2
        obtain ⟨a', len', cap', l', hs, hB⟩ := bytes_of_trod f3
        simp at hk hn hy
        subst hk hn hy hs
        exact ⟨k, n, y, a', len', cap', l', by simpa using hat 0 (by omega), by simpa using hat 1 (by omega), by simpa using hat 2 (by omega), by simpa using hat 3 (by omega), int_of_wf hw, hB⟩
    by_cases h0 : len = 0
    · exact .inl h0
    · obtain ⟨b, off, spot⟩ := a
      obtain ⟨k, n, y, a', len', cap', l', d0, _⟩ := key 0 (by omega)
      have hspot : spot = none := by simpa [Addr.add] using World.cell?_spot d0
      subst hspot
      refine .inr ⟨b, off, rfl, fun i hil => ?_⟩
      obtain ⟨k, n, y, a', len', cap', l', d0, d1, d2, d3, hn, hB⟩ := key i hil
      rw [add_none, add_none] at d0 d1 d2 d3
      exact ⟨k, n, y, a', len', cap', l', d0, d1, d2, d3, hn, hB⟩
end
end Go.Proofs.Ytdeljhkombbncab.codw
