/- A slice of ints that comes in, opened. -/
import Derived.Test.YtkbaafgaaiekpaaMemI
import Derived.OpenShut
import Derived.ChangeOld
namespace Go.Proofs.Ytkbaafgaaiekpaa.opu
open Go.RowKit mem
def intV : Option Value → Int
  | some (.int _ n) => n
  | _ => 0
open Go.ChangeShapes Go.WideShapes Go.ChangeAt
set_option linter.unusedVariables false
section
variable {H : Type} {enc : TypeId × Value → H} {w : World} {base : Nat}
set_option maxRecDepth 100000 in
theorem ints_open {fuel : Nat} {ao : Option Addr} {len cap : Nat} {x : DataW H × List MemPlace} (h : DataW.trod enc Try.prog w base (fun _ => true) true fuel 28 [.slice ao len cap] = some x) : ∃ l, IntsR w ao len cap l := by
  rcases Go.Deep.open_slice Try.underlying28 h with ⟨hcs, _⟩ | ⟨a, len2, cap2, m, n, D, Pq, hcs, hb, hl, hm, hmm, hx, hi⟩
  · simp at hcs
    obtain ⟨rfl, rfl, rfl⟩ := hcs
    exact ⟨[], ⟨rfl, by unfold maxLen; omega, (fun c hc => by cases hc), .inl rfl⟩, by omega, by unfold maxLen; omega, fun _ => rfl⟩
  · simp at hcs
    obtain ⟨rfl, rfl, rfl⟩ := hcs
    simp at hmm
    have hC : Try.prog.cellsOf 3 = 1 := by kernel_rfl
    rw [hC] at hi
    have key : ∀ i, i < len → ∃ y : Int, (-9223372036854775808 ≤ y ∧ y ≤ 9223372036854775807) ∧ w.cell? (a.add i) = some (.int .i64 y) := by
      intro i hil
      obtain ⟨cs', hc, ht'⟩ := hi i (by omega)
      obtain ⟨y, hy, _, wy⟩ := DataW.trod_int Try.underlying3 ht'
      obtain ⟨_, hcl, hat⟩ := World.cells?_some hc
      subst hy
      have := hat 0 (by simp)
      rw [Nat.mul_one, Addr.add_zero'] at this
      exact ⟨y, mem.int_of_wf wy, by simpa using this⟩
    by_cases h0 : len = 0
    · subst h0
      exact ⟨[], ⟨rfl, by unfold maxLen; omega, (fun c hc => by cases hc), .inl rfl⟩, hl, hm, fun e => by cases e⟩
    · obtain ⟨b, off, spot⟩ := a
      obtain ⟨y0, _, d0⟩ := key 0 (by omega)
      have hspot : spot = none := by simpa [Addr.add] using World.cell?_spot d0
      subst hspot
      refine ⟨(List.range len).map (fun i => intV (w.cell? ⟨b, off + i, none⟩)), ⟨by simp, by omega, fun c hc => ?_, .inr ⟨b, off, rfl, fun i hil => ?_⟩⟩, hl, hm, fun e => by cases e⟩
      · obtain ⟨i, hi', rfl⟩ := List.mem_map.1 hc
        obtain ⟨y, hin, d⟩ := key i (List.mem_range.1 hi')
        rw [add_none] at d
        rw [d]
        exact hin
      · obtain ⟨y, hin, d⟩ := key i hil
        rw [add_none] at d
        have e : ((List.range len).map (fun i => intV (w.cell? ⟨b, off + i, none⟩))).getD i 0 = y := by
          rw [List.getD_eq_getElem?_getD, List.getElem?_map, List.getElem?_range hil]
          show intV _ = y
          rw [d]; rfl
        rw [e]
        exact d
end
end Go.Proofs.Ytkbaafgaaiekpaa.opu
