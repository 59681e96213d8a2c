/- SnapSaves' arguments. -/
import Derived.Test.YtcbpgplmphgcgaaSnU
import Derived.Deep.Slices
import Derived.OpenShut
import Derived.ChangeOld
namespace Go.Proofs.Ytcbpgplmphgcgaa.snw
open Go.RowKit mem snm crcm dskw
open Go.ChangeShapes Go.WideShapes Go.ChangeAt
set_option linter.unusedVariables false
def In64 (n : Int) : Prop := -9223372036854775808 ≤ n ∧ n ≤ 9223372036854775807
section
variable {H : Type} {enc : TypeId × Value → H} {w : World} {base : Nat}
set_option maxRecDepth 100000 in
theorem arr3_open {fuel : Nat} {cs : Array Value} (hsz : cs.size = 3) {x : DataW H × List MemPlace} (h : DataW.trod enc Try.prog w base (fun _ => true) true fuel 22 (Value.agg cs).cells.toList = some x) :
    ∃ a b c, cs = #[.int .i64 a, .int .i64 b, .int .i64 c] ∧ (In64 a ∧ In64 b ∧ In64 c) := by
  obtain ⟨ys, m, _, _, hcl, hyl, hf⟩ := DataW.trod_array Try.underlying22 h
  obtain ⟨l⟩ := cs
  match l, ys, hsz, hyl, hf with
  | [c0, c1, c2], [y0, y1, y2], _, _, hf =>
    have f0 := hf 0 (by omega)
    have f1 := hf 1 (by omega)
    have f2 := hf 2 (by omega)
    have o3 : Try.prog.cellsOf 3 = 1 := by kernel_rfl
    simp [o3, Value.cells] at f0 f1 f2
    obtain ⟨k0, hk0, _, w0⟩ := DataW.trod_int Try.underlying3 f0
    obtain ⟨k1, hk1, _, w1⟩ := DataW.trod_int Try.underlying3 f1
    obtain ⟨k2, hk2, _, w2⟩ := DataW.trod_int Try.underlying3 f2
    simp at hk0 hk1 hk2
    subst hk0 hk1 hk2
    exact ⟨k0, k1, k2, rfl, mem.int_of_wf w0, mem.int_of_wf w1, mem.int_of_wf w2⟩
theorem bytes_open {fuel : Nat} {ao : Option Addr} {len cap : Nat} {x : DataW H × List MemPlace} (h : DataW.trod enc Try.prog w base (fun _ => true) true fuel 47 [.slice ao len cap] = some x) : ∃ l, Bytes w ao len cap l := by
  rcases open_ints Try.underlying47 Try.underlying5 (by kernel_rfl) h with ⟨hcs, _⟩ | ⟨x, l, c', zs, hcs, _, hl, hm, hz, _, hcell, hwz⟩
  · simp at hcs
    obtain ⟨rfl, rfl, rfl⟩ := hcs
    exact bytes_of_row (w := w) (a := none) (len := 0) (cap := 0) (zs := []) (.inl ⟨rfl, rfl, rfl, rfl⟩)
  · simp at hcs
    obtain ⟨rfl, rfl, rfl⟩ := hcs
    exact bytes_of_row (w := w) (a := some x) (len := len) (cap := cap) (zs := zs) (.inr ⟨x, rfl, hl, hm, by simpa using hz, hcell, hwz⟩)
end
theorem saves_walk (sec f s g : Int) (ao : Option Addr) (n c : Nat) (w : World) (hi : In64 f ∧ In64 s ∧ In64 g) (h : ∃ l, Bytes w ao n c l) :
    Calls Try.prog 8 #[.int .i64 sec, .agg #[.int .i64 f, .int .i64 s, .int .i64 g], .slice ao n c] w fun e w' => e = .returned (.bool true) ∧ Below w.heap.size w w' := by
  obtain ⟨l, h⟩ := h
  exact (saves_any sec f s g ao n c l w hi.1 hi.2.1 hi.2.2 h).mono fun _ _ ⟨p, q⟩ => ⟨p, q.none⟩
end Go.Proofs.Ytcbpgplmphgcgaa.snw
