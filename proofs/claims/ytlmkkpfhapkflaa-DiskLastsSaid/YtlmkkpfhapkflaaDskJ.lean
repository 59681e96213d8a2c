/- DiskLasts, as its frame asks for it. -/
import Derived.Test.YtlmkkpfhapkflaaDskH
import Derived.OpenShut
import Derived.ChangeOld
namespace Go.Proofs.Ytlmkkpfhapkflaa.dskw
open Go.RowKit mem
set_option linter.unusedVariables false

section
open Go.ChangeShapes Go.WideShapes Go.ChangeAt
variable {H : Type} {enc : TypeId × Value → H} {w : World} {base : Nat}
theorem bytes_open {fuel : Nat} {ao : Option Addr} {len cap : Nat} {x : DataW H × List MemPlace} (h : DataW.trod enc Try.prog w base (fun _ => true) true fuel 34 [.slice ao len cap] = some x) : ∃ l, Bytes w ao len cap l := by
  rcases open_ints Try.underlying34 Try.underlying5 (by kernel_rfl) h with ⟨hcs, _⟩ | ⟨x, l, c', zs, hcs, _, hl, hm, hz, _, hcell, hwz⟩
  · simp at hcs
    obtain ⟨rfl, rfl, rfl⟩ := hcs
    exact bytes_of_row (w := w) (a := none) (len := 0) (cap := 0) (zs := []) (.inl ⟨rfl, rfl, rfl, rfl⟩)
  · simp at hcs
    obtain ⟨rfl, rfl, rfl⟩ := hcs
    exact bytes_of_row (w := w) (a := some x) (len := len) (cap := cap) (zs := zs) (.inr ⟨x, rfl, hl, hm, by simpa using hz, hcell, hwz⟩)
end

theorem lasts_walk (a1 : Option Addr) (n1 c1 : Nat) (a2 : Option Addr) (n2 c2 : Nat) (a3 : Option Addr) (n3 c3 : Nat) (w : World) (hf : ∃ lf, Bytes w a1 n1 c1 lf) (hj : JobsW w a2 n2) (hk : ∃ kl, Bools w a3 n3 kl) :
    Calls Try.prog 4 #[.slice a1 n1 c1, .slice a2 n2 c2, .slice a3 n3 c3] w fun e w' => e = .returned (.bool true) ∧ Below w.heap.size w w' := by
  obtain ⟨lf, hf⟩ := hf
  obtain ⟨kl, hk⟩ := hk
  exact (lasts_any a1 n1 c1 lf a2 n2 c2 a3 n3 c3 kl w hf hj hk).mono fun _ _ ⟨h1, h2⟩ => ⟨h1, h2.none⟩
end Go.Proofs.Ytlmkkpfhapkflaa.dskw
