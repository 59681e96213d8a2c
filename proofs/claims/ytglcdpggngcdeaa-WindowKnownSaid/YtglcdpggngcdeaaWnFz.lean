/- WindowKnown, for its frame. -/
import Derived.Test.YtglcdpggngcdeaaWnF
namespace Go.Proofs.Ytglcdpggngcdeaa.wnd
open Go.RowKit mem
theorem known_walk (most : Int) (a : Option Addr) (len cap : Nat) (at_ : Int) (w : World) (h : ∃ D, RowB w a len D) :
    Calls Try.prog 10 #[.int .i64 most, .slice a len cap, .int .i64 at_] w fun e w' => e = .returned (.bool true) ∧ Below w.heap.size w w' := by
  obtain ⟨D, hD⟩ := h
  exact (known_any most a len cap at_ D w hD).mono fun _ _ ⟨p, q⟩ => ⟨p, q.none⟩
end Go.Proofs.Ytglcdpggngcdeaa.wnd
