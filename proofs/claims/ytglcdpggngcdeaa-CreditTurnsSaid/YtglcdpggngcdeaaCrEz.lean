/- CreditTurns, for its frame. -/
import Derived.Test.YtglcdpggngcdeaaCrE
namespace Go.Proofs.Ytglcdpggngcdeaa.crd
open Go.RowKit mem
theorem turns_walk (most : Int) (a : Option Addr) (len cap : Nat) (w : World) (h : ∃ l, IntsR w a len cap l) :
    Calls Try.prog 6 #[.int .i64 most, .slice a len cap] w fun e w' => e = .returned (.bool true) ∧ Below w.heap.size w w' := by
  obtain ⟨G, hG⟩ := h
  exact (turns_any most a len cap G w hG.1).mono fun _ _ ⟨p, q⟩ => ⟨p, q.none⟩
end Go.Proofs.Ytglcdpggngcdeaa.crd
