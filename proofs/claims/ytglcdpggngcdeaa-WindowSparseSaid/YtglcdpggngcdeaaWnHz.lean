/- WindowSparse, for its frame. -/
import Derived.Test.YtglcdpggngcdeaaWnH
namespace Go.Proofs.Ytglcdpggngcdeaa.wnd
open Go.RowKit mem
theorem sparse_walk (most : Int) (a : Option Addr) (len cap : Nat) (ask : Int) (w : World) (h : ∃ l, IntsR w a len cap l) :
    Calls Try.prog 11 #[.int .i64 most, .slice a len cap, .int .i64 ask] w fun e w' => e = .returned (.bool true) ∧ Below w.heap.size w w' := by
  obtain ⟨G, hG⟩ := h
  exact (sparse_any most a len cap ask G w hG.1).mono fun _ _ ⟨p, q⟩ => ⟨p, q.none⟩
end Go.Proofs.Ytglcdpggngcdeaa.wnd
