/- TreeFull, for its frame. -/
import Derived.Test.YtginfnceindojaaTrH
namespace Go.Proofs.Ytginfnceindojaa.tre
open Go.RowKit mem
theorem full_walk (a1 : Option Addr) (l1 c1 : Nat) (a2 : Option Addr) (l2 c2 : Nat) (w : World) (h1 : ∃ l, IntsR w a1 l1 c1 l) (h2 : ∃ l, IntsR w a2 l2 c2 l) :
    Calls Try.prog 3 #[.slice a1 l1 c1, .slice a2 l2 c2] w fun e w' => e = .returned (.bool true) ∧ Below w.heap.size w w' := by
  obtain ⟨x, hx⟩ := h1
  obtain ⟨y, hy⟩ := h2
  exact (full_any a1 l1 c1 a2 l2 c2 x y w hx.1 hy.1).mono fun _ _ ⟨p, q⟩ => ⟨p, q.none⟩
end Go.Proofs.Ytginfnceindojaa.tre
