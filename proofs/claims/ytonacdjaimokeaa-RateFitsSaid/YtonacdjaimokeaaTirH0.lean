/- A tariff's four cells. -/
import Derived.Test.YtonacdjaimokeaaTirG
namespace Go.Proofs.Ytonacdjaimokeaa.tirw
open Go.RowKit mem tirm intm
set_option linter.unusedVariables false

theorem u64_wrapT (n : Int) : IntKind.u64.wrap n = n % 18446744073709551616 := by rfl
/-- a tariff's four cells -/
def TarAt (w : World) (q : Nat) (G M B : Int) (v : Value) : Prop := w.cell? ⟨q, 0, none⟩ = some (.int .i64 G) ∧ w.cell? ⟨q, 1, none⟩ = some (.int .i64 M) ∧ w.cell? ⟨q, 2, none⟩ = some (.int .i64 B) ∧ w.cell? ⟨q, 3, none⟩ = some v
theorem TarAt.only {S : Nat → Prop} {w w' : World} {q : Nat} {G M B : Int} {v : Value} (h : TarAt w q G M B v) (ho : Only S w w') (hs : ¬ S q) : TarAt w' q G M B v :=
  ⟨ho.cell' h.1 hs, ho.cell' h.2.1 hs, ho.cell' h.2.2.1 hs, ho.cell' h.2.2.2 hs⟩

end Go.Proofs.Ytonacdjaimokeaa.tirw
