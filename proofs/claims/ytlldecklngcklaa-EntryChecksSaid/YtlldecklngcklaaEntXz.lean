/- EntryChecks's walk, of every entry. -/
import Derived.Test.YtlldecklngcklaaEntX
namespace Go.Proofs.Ytlldecklngcklaa.entw
open Go.RowKit mem entm
set_option linter.unusedVariables false

theorem checks_walk (kind : Int) (a : Option Addr) (len cap : Nat) (ls : List Lg) (w : World) (h : LegsR w a len cap ls) :
    Calls Try.prog 3 #[.agg #[.int .i64 kind, .slice a len cap]] w fun e w' => e = .returned (.bool true) ∧ Below w.heap.size w w' := by
  by_cases hq : chk kind (ls.take (min len 70)) = 0
  · exact (checks_yes kind a len cap ls w h hq).mono fun _ _ ⟨h1, h2⟩ => ⟨h1, h2.none⟩
  · exact (checks_no kind a len cap ls w h hq).mono fun _ _ ⟨h1, h2⟩ => ⟨h1, h2.none⟩
end Go.Proofs.Ytlldecklngcklaa.entw
