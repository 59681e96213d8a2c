/- Several texts together: BigM, BigW, BigAdd, BigPlus. -/
import Derived.Test.YtkbaafgaaiekpaaGreatPeriodRestoresZ2
import Derived.Laws.BitsAllLaws
import Derived.RegionTactic
import Derived.ChangeAlike
import Derived.Outline
import Derived.ChangeKeysEq
namespace Go.Proofs.YtkbaafgaaiekpaaGreat.bigm
set_option linter.unusedVariables false
def limb (n i : Nat) : Nat := n / 4294967296 ^ i % 4294967296
def over (n m i : Nat) : Nat := (n % 4294967296 ^ i + m % 4294967296 ^ i) / 4294967296 ^ i
def val (A : Nat → Nat) : Nat → Nat
  | 0 => 0
  | k + 1 => val A k + A k * 4294967296 ^ k
def under (n m i : Nat) : Nat := if n % 4294967296 ^ i < m % 4294967296 ^ i then 1 else 0
end Go.Proofs.YtkbaafgaaiekpaaGreat.bigm
namespace Go.Proofs.YtkbaafgaaiekpaaGreat.bigw
open Go.RowKit mem bigm
set_option linter.unusedVariables false
def big (A : Nat → Nat) (s : Bool) : Value := .agg #[.int .u64 (A 0 : Int), .int .u64 (A 1 : Int), .int .u64 (A 2 : Int), .int .u64 (A 3 : Int), .int .u64 (A 4 : Int), .int .u64 (A 5 : Int), .int .u64 (A 6 : Int), .int .u64 (A 7 : Int), .int .u64 (A 8 : Int), .int .u64 (A 9 : Int), .bool s]
theorem off_ne {b i j : Nat} (h : i ≠ j) : (⟨b, i, none⟩ : Addr) ≠ ⟨b, j, none⟩ := fun e => h (by injection e)
def sb (x : Int) : Value := big (limb x.natAbs) (decide (x < 0))
end Go.Proofs.YtkbaafgaaiekpaaGreat.bigw
