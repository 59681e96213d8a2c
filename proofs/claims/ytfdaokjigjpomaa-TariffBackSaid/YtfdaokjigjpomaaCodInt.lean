/- What codec's Reader.Int, count and Reader.Uint answer. -/
import Derived.Test.YtfdaokjigjpomaaCodRead
namespace Go.Proofs.Ytfdaokjigjpomaa.codw
open Go.RowKit mem codm
set_option linter.unusedVariables false

/-- the same row of bytes, or a later part of it: in the same block -/
def Later (a a' : Option Addr) : Prop := ∀ x, a' = some x → ∃ y, a = some y ∧ y.block = x.block

theorem Later.refl (a : Option Addr) : Later a a := fun x h => ⟨x, h, rfl⟩

theorem groups_10 (a : Option Addr) (len cap : Nat) (l : List Nat) (w : World) (h : Reads w a len l) :
    Calls Try.prog 48 #[.slice a len cap, .int .i64 10] w fun e w' =>
      e = .returned (.tuple #[.int .u64 ((dec 10 l 0 0).1 : Int), .int .i64 ((dec 10 l 0 0).2.1 : Int), .int .i64 ((dec 10 l 0 0).2.2 : Int)]) ∧ w = w' :=
  groups_any 10 (by omega) a len cap l w h
theorem groups_9 (a : Option Addr) (len cap : Nat) (l : List Nat) (w : World) (h : Reads w a len l) :
    Calls Try.prog 48 #[.slice a len cap, .int .i64 9] w fun e w' =>
      e = .returned (.tuple #[.int .u64 ((dec 9 l 0 0).1 : Int), .int .i64 ((dec 9 l 0 0).2.1 : Int), .int .i64 ((dec 9 l 0 0).2.2 : Int)]) ∧ w = w' :=
  groups_any 9 (by omega) a len cap l w h

/-- what Int answers, what is left, the error -/
def rint (l : List Nat) (e : Nat) : Int × List Nat × Nat :=
  if e = 0 then (if (dec 10 l 0 0).2.2 = 0 then (zag (dec 10 l 0 0).1, l.drop (dec 10 l 0 0).2.1, 0) else (0, l, (dec 10 l 0 0).2.2)) else (0, l, e)

/-- behind a reader's call -/
def After (p : Nat) (a : Option Addr) (w w' : World) (l : List Nat) (e : Nat) : Prop :=
  ∃ a' len' cap', RD w' p a' len' cap' l e ∧ Only (fun k => k = p) w w' ∧ Later a a'

end Go.Proofs.Ytfdaokjigjpomaa.codw
