/-
  No cell of these rows narrows 'for every input' (looked for: loops, veiled, ifaces, maps, wideKeys, modest, calm, conditions, laid).
  DERIVED. THE GIVEN ROWS OF THIS SEAT. 12 by the template 'for every input the law returns true; each argument reads behind the call as it read before'; 0 by the template 'total and deterministic' (their statements: YtonacdjaimokeaaTotals.lean).
  GIVEN WITH THE SEED: the statements are not yours to turn. If you find one false, say at which input.
  Laid BY PROGRAM, IN A SANDBOX (cutbox-rows.mjs): the forced cells as the released guide's own fill.sh prints them over the translation 5fcce9e52e5c401e… (all of the seat's roots in one cut). By AI agents, Wed Nov 11 2026. No macro, syntax, notation, axiom, sorry.
-/
import Derived.Test.YtonacdjaimokeaaChecked
import GoSem.Claim
import GoSem.ClaimJoined
import GoSem.ClaimMapViews
import Derived.JoinedTies
import Derived.KernelRfl
namespace Go.Proofs.Ytonacdjaimokeaa
/- THE CELL 'sum', in the pinned program and in every row, IS THE sha256 OF THE DUMP (.gsa) THAT YtonacdjaimokeaaProg.lean LOADS. Nothing in Lean hashes anything: it is a label: what it is worth is what the hold of that sum in a sandbox is worth. -/
noncomputable def Try.pinned : Pinned := { name := "ytonacdjaimokeaa", sum := "5fcce9e52e5c401e6ea2d664e24d9473ce3c257c33906e63ef399d4d8d817069", checked := Try.checked }
namespace Rows
def none {H : Type} : Left H := { results := [], args := [] }

/-- 'purserlaw11.RateTells': WHATEVER THE INPUT: true; the input reads as it did. -/
def rateTellsSpec : ChangeSpec := { name := "rateTells", fn := fun _ => fun
  | [d1, d2] => { results := [.lit (.bool true)], args := [d1, d2] }
  | _ => none }
def rateTellsRow : OpenClaim := { program := "ytonacdjaimokeaa", sum := "5fcce9e52e5c401e6ea2d664e24d9473ce3c257c33906e63ef399d4d8d817069", func := "purser/purserlaw11.RateTells", spec := "rateTells", inPlace := ["math/bits.Add64"], unfollowed := true, recurses := true, apart := false }
def RateTellsSaid : Prop := rateTellsRow.holds Try.pinned (OpenSpec.ofChange rateTellsSpec)

/-- ITS FALSE NEIGHBOUR: 'it returns false'. Refute it at one input. -/
def rateTellsWrong : ChangeSpec := { name := "rateTells", fn := fun _ => fun
  | [d1, d2] => { results := [.lit (.bool false)], args := [d1, d2] }
  | _ => none }
def RateTellsWrongFalsely : Prop := rateTellsRow.holds Try.pinned (OpenSpec.ofChange rateTellsWrong)

/-- 'purserlaw11.RateBounded': WHATEVER THE INPUT: true; the input reads as it did. -/
def rateBoundedSpec : ChangeSpec := { name := "rateBounded", fn := fun _ => fun
  | [d1, d2] => { results := [.lit (.bool true)], args := [d1, d2] }
  | _ => none }
def rateBoundedRow : OpenClaim := { program := "ytonacdjaimokeaa", sum := "5fcce9e52e5c401e6ea2d664e24d9473ce3c257c33906e63ef399d4d8d817069", func := "purser/purserlaw11.RateBounded", spec := "rateBounded", inPlace := ["math/bits.Add64"], unfollowed := true, recurses := true, apart := false }
def RateBoundedSaid : Prop := rateBoundedRow.holds Try.pinned (OpenSpec.ofChange rateBoundedSpec)

/-- ITS FALSE NEIGHBOUR: 'it returns false'. Refute it at one input. -/
def rateBoundedWrong : ChangeSpec := { name := "rateBounded", fn := fun _ => fun
  | [d1, d2] => { results := [.lit (.bool false)], args := [d1, d2] }
  | _ => none }
def RateBoundedWrongFalsely : Prop := rateBoundedRow.holds Try.pinned (OpenSpec.ofChange rateBoundedWrong)

/-- 'purserlaw11.RateFits': WHATEVER THE INPUT: true; the input reads as it did. -/
def rateFitsSpec : ChangeSpec := { name := "rateFits", fn := fun _ => fun
  | [d1, d2, d3] => { results := [.lit (.bool true)], args := [d1, d2, d3] }
  | _ => none }
def rateFitsRow : OpenClaim := { program := "ytonacdjaimokeaa", sum := "5fcce9e52e5c401e6ea2d664e24d9473ce3c257c33906e63ef399d4d8d817069", func := "purser/purserlaw11.RateFits", spec := "rateFits", inPlace := ["math/bits.Add64"], unfollowed := true, recurses := true, apart := false }
def RateFitsSaid : Prop := rateFitsRow.holds Try.pinned (OpenSpec.ofChange rateFitsSpec)

/-- ITS FALSE NEIGHBOUR: 'it returns false'. Refute it at one input. -/
def rateFitsWrong : ChangeSpec := { name := "rateFits", fn := fun _ => fun
  | [d1, d2, d3] => { results := [.lit (.bool false)], args := [d1, d2, d3] }
  | _ => none }
def RateFitsWrongFalsely : Prop := rateFitsRow.holds Try.pinned (OpenSpec.ofChange rateFitsWrong)

/-- 'purserlaw11.RateApart': WHATEVER THE INPUT: true; the input reads as it did. -/
def rateApartSpec : ChangeSpec := { name := "rateApart", fn := fun _ => fun
  | [d1, d2, d3] => { results := [.lit (.bool true)], args := [d1, d2, d3] }
  | _ => none }
def rateApartRow : OpenClaim := { program := "ytonacdjaimokeaa", sum := "5fcce9e52e5c401e6ea2d664e24d9473ce3c257c33906e63ef399d4d8d817069", func := "purser/purserlaw11.RateApart", spec := "rateApart", inPlace := ["math/bits.Add64"], unfollowed := true, recurses := true, apart := false }
def RateApartSaid : Prop := rateApartRow.holds Try.pinned (OpenSpec.ofChange rateApartSpec)

/-- ITS FALSE NEIGHBOUR: 'it returns false'. Refute it at one input. -/
def rateApartWrong : ChangeSpec := { name := "rateApart", fn := fun _ => fun
  | [d1, d2, d3] => { results := [.lit (.bool false)], args := [d1, d2, d3] }
  | _ => none }
def RateApartWrongFalsely : Prop := rateApartRow.holds Try.pinned (OpenSpec.ofChange rateApartWrong)

/-- 'purserlaw11.RateSteady': WHATEVER THE INPUT: true; the input reads as it did. -/
def rateSteadySpec : ChangeSpec := { name := "rateSteady", fn := fun _ => fun
  | [d1, d2, d3] => { results := [.lit (.bool true)], args := [d1, d2, d3] }
  | _ => none }
def rateSteadyRow : OpenClaim := { program := "ytonacdjaimokeaa", sum := "5fcce9e52e5c401e6ea2d664e24d9473ce3c257c33906e63ef399d4d8d817069", func := "purser/purserlaw11.RateSteady", spec := "rateSteady", inPlace := ["math/bits.Add64"], unfollowed := true, recurses := true, apart := false }
def RateSteadySaid : Prop := rateSteadyRow.holds Try.pinned (OpenSpec.ofChange rateSteadySpec)

/-- ITS FALSE NEIGHBOUR: 'it returns false'. Refute it at one input. -/
def rateSteadyWrong : ChangeSpec := { name := "rateSteady", fn := fun _ => fun
  | [d1, d2, d3] => { results := [.lit (.bool false)], args := [d1, d2, d3] }
  | _ => none }
def RateSteadyWrongFalsely : Prop := rateSteadyRow.holds Try.pinned (OpenSpec.ofChange rateSteadyWrong)

/-- 'pursertop.PurserRates': WHATEVER THE INPUT: true; the input reads as it did. -/
def purserRatesSpec : ChangeSpec := { name := "purserRates", fn := fun _ => fun
  | [d1, d2, d3] => { results := [.lit (.bool true)], args := [d1, d2, d3] }
  | _ => none }
def purserRatesRow : OpenClaim := { program := "ytonacdjaimokeaa", sum := "5fcce9e52e5c401e6ea2d664e24d9473ce3c257c33906e63ef399d4d8d817069", func := "purser/pursertop.PurserRates", spec := "purserRates", inPlace := ["math/bits.Add64"], unfollowed := true, recurses := true, apart := false }
def PurserRatesSaid : Prop := purserRatesRow.holds Try.pinned (OpenSpec.ofChange purserRatesSpec)

/-- ITS FALSE NEIGHBOUR: 'it returns false'. Refute it at one input. -/
def purserRatesWrong : ChangeSpec := { name := "purserRates", fn := fun _ => fun
  | [d1, d2, d3] => { results := [.lit (.bool false)], args := [d1, d2, d3] }
  | _ => none }
def PurserRatesWrongFalsely : Prop := purserRatesRow.holds Try.pinned (OpenSpec.ofChange purserRatesWrong)

/-- 'purserlaw10.TierMerges': WHATEVER THE INPUT: true; the input reads as it did. -/
def tierMergesSpec : ChangeSpec := { name := "tierMerges", fn := fun _ => fun
  | [d1, d2] => { results := [.lit (.bool true)], args := [d1, d2] }
  | _ => none }
def tierMergesRow : OpenClaim := { program := "ytonacdjaimokeaa", sum := "5fcce9e52e5c401e6ea2d664e24d9473ce3c257c33906e63ef399d4d8d817069", func := "purser/purserlaw10.TierMerges", spec := "tierMerges", inPlace := ["math/bits.Add64"], unfollowed := true, recurses := true, apart := false }
def TierMergesSaid : Prop := tierMergesRow.holds Try.pinned (OpenSpec.ofChange tierMergesSpec)

/-- ITS FALSE NEIGHBOUR: 'it returns false'. Refute it at one input. -/
def tierMergesWrong : ChangeSpec := { name := "tierMerges", fn := fun _ => fun
  | [d1, d2] => { results := [.lit (.bool false)], args := [d1, d2] }
  | _ => none }
def TierMergesWrongFalsely : Prop := tierMergesRow.holds Try.pinned (OpenSpec.ofChange tierMergesWrong)

/-- 'purserlaw16.GrantMakes': WHATEVER THE INPUT: true; the input reads as it did. -/
def grantMakesSpec : ChangeSpec := { name := "grantMakes", fn := fun _ => fun
  | [d1, d2, d3] => { results := [.lit (.bool true)], args := [d1, d2, d3] }
  | _ => none }
def grantMakesRow : OpenClaim := { program := "ytonacdjaimokeaa", sum := "5fcce9e52e5c401e6ea2d664e24d9473ce3c257c33906e63ef399d4d8d817069", func := "purser/purserlaw16.GrantMakes", spec := "grantMakes", inPlace := ["math/bits.Add64"], unfollowed := true, recurses := true, apart := false }
def GrantMakesSaid : Prop := grantMakesRow.holds Try.pinned (OpenSpec.ofChange grantMakesSpec)

/-- ITS FALSE NEIGHBOUR: 'it returns false'. Refute it at one input. -/
def grantMakesWrong : ChangeSpec := { name := "grantMakes", fn := fun _ => fun
  | [d1, d2, d3] => { results := [.lit (.bool false)], args := [d1, d2, d3] }
  | _ => none }
def GrantMakesWrongFalsely : Prop := grantMakesRow.holds Try.pinned (OpenSpec.ofChange grantMakesWrong)

/-- 'purserlaw16.GrantMany': WHATEVER THE INPUT: true; the input reads as it did. -/
def grantManySpec : ChangeSpec := { name := "grantMany", fn := fun _ => fun
  | [d1, d2, d3] => { results := [.lit (.bool true)], args := [d1, d2, d3] }
  | _ => none }
def grantManyRow : OpenClaim := { program := "ytonacdjaimokeaa", sum := "5fcce9e52e5c401e6ea2d664e24d9473ce3c257c33906e63ef399d4d8d817069", func := "purser/purserlaw16.GrantMany", spec := "grantMany", inPlace := ["math/bits.Add64"], unfollowed := true, recurses := true, apart := false }
def GrantManySaid : Prop := grantManyRow.holds Try.pinned (OpenSpec.ofChange grantManySpec)

/-- ITS FALSE NEIGHBOUR: 'it returns false'. Refute it at one input. -/
def grantManyWrong : ChangeSpec := { name := "grantMany", fn := fun _ => fun
  | [d1, d2, d3] => { results := [.lit (.bool false)], args := [d1, d2, d3] }
  | _ => none }
def GrantManyWrongFalsely : Prop := grantManyRow.holds Try.pinned (OpenSpec.ofChange grantManyWrong)

/-- 'purserlaw16.GrantSettles': WHATEVER THE INPUT: true; the input reads as it did. -/
def grantSettlesSpec : ChangeSpec := { name := "grantSettles", fn := fun _ => fun
  | [d1, d2, d3] => { results := [.lit (.bool true)], args := [d1, d2, d3] }
  | _ => none }
def grantSettlesRow : OpenClaim := { program := "ytonacdjaimokeaa", sum := "5fcce9e52e5c401e6ea2d664e24d9473ce3c257c33906e63ef399d4d8d817069", func := "purser/purserlaw16.GrantSettles", spec := "grantSettles", inPlace := ["math/bits.Add64"], unfollowed := true, recurses := true, apart := false }
def GrantSettlesSaid : Prop := grantSettlesRow.holds Try.pinned (OpenSpec.ofChange grantSettlesSpec)

/-- ITS FALSE NEIGHBOUR: 'it returns false'. Refute it at one input. -/
def grantSettlesWrong : ChangeSpec := { name := "grantSettles", fn := fun _ => fun
  | [d1, d2, d3] => { results := [.lit (.bool false)], args := [d1, d2, d3] }
  | _ => none }
def GrantSettlesWrongFalsely : Prop := grantSettlesRow.holds Try.pinned (OpenSpec.ofChange grantSettlesWrong)

/-- 'purserlaw16.GrantBounds': WHATEVER THE INPUT: true; the input reads as it did. -/
def grantBoundsSpec : ChangeSpec := { name := "grantBounds", fn := fun _ => fun
  | [d1, d2, d3] => { results := [.lit (.bool true)], args := [d1, d2, d3] }
  | _ => none }
def grantBoundsRow : OpenClaim := { program := "ytonacdjaimokeaa", sum := "5fcce9e52e5c401e6ea2d664e24d9473ce3c257c33906e63ef399d4d8d817069", func := "purser/purserlaw16.GrantBounds", spec := "grantBounds", inPlace := ["math/bits.Add64"], unfollowed := true, recurses := true, apart := false }
def GrantBoundsSaid : Prop := grantBoundsRow.holds Try.pinned (OpenSpec.ofChange grantBoundsSpec)

/-- ITS FALSE NEIGHBOUR: 'it returns false'. Refute it at one input. -/
def grantBoundsWrong : ChangeSpec := { name := "grantBounds", fn := fun _ => fun
  | [d1, d2, d3] => { results := [.lit (.bool false)], args := [d1, d2, d3] }
  | _ => none }
def GrantBoundsWrongFalsely : Prop := grantBoundsRow.holds Try.pinned (OpenSpec.ofChange grantBoundsWrong)

/-- 'purserlaw16.GrantOrder': WHATEVER THE INPUT: true; the input reads as it did. -/
def grantOrderSpec : ChangeSpec := { name := "grantOrder", fn := fun _ => fun
  | [d1, d2, d3] => { results := [.lit (.bool true)], args := [d1, d2, d3] }
  | _ => none }
def grantOrderRow : OpenClaim := { program := "ytonacdjaimokeaa", sum := "5fcce9e52e5c401e6ea2d664e24d9473ce3c257c33906e63ef399d4d8d817069", func := "purser/purserlaw16.GrantOrder", spec := "grantOrder", inPlace := ["math/bits.Add64"], unfollowed := true, recurses := true, apart := false }
def GrantOrderSaid : Prop := grantOrderRow.holds Try.pinned (OpenSpec.ofChange grantOrderSpec)

/-- ITS FALSE NEIGHBOUR: 'it returns false'. Refute it at one input. -/
def grantOrderWrong : ChangeSpec := { name := "grantOrder", fn := fun _ => fun
  | [d1, d2, d3] => { results := [.lit (.bool false)], args := [d1, d2, d3] }
  | _ => none }
def GrantOrderWrongFalsely : Prop := grantOrderRow.holds Try.pinned (OpenSpec.ofChange grantOrderWrong)

/- THE SECOND FORM. 'bulk': how many values and letters a reading holds, each counted each time it is reached (what is shared counts as often as it is met; a slice's spare places count too). A statement '..UptoSaid' is the law's where the arguments, and the package variables that the reading takes, are together of bulk at most 1048576: NARROWER than '..Said'. Prove '..Said' where nothing that the law and all that it calls make is longer than what came in: it says more and counts as full. Else prove '..UptoSaid'. A law counts once. -/
mutual
def uptoBulk {H : Type} : DataW H → Nat
  | .lit (.string bytes) => bytes.length + 1
  | .lit _ => 1
  | .nil => 1
  | .ptr d => uptoBulk d + 1
  | .slice elems spare => uptoBulkAll elems + uptoBulkAll spare + 1
  | .agg parts => uptoBulkAll parts + 1
  | .iface _ d => uptoBulk d + 1
  | .map entries => uptoBulkEntries entries + 1
  | .held _ => 1
def uptoBulkAll {H : Type} : List (DataW H) → Nat
  | [] => 0
  | d :: r => uptoBulk d + uptoBulkAll r
def uptoBulkEntries {H : Type} : List (Lit × DataW H) → Nat
  | [] => 0
  | x :: r => uptoBulkEntry x + uptoBulkEntries r
def uptoBulkEntry {H : Type} : Lit × DataW H → Nat
  | (.string bytes, d) => bytes.length + uptoBulk d + 1
  | (_, d) => uptoBulk d + 1
 end
def uptoSmall : (H : Type) → List (DataW H) → Bool := fun _ ds => decide (uptoBulkAll ds ≤ 1048576)
def OpenSpec.upto (s : _root_.Go.ChangeSpec) : _root_.Go.OpenSpec := { _root_.Go.OpenSpec.ofChange s with cond := some uptoSmall }

/-- 'purserlaw11.RateTells', WHERE WHAT IT READS IS OF BULK AT MOST 1048576: true; the input reads as it did. -/
def rateTellsUptoRow : OpenClaim := { program := "ytonacdjaimokeaa", sum := "5fcce9e52e5c401e6ea2d664e24d9473ce3c257c33906e63ef399d4d8d817069", func := "purser/purserlaw11.RateTells", spec := "rateTells", inPlace := ["math/bits.Add64"], unfollowed := true, recurses := true, apart := false, narrowed := true }
def RateTellsUptoSaid : Prop := rateTellsUptoRow.holds Try.pinned (OpenSpec.upto rateTellsSpec)

/-- 'purserlaw11.RateBounded', WHERE WHAT IT READS IS OF BULK AT MOST 1048576: true; the input reads as it did. -/
def rateBoundedUptoRow : OpenClaim := { program := "ytonacdjaimokeaa", sum := "5fcce9e52e5c401e6ea2d664e24d9473ce3c257c33906e63ef399d4d8d817069", func := "purser/purserlaw11.RateBounded", spec := "rateBounded", inPlace := ["math/bits.Add64"], unfollowed := true, recurses := true, apart := false, narrowed := true }
def RateBoundedUptoSaid : Prop := rateBoundedUptoRow.holds Try.pinned (OpenSpec.upto rateBoundedSpec)

/-- 'purserlaw11.RateFits', WHERE WHAT IT READS IS OF BULK AT MOST 1048576: true; the input reads as it did. -/
def rateFitsUptoRow : OpenClaim := { program := "ytonacdjaimokeaa", sum := "5fcce9e52e5c401e6ea2d664e24d9473ce3c257c33906e63ef399d4d8d817069", func := "purser/purserlaw11.RateFits", spec := "rateFits", inPlace := ["math/bits.Add64"], unfollowed := true, recurses := true, apart := false, narrowed := true }
def RateFitsUptoSaid : Prop := rateFitsUptoRow.holds Try.pinned (OpenSpec.upto rateFitsSpec)

/-- 'purserlaw11.RateApart', WHERE WHAT IT READS IS OF BULK AT MOST 1048576: true; the input reads as it did. -/
def rateApartUptoRow : OpenClaim := { program := "ytonacdjaimokeaa", sum := "5fcce9e52e5c401e6ea2d664e24d9473ce3c257c33906e63ef399d4d8d817069", func := "purser/purserlaw11.RateApart", spec := "rateApart", inPlace := ["math/bits.Add64"], unfollowed := true, recurses := true, apart := false, narrowed := true }
def RateApartUptoSaid : Prop := rateApartUptoRow.holds Try.pinned (OpenSpec.upto rateApartSpec)

/-- 'purserlaw11.RateSteady', WHERE WHAT IT READS IS OF BULK AT MOST 1048576: true; the input reads as it did. -/
def rateSteadyUptoRow : OpenClaim := { program := "ytonacdjaimokeaa", sum := "5fcce9e52e5c401e6ea2d664e24d9473ce3c257c33906e63ef399d4d8d817069", func := "purser/purserlaw11.RateSteady", spec := "rateSteady", inPlace := ["math/bits.Add64"], unfollowed := true, recurses := true, apart := false, narrowed := true }
def RateSteadyUptoSaid : Prop := rateSteadyUptoRow.holds Try.pinned (OpenSpec.upto rateSteadySpec)

/-- 'pursertop.PurserRates', WHERE WHAT IT READS IS OF BULK AT MOST 1048576: true; the input reads as it did. -/
def purserRatesUptoRow : OpenClaim := { program := "ytonacdjaimokeaa", sum := "5fcce9e52e5c401e6ea2d664e24d9473ce3c257c33906e63ef399d4d8d817069", func := "purser/pursertop.PurserRates", spec := "purserRates", inPlace := ["math/bits.Add64"], unfollowed := true, recurses := true, apart := false, narrowed := true }
def PurserRatesUptoSaid : Prop := purserRatesUptoRow.holds Try.pinned (OpenSpec.upto purserRatesSpec)

/-- 'purserlaw10.TierMerges', WHERE WHAT IT READS IS OF BULK AT MOST 1048576: true; the input reads as it did. -/
def tierMergesUptoRow : OpenClaim := { program := "ytonacdjaimokeaa", sum := "5fcce9e52e5c401e6ea2d664e24d9473ce3c257c33906e63ef399d4d8d817069", func := "purser/purserlaw10.TierMerges", spec := "tierMerges", inPlace := ["math/bits.Add64"], unfollowed := true, recurses := true, apart := false, narrowed := true }
def TierMergesUptoSaid : Prop := tierMergesUptoRow.holds Try.pinned (OpenSpec.upto tierMergesSpec)

/-- 'purserlaw16.GrantMakes', WHERE WHAT IT READS IS OF BULK AT MOST 1048576: true; the input reads as it did. -/
def grantMakesUptoRow : OpenClaim := { program := "ytonacdjaimokeaa", sum := "5fcce9e52e5c401e6ea2d664e24d9473ce3c257c33906e63ef399d4d8d817069", func := "purser/purserlaw16.GrantMakes", spec := "grantMakes", inPlace := ["math/bits.Add64"], unfollowed := true, recurses := true, apart := false, narrowed := true }
def GrantMakesUptoSaid : Prop := grantMakesUptoRow.holds Try.pinned (OpenSpec.upto grantMakesSpec)

/-- 'purserlaw16.GrantMany', WHERE WHAT IT READS IS OF BULK AT MOST 1048576: true; the input reads as it did. -/
def grantManyUptoRow : OpenClaim := { program := "ytonacdjaimokeaa", sum := "5fcce9e52e5c401e6ea2d664e24d9473ce3c257c33906e63ef399d4d8d817069", func := "purser/purserlaw16.GrantMany", spec := "grantMany", inPlace := ["math/bits.Add64"], unfollowed := true, recurses := true, apart := false, narrowed := true }
def GrantManyUptoSaid : Prop := grantManyUptoRow.holds Try.pinned (OpenSpec.upto grantManySpec)

/-- 'purserlaw16.GrantSettles', WHERE WHAT IT READS IS OF BULK AT MOST 1048576: true; the input reads as it did. -/
def grantSettlesUptoRow : OpenClaim := { program := "ytonacdjaimokeaa", sum := "5fcce9e52e5c401e6ea2d664e24d9473ce3c257c33906e63ef399d4d8d817069", func := "purser/purserlaw16.GrantSettles", spec := "grantSettles", inPlace := ["math/bits.Add64"], unfollowed := true, recurses := true, apart := false, narrowed := true }
def GrantSettlesUptoSaid : Prop := grantSettlesUptoRow.holds Try.pinned (OpenSpec.upto grantSettlesSpec)

/-- 'purserlaw16.GrantBounds', WHERE WHAT IT READS IS OF BULK AT MOST 1048576: true; the input reads as it did. -/
def grantBoundsUptoRow : OpenClaim := { program := "ytonacdjaimokeaa", sum := "5fcce9e52e5c401e6ea2d664e24d9473ce3c257c33906e63ef399d4d8d817069", func := "purser/purserlaw16.GrantBounds", spec := "grantBounds", inPlace := ["math/bits.Add64"], unfollowed := true, recurses := true, apart := false, narrowed := true }
def GrantBoundsUptoSaid : Prop := grantBoundsUptoRow.holds Try.pinned (OpenSpec.upto grantBoundsSpec)

/-- 'purserlaw16.GrantOrder', WHERE WHAT IT READS IS OF BULK AT MOST 1048576: true; the input reads as it did. -/
def grantOrderUptoRow : OpenClaim := { program := "ytonacdjaimokeaa", sum := "5fcce9e52e5c401e6ea2d664e24d9473ce3c257c33906e63ef399d4d8d817069", func := "purser/purserlaw16.GrantOrder", spec := "grantOrder", inPlace := ["math/bits.Add64"], unfollowed := true, recurses := true, apart := false, narrowed := true }
def GrantOrderUptoSaid : Prop := grantOrderUptoRow.holds Try.pinned (OpenSpec.upto grantOrderSpec)

end Rows
end Go.Proofs.Ytonacdjaimokeaa
