/-
  No cell of these rows narrows 'for every input' (looked for: loops, veiled, ifaces, maps, wideKeys, modest, calm, conditions, laid).
  DERIVED. THE GIVEN ROWS OF THIS SEAT. 12 by the template 'for every input the law returns true; each argument reads behind the call as it read before'; 0 by the template 'total and deterministic' (their statements: YtcglhenbcdkkmaaTotals.lean).
  GIVEN WITH THE SEED: the statements are not yours to turn. If you find one false, say at which input.
  Laid BY PROGRAM, IN A SANDBOX (cutbox-rows.mjs): the forced cells as the released guide's own fill.sh prints them over the translation 9bbaecd4e3de9fe7… (all of the seat's roots in one cut). By AI agents, Wed Nov 11 2026. No macro, syntax, notation, axiom, sorry.
-/
import Derived.Test.YtcglhenbcdkkmaaChecked
import GoSem.Claim
import GoSem.ClaimJoined
import GoSem.ClaimMapViews
import Derived.JoinedTies
import Derived.KernelRfl
namespace Go.Proofs.Ytcglhenbcdkkmaa
/- THE CELL 'sum', in the pinned program and in every row, IS THE sha256 OF THE DUMP (.gsa) THAT YtcglhenbcdkkmaaProg.lean LOADS. Nothing in Lean hashes anything: it is a label: what it is worth is what the hold of that sum in a sandbox is worth. -/
noncomputable def Try.pinned : Pinned := { name := "ytcglhenbcdkkmaa", sum := "9bbaecd4e3de9fe7b3e991bcdc9814f937008f0aeebf06f2ad33ec19ef1d6081", checked := Try.checked }
namespace Rows
def none {H : Type} : Left H := { results := [], args := [] }

/-- 'purserlaw10.TierMerges': WHATEVER THE INPUT: true; the input reads as it did. -/
def tierMergesSpec : ChangeSpec := { name := "tierMerges", fn := fun _ => fun
  | [d1, d2] => { results := [.lit (.bool true)], args := [d1, d2] }
  | _ => none }
def tierMergesRow : OpenClaim := { program := "ytcglhenbcdkkmaa", sum := "9bbaecd4e3de9fe7b3e991bcdc9814f937008f0aeebf06f2ad33ec19ef1d6081", func := "purser/purserlaw10.TierMerges", spec := "tierMerges", inPlace := ["math/bits.Add64"], unfollowed := true, recurses := true, apart := false }
def TierMergesSaid : Prop := tierMergesRow.holds Try.pinned (OpenSpec.ofChange tierMergesSpec)

/-- ITS FALSE NEIGHBOUR: 'it returns false'. Refute it at one input. -/
def tierMergesWrong : ChangeSpec := { name := "tierMerges", fn := fun _ => fun
  | [d1, d2] => { results := [.lit (.bool false)], args := [d1, d2] }
  | _ => none }
def TierMergesWrongFalsely : Prop := tierMergesRow.holds Try.pinned (OpenSpec.ofChange tierMergesWrong)

/-- 'purserlaw10.TierWhole': WHATEVER THE INPUT: true; the input reads as it did. -/
def tierWholeSpec : ChangeSpec := { name := "tierWhole", fn := fun _ => fun
  | [d1, d2, d3] => { results := [.lit (.bool true)], args := [d1, d2, d3] }
  | _ => none }
def tierWholeRow : OpenClaim := { program := "ytcglhenbcdkkmaa", sum := "9bbaecd4e3de9fe7b3e991bcdc9814f937008f0aeebf06f2ad33ec19ef1d6081", func := "purser/purserlaw10.TierWhole", spec := "tierWhole", inPlace := ["math/bits.Add64"], unfollowed := true, recurses := true, apart := false }
def TierWholeSaid : Prop := tierWholeRow.holds Try.pinned (OpenSpec.ofChange tierWholeSpec)

/-- ITS FALSE NEIGHBOUR: 'it returns false'. Refute it at one input. -/
def tierWholeWrong : ChangeSpec := { name := "tierWhole", fn := fun _ => fun
  | [d1, d2, d3] => { results := [.lit (.bool false)], args := [d1, d2, d3] }
  | _ => none }
def TierWholeWrongFalsely : Prop := tierWholeRow.holds Try.pinned (OpenSpec.ofChange tierWholeWrong)

/-- 'purserlaw10.TierRises': WHATEVER THE INPUT: true; the input reads as it did. -/
def tierRisesSpec : ChangeSpec := { name := "tierRises", fn := fun _ => fun
  | [d1, d2, d3] => { results := [.lit (.bool true)], args := [d1, d2, d3] }
  | _ => none }
def tierRisesRow : OpenClaim := { program := "ytcglhenbcdkkmaa", sum := "9bbaecd4e3de9fe7b3e991bcdc9814f937008f0aeebf06f2ad33ec19ef1d6081", func := "purser/purserlaw10.TierRises", spec := "tierRises", inPlace := ["math/bits.Add64"], unfollowed := true, recurses := true, apart := false }
def TierRisesSaid : Prop := tierRisesRow.holds Try.pinned (OpenSpec.ofChange tierRisesSpec)

/-- ITS FALSE NEIGHBOUR: 'it returns false'. Refute it at one input. -/
def tierRisesWrong : ChangeSpec := { name := "tierRises", fn := fun _ => fun
  | [d1, d2, d3] => { results := [.lit (.bool false)], args := [d1, d2, d3] }
  | _ => none }
def TierRisesWrongFalsely : Prop := tierRisesRow.holds Try.pinned (OpenSpec.ofChange tierRisesWrong)

/-- 'purserlaw10.TierCosts': WHATEVER THE INPUT: true; the input reads as it did. -/
def tierCostsSpec : ChangeSpec := { name := "tierCosts", fn := fun _ => fun
  | [d] => { results := [.lit (.bool true)], args := [d] }
  | _ => none }
def tierCostsRow : OpenClaim := { program := "ytcglhenbcdkkmaa", sum := "9bbaecd4e3de9fe7b3e991bcdc9814f937008f0aeebf06f2ad33ec19ef1d6081", func := "purser/purserlaw10.TierCosts", spec := "tierCosts", inPlace := ["math/bits.Add64"], unfollowed := true, recurses := true, apart := false }
def TierCostsSaid : Prop := tierCostsRow.holds Try.pinned (OpenSpec.ofChange tierCostsSpec)

/-- ITS FALSE NEIGHBOUR: 'it returns false'. Refute it at one input. -/
def tierCostsWrong : ChangeSpec := { name := "tierCosts", fn := fun _ => fun
  | [d] => { results := [.lit (.bool false)], args := [d] }
  | _ => none }
def TierCostsWrongFalsely : Prop := tierCostsRow.holds Try.pinned (OpenSpec.ofChange tierCostsWrong)

/-- 'purserlaw09.TariffBack': WHATEVER THE INPUT: true; the input reads as it did. -/
def tariffBackSpec : ChangeSpec := { name := "tariffBack", fn := fun _ => fun
  | [d] => { results := [.lit (.bool true)], args := [d] }
  | _ => none }
def tariffBackRow : OpenClaim := { program := "ytcglhenbcdkkmaa", sum := "9bbaecd4e3de9fe7b3e991bcdc9814f937008f0aeebf06f2ad33ec19ef1d6081", func := "purser/purserlaw09.TariffBack", spec := "tariffBack", apart := false }
def TariffBackSaid : Prop := tariffBackRow.holds Try.pinned (OpenSpec.ofChange tariffBackSpec)

/-- ITS FALSE NEIGHBOUR: 'it returns false'. Refute it at one input. -/
def tariffBackWrong : ChangeSpec := { name := "tariffBack", fn := fun _ => fun
  | [d] => { results := [.lit (.bool false)], args := [d] }
  | _ => none }
def TariffBackWrongFalsely : Prop := tariffBackRow.holds Try.pinned (OpenSpec.ofChange tariffBackWrong)

/-- 'purserlaw09.TariffReads': WHATEVER THE INPUT: true; the input reads as it did. -/
def tariffReadsSpec : ChangeSpec := { name := "tariffReads", fn := fun _ => fun
  | [d] => { results := [.lit (.bool true)], args := [d] }
  | _ => none }
def tariffReadsRow : OpenClaim := { program := "ytcglhenbcdkkmaa", sum := "9bbaecd4e3de9fe7b3e991bcdc9814f937008f0aeebf06f2ad33ec19ef1d6081", func := "purser/purserlaw09.TariffReads", spec := "tariffReads", apart := false }
def TariffReadsSaid : Prop := tariffReadsRow.holds Try.pinned (OpenSpec.ofChange tariffReadsSpec)

/-- ITS FALSE NEIGHBOUR: 'it returns false'. Refute it at one input. -/
def tariffReadsWrong : ChangeSpec := { name := "tariffReads", fn := fun _ => fun
  | [d] => { results := [.lit (.bool false)], args := [d] }
  | _ => none }
def TariffReadsWrongFalsely : Prop := tariffReadsRow.holds Try.pinned (OpenSpec.ofChange tariffReadsWrong)

/-- 'purserlaw11.RateTells': WHATEVER THE INPUT: true; the input reads as it did. -/
def rateTellsSpec : ChangeSpec := { name := "rateTells", fn := fun _ => fun
  | [d1, d2] => { results := [.lit (.bool true)], args := [d1, d2] }
  | _ => none }
def rateTellsRow : OpenClaim := { program := "ytcglhenbcdkkmaa", sum := "9bbaecd4e3de9fe7b3e991bcdc9814f937008f0aeebf06f2ad33ec19ef1d6081", func := "purser/purserlaw11.RateTells", spec := "rateTells", inPlace := ["math/bits.Add64"], unfollowed := true, recurses := true, apart := false }
def RateTellsSaid : Prop := rateTellsRow.holds Try.pinned (OpenSpec.ofChange rateTellsSpec)

/-- ITS FALSE NEIGHBOUR: 'it returns false'. Refute it at one input. -/
def rateTellsWrong : ChangeSpec := { name := "rateTells", fn := fun _ => fun
  | [d1, d2] => { results := [.lit (.bool false)], args := [d1, d2] }
  | _ => none }
def RateTellsWrongFalsely : Prop := rateTellsRow.holds Try.pinned (OpenSpec.ofChange rateTellsWrong)

/-- 'purserlaw11.RateBounded': WHATEVER THE INPUT: true; the input reads as it did. -/
def rateBoundedSpec : ChangeSpec := { name := "rateBounded", fn := fun _ => fun
  | [d1, d2] => { results := [.lit (.bool true)], args := [d1, d2] }
  | _ => none }
def rateBoundedRow : OpenClaim := { program := "ytcglhenbcdkkmaa", sum := "9bbaecd4e3de9fe7b3e991bcdc9814f937008f0aeebf06f2ad33ec19ef1d6081", func := "purser/purserlaw11.RateBounded", spec := "rateBounded", inPlace := ["math/bits.Add64"], unfollowed := true, recurses := true, apart := false }
def RateBoundedSaid : Prop := rateBoundedRow.holds Try.pinned (OpenSpec.ofChange rateBoundedSpec)

/-- ITS FALSE NEIGHBOUR: 'it returns false'. Refute it at one input. -/
def rateBoundedWrong : ChangeSpec := { name := "rateBounded", fn := fun _ => fun
  | [d1, d2] => { results := [.lit (.bool false)], args := [d1, d2] }
  | _ => none }
def RateBoundedWrongFalsely : Prop := rateBoundedRow.holds Try.pinned (OpenSpec.ofChange rateBoundedWrong)

/-- 'purserlaw11.RateFits': WHATEVER THE INPUT: true; the input reads as it did. -/
def rateFitsSpec : ChangeSpec := { name := "rateFits", fn := fun _ => fun
  | [d1, d2, d3] => { results := [.lit (.bool true)], args := [d1, d2, d3] }
  | _ => none }
def rateFitsRow : OpenClaim := { program := "ytcglhenbcdkkmaa", sum := "9bbaecd4e3de9fe7b3e991bcdc9814f937008f0aeebf06f2ad33ec19ef1d6081", func := "purser/purserlaw11.RateFits", spec := "rateFits", inPlace := ["math/bits.Add64"], unfollowed := true, recurses := true, apart := false }
def RateFitsSaid : Prop := rateFitsRow.holds Try.pinned (OpenSpec.ofChange rateFitsSpec)

/-- ITS FALSE NEIGHBOUR: 'it returns false'. Refute it at one input. -/
def rateFitsWrong : ChangeSpec := { name := "rateFits", fn := fun _ => fun
  | [d1, d2, d3] => { results := [.lit (.bool false)], args := [d1, d2, d3] }
  | _ => none }
def RateFitsWrongFalsely : Prop := rateFitsRow.holds Try.pinned (OpenSpec.ofChange rateFitsWrong)

/-- 'purserlaw11.RateApart': WHATEVER THE INPUT: true; the input reads as it did. -/
def rateApartSpec : ChangeSpec := { name := "rateApart", fn := fun _ => fun
  | [d1, d2, d3] => { results := [.lit (.bool true)], args := [d1, d2, d3] }
  | _ => none }
def rateApartRow : OpenClaim := { program := "ytcglhenbcdkkmaa", sum := "9bbaecd4e3de9fe7b3e991bcdc9814f937008f0aeebf06f2ad33ec19ef1d6081", func := "purser/purserlaw11.RateApart", spec := "rateApart", inPlace := ["math/bits.Add64"], unfollowed := true, recurses := true, apart := false }
def RateApartSaid : Prop := rateApartRow.holds Try.pinned (OpenSpec.ofChange rateApartSpec)

/-- ITS FALSE NEIGHBOUR: 'it returns false'. Refute it at one input. -/
def rateApartWrong : ChangeSpec := { name := "rateApart", fn := fun _ => fun
  | [d1, d2, d3] => { results := [.lit (.bool false)], args := [d1, d2, d3] }
  | _ => none }
def RateApartWrongFalsely : Prop := rateApartRow.holds Try.pinned (OpenSpec.ofChange rateApartWrong)

/-- 'purserlaw11.RateSteady': WHATEVER THE INPUT: true; the input reads as it did. -/
def rateSteadySpec : ChangeSpec := { name := "rateSteady", fn := fun _ => fun
  | [d1, d2, d3] => { results := [.lit (.bool true)], args := [d1, d2, d3] }
  | _ => none }
def rateSteadyRow : OpenClaim := { program := "ytcglhenbcdkkmaa", sum := "9bbaecd4e3de9fe7b3e991bcdc9814f937008f0aeebf06f2ad33ec19ef1d6081", func := "purser/purserlaw11.RateSteady", spec := "rateSteady", inPlace := ["math/bits.Add64"], unfollowed := true, recurses := true, apart := false }
def RateSteadySaid : Prop := rateSteadyRow.holds Try.pinned (OpenSpec.ofChange rateSteadySpec)

/-- ITS FALSE NEIGHBOUR: 'it returns false'. Refute it at one input. -/
def rateSteadyWrong : ChangeSpec := { name := "rateSteady", fn := fun _ => fun
  | [d1, d2, d3] => { results := [.lit (.bool false)], args := [d1, d2, d3] }
  | _ => none }
def RateSteadyWrongFalsely : Prop := rateSteadyRow.holds Try.pinned (OpenSpec.ofChange rateSteadyWrong)

/-- 'pursertop.PurserRates': WHATEVER THE INPUT: true; the input reads as it did. -/
def purserRatesSpec : ChangeSpec := { name := "purserRates", fn := fun _ => fun
  | [d1, d2, d3] => { results := [.lit (.bool true)], args := [d1, d2, d3] }
  | _ => none }
def purserRatesRow : OpenClaim := { program := "ytcglhenbcdkkmaa", sum := "9bbaecd4e3de9fe7b3e991bcdc9814f937008f0aeebf06f2ad33ec19ef1d6081", func := "purser/pursertop.PurserRates", spec := "purserRates", inPlace := ["math/bits.Add64"], unfollowed := true, recurses := true, apart := false }
def PurserRatesSaid : Prop := purserRatesRow.holds Try.pinned (OpenSpec.ofChange purserRatesSpec)

/-- ITS FALSE NEIGHBOUR: 'it returns false'. Refute it at one input. -/
def purserRatesWrong : ChangeSpec := { name := "purserRates", fn := fun _ => fun
  | [d1, d2, d3] => { results := [.lit (.bool false)], args := [d1, d2, d3] }
  | _ => none }
def PurserRatesWrongFalsely : Prop := purserRatesRow.holds Try.pinned (OpenSpec.ofChange purserRatesWrong)

/- THE SECOND FORM. 'bulk': how many values and letters a reading holds, each counted each time it is reached (what is shared counts as often as it is met; a slice's spare places count too). A statement '..UptoSaid' is the law's where the arguments, and the package variables that the reading takes, are together of bulk at most 1048576: NARROWER than '..Said'. Prove '..Said' where nothing that the law and all that it calls make is longer than what came in: it says more and counts as full. Else prove '..UptoSaid'. A law counts once. -/
mutual
def uptoBulk {H : Type} : DataW H → Nat
  | .lit (.string bytes) => bytes.length + 1
  | .lit _ => 1
  | .nil => 1
  | .ptr d => uptoBulk d + 1
  | .slice elems spare => uptoBulkAll elems + uptoBulkAll spare + 1
  | .agg parts => uptoBulkAll parts + 1
  | .iface _ d => uptoBulk d + 1
  | .map entries => uptoBulkEntries entries + 1
  | .held _ => 1
def uptoBulkAll {H : Type} : List (DataW H) → Nat
  | [] => 0
  | d :: r => uptoBulk d + uptoBulkAll r
def uptoBulkEntries {H : Type} : List (Lit × DataW H) → Nat
  | [] => 0
  | x :: r => uptoBulkEntry x + uptoBulkEntries r
def uptoBulkEntry {H : Type} : Lit × DataW H → Nat
  | (.string bytes, d) => bytes.length + uptoBulk d + 1
  | (_, d) => uptoBulk d + 1
 end
def uptoSmall : (H : Type) → List (DataW H) → Bool := fun _ ds => decide (uptoBulkAll ds ≤ 1048576)
def OpenSpec.upto (s : _root_.Go.ChangeSpec) : _root_.Go.OpenSpec := { _root_.Go.OpenSpec.ofChange s with cond := some uptoSmall }

/-- 'purserlaw10.TierMerges', WHERE WHAT IT READS IS OF BULK AT MOST 1048576: true; the input reads as it did. -/
def tierMergesUptoRow : OpenClaim := { program := "ytcglhenbcdkkmaa", sum := "9bbaecd4e3de9fe7b3e991bcdc9814f937008f0aeebf06f2ad33ec19ef1d6081", func := "purser/purserlaw10.TierMerges", spec := "tierMerges", inPlace := ["math/bits.Add64"], unfollowed := true, recurses := true, apart := false, narrowed := true }
def TierMergesUptoSaid : Prop := tierMergesUptoRow.holds Try.pinned (OpenSpec.upto tierMergesSpec)

/-- 'purserlaw10.TierWhole', WHERE WHAT IT READS IS OF BULK AT MOST 1048576: true; the input reads as it did. -/
def tierWholeUptoRow : OpenClaim := { program := "ytcglhenbcdkkmaa", sum := "9bbaecd4e3de9fe7b3e991bcdc9814f937008f0aeebf06f2ad33ec19ef1d6081", func := "purser/purserlaw10.TierWhole", spec := "tierWhole", inPlace := ["math/bits.Add64"], unfollowed := true, recurses := true, apart := false, narrowed := true }
def TierWholeUptoSaid : Prop := tierWholeUptoRow.holds Try.pinned (OpenSpec.upto tierWholeSpec)

/-- 'purserlaw10.TierRises', WHERE WHAT IT READS IS OF BULK AT MOST 1048576: true; the input reads as it did. -/
def tierRisesUptoRow : OpenClaim := { program := "ytcglhenbcdkkmaa", sum := "9bbaecd4e3de9fe7b3e991bcdc9814f937008f0aeebf06f2ad33ec19ef1d6081", func := "purser/purserlaw10.TierRises", spec := "tierRises", inPlace := ["math/bits.Add64"], unfollowed := true, recurses := true, apart := false, narrowed := true }
def TierRisesUptoSaid : Prop := tierRisesUptoRow.holds Try.pinned (OpenSpec.upto tierRisesSpec)

/-- 'purserlaw10.TierCosts', WHERE WHAT IT READS IS OF BULK AT MOST 1048576: true; the input reads as it did. -/
def tierCostsUptoRow : OpenClaim := { program := "ytcglhenbcdkkmaa", sum := "9bbaecd4e3de9fe7b3e991bcdc9814f937008f0aeebf06f2ad33ec19ef1d6081", func := "purser/purserlaw10.TierCosts", spec := "tierCosts", inPlace := ["math/bits.Add64"], unfollowed := true, recurses := true, apart := false, narrowed := true }
def TierCostsUptoSaid : Prop := tierCostsUptoRow.holds Try.pinned (OpenSpec.upto tierCostsSpec)

/-- 'purserlaw09.TariffBack', WHERE WHAT IT READS IS OF BULK AT MOST 1048576: true; the input reads as it did. -/
def tariffBackUptoRow : OpenClaim := { program := "ytcglhenbcdkkmaa", sum := "9bbaecd4e3de9fe7b3e991bcdc9814f937008f0aeebf06f2ad33ec19ef1d6081", func := "purser/purserlaw09.TariffBack", spec := "tariffBack", apart := false, narrowed := true }
def TariffBackUptoSaid : Prop := tariffBackUptoRow.holds Try.pinned (OpenSpec.upto tariffBackSpec)

/-- 'purserlaw09.TariffReads', WHERE WHAT IT READS IS OF BULK AT MOST 1048576: true; the input reads as it did. -/
def tariffReadsUptoRow : OpenClaim := { program := "ytcglhenbcdkkmaa", sum := "9bbaecd4e3de9fe7b3e991bcdc9814f937008f0aeebf06f2ad33ec19ef1d6081", func := "purser/purserlaw09.TariffReads", spec := "tariffReads", apart := false, narrowed := true }
def TariffReadsUptoSaid : Prop := tariffReadsUptoRow.holds Try.pinned (OpenSpec.upto tariffReadsSpec)

/-- 'purserlaw11.RateTells', WHERE WHAT IT READS IS OF BULK AT MOST 1048576: true; the input reads as it did. -/
def rateTellsUptoRow : OpenClaim := { program := "ytcglhenbcdkkmaa", sum := "9bbaecd4e3de9fe7b3e991bcdc9814f937008f0aeebf06f2ad33ec19ef1d6081", func := "purser/purserlaw11.RateTells", spec := "rateTells", inPlace := ["math/bits.Add64"], unfollowed := true, recurses := true, apart := false, narrowed := true }
def RateTellsUptoSaid : Prop := rateTellsUptoRow.holds Try.pinned (OpenSpec.upto rateTellsSpec)

/-- 'purserlaw11.RateBounded', WHERE WHAT IT READS IS OF BULK AT MOST 1048576: true; the input reads as it did. -/
def rateBoundedUptoRow : OpenClaim := { program := "ytcglhenbcdkkmaa", sum := "9bbaecd4e3de9fe7b3e991bcdc9814f937008f0aeebf06f2ad33ec19ef1d6081", func := "purser/purserlaw11.RateBounded", spec := "rateBounded", inPlace := ["math/bits.Add64"], unfollowed := true, recurses := true, apart := false, narrowed := true }
def RateBoundedUptoSaid : Prop := rateBoundedUptoRow.holds Try.pinned (OpenSpec.upto rateBoundedSpec)

/-- 'purserlaw11.RateFits', WHERE WHAT IT READS IS OF BULK AT MOST 1048576: true; the input reads as it did. -/
def rateFitsUptoRow : OpenClaim := { program := "ytcglhenbcdkkmaa", sum := "9bbaecd4e3de9fe7b3e991bcdc9814f937008f0aeebf06f2ad33ec19ef1d6081", func := "purser/purserlaw11.RateFits", spec := "rateFits", inPlace := ["math/bits.Add64"], unfollowed := true, recurses := true, apart := false, narrowed := true }
def RateFitsUptoSaid : Prop := rateFitsUptoRow.holds Try.pinned (OpenSpec.upto rateFitsSpec)

/-- 'purserlaw11.RateApart', WHERE WHAT IT READS IS OF BULK AT MOST 1048576: true; the input reads as it did. -/
def rateApartUptoRow : OpenClaim := { program := "ytcglhenbcdkkmaa", sum := "9bbaecd4e3de9fe7b3e991bcdc9814f937008f0aeebf06f2ad33ec19ef1d6081", func := "purser/purserlaw11.RateApart", spec := "rateApart", inPlace := ["math/bits.Add64"], unfollowed := true, recurses := true, apart := false, narrowed := true }
def RateApartUptoSaid : Prop := rateApartUptoRow.holds Try.pinned (OpenSpec.upto rateApartSpec)

/-- 'purserlaw11.RateSteady', WHERE WHAT IT READS IS OF BULK AT MOST 1048576: true; the input reads as it did. -/
def rateSteadyUptoRow : OpenClaim := { program := "ytcglhenbcdkkmaa", sum := "9bbaecd4e3de9fe7b3e991bcdc9814f937008f0aeebf06f2ad33ec19ef1d6081", func := "purser/purserlaw11.RateSteady", spec := "rateSteady", inPlace := ["math/bits.Add64"], unfollowed := true, recurses := true, apart := false, narrowed := true }
def RateSteadyUptoSaid : Prop := rateSteadyUptoRow.holds Try.pinned (OpenSpec.upto rateSteadySpec)

/-- 'pursertop.PurserRates', WHERE WHAT IT READS IS OF BULK AT MOST 1048576: true; the input reads as it did. -/
def purserRatesUptoRow : OpenClaim := { program := "ytcglhenbcdkkmaa", sum := "9bbaecd4e3de9fe7b3e991bcdc9814f937008f0aeebf06f2ad33ec19ef1d6081", func := "purser/pursertop.PurserRates", spec := "purserRates", inPlace := ["math/bits.Add64"], unfollowed := true, recurses := true, apart := false, narrowed := true }
def PurserRatesUptoSaid : Prop := purserRatesUptoRow.holds Try.pinned (OpenSpec.upto purserRatesSpec)

end Rows
end Go.Proofs.Ytcglhenbcdkkmaa
