/-
  No cell of these rows narrows 'for every input' (looked for: loops, veiled, ifaces, maps, wideKeys, modest, calm, conditions, laid).
  DERIVED. THE GIVEN ROWS OF THIS SEAT. 4 by the template 'for every input the law returns true; each argument reads behind the call as it read before'; 0 by the template 'total and deterministic' (their statements: YtghajamcjcflaaaTotals.lean).
  GIVEN WITH THE SEED: the statements are not yours to turn. If you find one false, say at which input.
  Laid BY PROGRAM, IN A SANDBOX (cutbox-rows.mjs): the forced cells as the released guide's own fill.sh prints them over the translation 78550291618f9a4e… (all of the seat's roots in one cut). By AI agents, Wed Nov 11 2026. No macro, syntax, notation, axiom, sorry.
-/
import Derived.Test.YtghajamcjcflaaaChecked
import GoSem.Claim
import GoSem.ClaimJoined
import GoSem.ClaimMapViews
import Derived.JoinedTies
import Derived.KernelRfl
namespace Go.Proofs.Ytghajamcjcflaaa
/- THE CELL 'sum', in the pinned program and in every row, IS THE sha256 OF THE DUMP (.gsa) THAT YtghajamcjcflaaaProg.lean LOADS. Nothing in Lean hashes anything: it is a label: what it is worth is what the hold of that sum in a sandbox is worth. -/
noncomputable def Try.pinned : Pinned := { name := "ytghajamcjcflaaa", sum := "78550291618f9a4ea72d743cc04a520b385cdac7f2481b09c2cfe5b0ba826bc7", checked := Try.checked }
namespace Rows
def none {H : Type} : Left H := { results := [], args := [] }

/-- 'purserlaw10.TierMerges': WHATEVER THE INPUT: true; the input reads as it did. -/
def tierMergesSpec : ChangeSpec := { name := "tierMerges", fn := fun _ => fun
  | [d1, d2] => { results := [.lit (.bool true)], args := [d1, d2] }
  | _ => none }
def tierMergesRow : OpenClaim := { program := "ytghajamcjcflaaa", sum := "78550291618f9a4ea72d743cc04a520b385cdac7f2481b09c2cfe5b0ba826bc7", func := "purser/purserlaw10.TierMerges", spec := "tierMerges", inPlace := ["math/bits.Add64"], unfollowed := true, recurses := true, apart := false }
def TierMergesSaid : Prop := tierMergesRow.holds Try.pinned (OpenSpec.ofChange tierMergesSpec)

/-- ITS FALSE NEIGHBOUR: 'it returns false'. Refute it at one input. -/
def tierMergesWrong : ChangeSpec := { name := "tierMerges", fn := fun _ => fun
  | [d1, d2] => { results := [.lit (.bool false)], args := [d1, d2] }
  | _ => none }
def TierMergesWrongFalsely : Prop := tierMergesRow.holds Try.pinned (OpenSpec.ofChange tierMergesWrong)

/-- 'purserlaw16.GrantMany': WHATEVER THE INPUT: true; the input reads as it did. -/
def grantManySpec : ChangeSpec := { name := "grantMany", fn := fun _ => fun
  | [d1, d2, d3] => { results := [.lit (.bool true)], args := [d1, d2, d3] }
  | _ => none }
def grantManyRow : OpenClaim := { program := "ytghajamcjcflaaa", sum := "78550291618f9a4ea72d743cc04a520b385cdac7f2481b09c2cfe5b0ba826bc7", func := "purser/purserlaw16.GrantMany", spec := "grantMany", inPlace := ["math/bits.Add64"], unfollowed := true, recurses := true, apart := false }
def GrantManySaid : Prop := grantManyRow.holds Try.pinned (OpenSpec.ofChange grantManySpec)

/-- ITS FALSE NEIGHBOUR: 'it returns false'. Refute it at one input. -/
def grantManyWrong : ChangeSpec := { name := "grantMany", fn := fun _ => fun
  | [d1, d2, d3] => { results := [.lit (.bool false)], args := [d1, d2, d3] }
  | _ => none }
def GrantManyWrongFalsely : Prop := grantManyRow.holds Try.pinned (OpenSpec.ofChange grantManyWrong)

/-- 'purserlaw16.GrantOrder': WHATEVER THE INPUT: true; the input reads as it did. -/
def grantOrderSpec : ChangeSpec := { name := "grantOrder", fn := fun _ => fun
  | [d1, d2, d3] => { results := [.lit (.bool true)], args := [d1, d2, d3] }
  | _ => none }
def grantOrderRow : OpenClaim := { program := "ytghajamcjcflaaa", sum := "78550291618f9a4ea72d743cc04a520b385cdac7f2481b09c2cfe5b0ba826bc7", func := "purser/purserlaw16.GrantOrder", spec := "grantOrder", inPlace := ["math/bits.Add64"], unfollowed := true, recurses := true, apart := false }
def GrantOrderSaid : Prop := grantOrderRow.holds Try.pinned (OpenSpec.ofChange grantOrderSpec)

/-- ITS FALSE NEIGHBOUR: 'it returns false'. Refute it at one input. -/
def grantOrderWrong : ChangeSpec := { name := "grantOrder", fn := fun _ => fun
  | [d1, d2, d3] => { results := [.lit (.bool false)], args := [d1, d2, d3] }
  | _ => none }
def GrantOrderWrongFalsely : Prop := grantOrderRow.holds Try.pinned (OpenSpec.ofChange grantOrderWrong)

/-- 'pursertop.PurserRates': WHATEVER THE INPUT: true; the input reads as it did. -/
def purserRatesSpec : ChangeSpec := { name := "purserRates", fn := fun _ => fun
  | [d1, d2, d3] => { results := [.lit (.bool true)], args := [d1, d2, d3] }
  | _ => none }
def purserRatesRow : OpenClaim := { program := "ytghajamcjcflaaa", sum := "78550291618f9a4ea72d743cc04a520b385cdac7f2481b09c2cfe5b0ba826bc7", func := "purser/pursertop.PurserRates", spec := "purserRates", inPlace := ["math/bits.Add64"], unfollowed := true, recurses := true, apart := false }
def PurserRatesSaid : Prop := purserRatesRow.holds Try.pinned (OpenSpec.ofChange purserRatesSpec)

/-- ITS FALSE NEIGHBOUR: 'it returns false'. Refute it at one input. -/
def purserRatesWrong : ChangeSpec := { name := "purserRates", fn := fun _ => fun
  | [d1, d2, d3] => { results := [.lit (.bool false)], args := [d1, d2, d3] }
  | _ => none }
def PurserRatesWrongFalsely : Prop := purserRatesRow.holds Try.pinned (OpenSpec.ofChange purserRatesWrong)

/- THE SECOND FORM. 'bulk': how many values and letters a reading holds, each counted each time it is reached (what is shared counts as often as it is met; a slice's spare places count too). A statement '..UptoSaid' is the law's where the arguments, and the package variables that the reading takes, are together of bulk at most 1048576: NARROWER than '..Said'. Prove '..Said' where nothing that the law and all that it calls make is longer than what came in: it says more and counts as full. Else prove '..UptoSaid'. A law counts once. -/
mutual
def uptoBulk {H : Type} : DataW H → Nat
  | .lit (.string bytes) => bytes.length + 1
  | .lit _ => 1
  | .nil => 1
  | .ptr d => uptoBulk d + 1
  | .slice elems spare => uptoBulkAll elems + uptoBulkAll spare + 1
  | .agg parts => uptoBulkAll parts + 1
  | .iface _ d => uptoBulk d + 1
  | .map entries => uptoBulkEntries entries + 1
  | .held _ => 1
def uptoBulkAll {H : Type} : List (DataW H) → Nat
  | [] => 0
  | d :: r => uptoBulk d + uptoBulkAll r
def uptoBulkEntries {H : Type} : List (Lit × DataW H) → Nat
  | [] => 0
  | x :: r => uptoBulkEntry x + uptoBulkEntries r
def uptoBulkEntry {H : Type} : Lit × DataW H → Nat
  | (.string bytes, d) => bytes.length + uptoBulk d + 1
  | (_, d) => uptoBulk d + 1
 end
def uptoSmall : (H : Type) → List (DataW H) → Bool := fun _ ds => decide (uptoBulkAll ds ≤ 1048576)
def OpenSpec.upto (s : _root_.Go.ChangeSpec) : _root_.Go.OpenSpec := { _root_.Go.OpenSpec.ofChange s with cond := some uptoSmall }

/-- 'purserlaw10.TierMerges', WHERE WHAT IT READS IS OF BULK AT MOST 1048576: true; the input reads as it did. -/
def tierMergesUptoRow : OpenClaim := { program := "ytghajamcjcflaaa", sum := "78550291618f9a4ea72d743cc04a520b385cdac7f2481b09c2cfe5b0ba826bc7", func := "purser/purserlaw10.TierMerges", spec := "tierMerges", inPlace := ["math/bits.Add64"], unfollowed := true, recurses := true, apart := false, narrowed := true }
def TierMergesUptoSaid : Prop := tierMergesUptoRow.holds Try.pinned (OpenSpec.upto tierMergesSpec)

/-- 'purserlaw16.GrantMany', WHERE WHAT IT READS IS OF BULK AT MOST 1048576: true; the input reads as it did. -/
def grantManyUptoRow : OpenClaim := { program := "ytghajamcjcflaaa", sum := "78550291618f9a4ea72d743cc04a520b385cdac7f2481b09c2cfe5b0ba826bc7", func := "purser/purserlaw16.GrantMany", spec := "grantMany", inPlace := ["math/bits.Add64"], unfollowed := true, recurses := true, apart := false, narrowed := true }
def GrantManyUptoSaid : Prop := grantManyUptoRow.holds Try.pinned (OpenSpec.upto grantManySpec)

/-- 'purserlaw16.GrantOrder', WHERE WHAT IT READS IS OF BULK AT MOST 1048576: true; the input reads as it did. -/
def grantOrderUptoRow : OpenClaim := { program := "ytghajamcjcflaaa", sum := "78550291618f9a4ea72d743cc04a520b385cdac7f2481b09c2cfe5b0ba826bc7", func := "purser/purserlaw16.GrantOrder", spec := "grantOrder", inPlace := ["math/bits.Add64"], unfollowed := true, recurses := true, apart := false, narrowed := true }
def GrantOrderUptoSaid : Prop := grantOrderUptoRow.holds Try.pinned (OpenSpec.upto grantOrderSpec)

/-- 'pursertop.PurserRates', WHERE WHAT IT READS IS OF BULK AT MOST 1048576: true; the input reads as it did. -/
def purserRatesUptoRow : OpenClaim := { program := "ytghajamcjcflaaa", sum := "78550291618f9a4ea72d743cc04a520b385cdac7f2481b09c2cfe5b0ba826bc7", func := "purser/pursertop.PurserRates", spec := "purserRates", inPlace := ["math/bits.Add64"], unfollowed := true, recurses := true, apart := false, narrowed := true }
def PurserRatesUptoSaid : Prop := purserRatesUptoRow.holds Try.pinned (OpenSpec.upto purserRatesSpec)

end Rows
end Go.Proofs.Ytghajamcjcflaaa
