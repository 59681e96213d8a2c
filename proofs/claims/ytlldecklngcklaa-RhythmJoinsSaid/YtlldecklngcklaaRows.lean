/-
  No cell of these rows narrows 'for every input' (looked for: loops, veiled, ifaces, maps, wideKeys, modest, calm, conditions, laid).
  DERIVED. THE GIVEN ROWS OF THIS SEAT. 12 by the template 'for every input the law returns true; each argument reads behind the call as it read before'; 0 by the template 'total and deterministic' (their statements: YtlldecklngcklaaTotals.lean).
  GIVEN WITH THE SEED: the statements are not yours to turn. If you find one false, say at which input.
  Laid BY PROGRAM, IN A SANDBOX (cutbox-rows.mjs): the forced cells as the released guide's own fill.sh prints them over the translation c3d2288051874872… (all of the seat's roots in one cut). By AI agents, Wed Nov 11 2026. No macro, syntax, notation, axiom, sorry.
-/
import Derived.Test.YtlldecklngcklaaChecked
import GoSem.Claim
import GoSem.ClaimJoined
import GoSem.ClaimMapViews
import Derived.JoinedTies
import Derived.KernelRfl
namespace Go.Proofs.Ytlldecklngcklaa
/- THE CELL 'sum', in the pinned program and in every row, IS THE sha256 OF THE DUMP (.gsa) THAT YtlldecklngcklaaProg.lean LOADS. Nothing in Lean hashes anything: it is a label: what it is worth is what the hold of that sum in a sandbox is worth. -/
noncomputable def Try.pinned : Pinned := { name := "ytlldecklngcklaa", sum := "c3d228805187487217dcfbced52b09308cd1b3ace3986b2db953a05bfb74fe55", checked := Try.checked }
namespace Rows
def none {H : Type} : Left H := { results := [], args := [] }

/-- 'purserlaw07.EntryChecks': WHATEVER THE INPUT: true; the input reads as it did. -/
def entryChecksSpec : ChangeSpec := { name := "entryChecks", fn := fun _ => fun
  | [d] => { results := [.lit (.bool true)], args := [d] }
  | _ => none }
def entryChecksRow : OpenClaim := { program := "ytlldecklngcklaa", sum := "c3d228805187487217dcfbced52b09308cd1b3ace3986b2db953a05bfb74fe55", func := "purser/purserlaw07.EntryChecks", spec := "entryChecks", unfollowed := true, recurses := true, plainKeys := false, apart := false }
def EntryChecksSaid : Prop := entryChecksRow.holds Try.pinned (OpenSpec.ofChange entryChecksSpec)

/-- ITS FALSE NEIGHBOUR: 'it returns false'. Refute it at one input. -/
def entryChecksWrong : ChangeSpec := { name := "entryChecks", fn := fun _ => fun
  | [d] => { results := [.lit (.bool false)], args := [d] }
  | _ => none }
def EntryChecksWrongFalsely : Prop := entryChecksRow.holds Try.pinned (OpenSpec.ofChange entryChecksWrong)

/-- 'purserlaw07.EntryMakes': WHATEVER THE INPUT: true; the input reads as it did. -/
def entryMakesSpec : ChangeSpec := { name := "entryMakes", fn := fun _ => fun
  | [d1, d2, d3] => { results := [.lit (.bool true)], args := [d1, d2, d3] }
  | _ => none }
def entryMakesRow : OpenClaim := { program := "ytlldecklngcklaa", sum := "c3d228805187487217dcfbced52b09308cd1b3ace3986b2db953a05bfb74fe55", func := "purser/purserlaw07.EntryMakes", spec := "entryMakes", unfollowed := true, recurses := true, plainKeys := false, apart := false }
def EntryMakesSaid : Prop := entryMakesRow.holds Try.pinned (OpenSpec.ofChange entryMakesSpec)

/-- ITS FALSE NEIGHBOUR: 'it returns false'. Refute it at one input. -/
def entryMakesWrong : ChangeSpec := { name := "entryMakes", fn := fun _ => fun
  | [d1, d2, d3] => { results := [.lit (.bool false)], args := [d1, d2, d3] }
  | _ => none }
def EntryMakesWrongFalsely : Prop := entryMakesRow.holds Try.pinned (OpenSpec.ofChange entryMakesWrong)

/-- 'purserlaw07.EntryOpens': WHATEVER THE INPUT: true; the input reads as it did. -/
def entryOpensSpec : ChangeSpec := { name := "entryOpens", fn := fun _ => fun
  | [d1, d2, d3] => { results := [.lit (.bool true)], args := [d1, d2, d3] }
  | _ => none }
def entryOpensRow : OpenClaim := { program := "ytlldecklngcklaa", sum := "c3d228805187487217dcfbced52b09308cd1b3ace3986b2db953a05bfb74fe55", func := "purser/purserlaw07.EntryOpens", spec := "entryOpens", unfollowed := true, recurses := true, plainKeys := false, apart := false }
def EntryOpensSaid : Prop := entryOpensRow.holds Try.pinned (OpenSpec.ofChange entryOpensSpec)

/-- ITS FALSE NEIGHBOUR: 'it returns false'. Refute it at one input. -/
def entryOpensWrong : ChangeSpec := { name := "entryOpens", fn := fun _ => fun
  | [d1, d2, d3] => { results := [.lit (.bool false)], args := [d1, d2, d3] }
  | _ => none }
def EntryOpensWrongFalsely : Prop := entryOpensRow.holds Try.pinned (OpenSpec.ofChange entryOpensWrong)

/-- 'purserlaw08.JournalJobs': WHATEVER THE INPUT: true; the input reads as it did. -/
def journalJobsSpec : ChangeSpec := { name := "journalJobs", fn := fun _ => fun
  | [d1, d2] => { results := [.lit (.bool true)], args := [d1, d2] }
  | _ => none }
def journalJobsRow : OpenClaim := { program := "ytlldecklngcklaa", sum := "c3d228805187487217dcfbced52b09308cd1b3ace3986b2db953a05bfb74fe55", func := "purser/purserlaw08.JournalJobs", spec := "journalJobs", unfollowed := true, recurses := true, plainKeys := false, apart := false }
def JournalJobsSaid : Prop := journalJobsRow.holds Try.pinned (OpenSpec.ofChange journalJobsSpec)

/-- ITS FALSE NEIGHBOUR: 'it returns false'. Refute it at one input. -/
def journalJobsWrong : ChangeSpec := { name := "journalJobs", fn := fun _ => fun
  | [d1, d2] => { results := [.lit (.bool false)], args := [d1, d2] }
  | _ => none }
def JournalJobsWrongFalsely : Prop := journalJobsRow.holds Try.pinned (OpenSpec.ofChange journalJobsWrong)

/-- 'purserlaw08.JournalBalanced': WHATEVER THE INPUT: true; the input reads as it did. -/
def journalBalancedSpec : ChangeSpec := { name := "journalBalanced", fn := fun _ => fun
  | [d] => { results := [.lit (.bool true)], args := [d] }
  | _ => none }
def journalBalancedRow : OpenClaim := { program := "ytlldecklngcklaa", sum := "c3d228805187487217dcfbced52b09308cd1b3ace3986b2db953a05bfb74fe55", func := "purser/purserlaw08.JournalBalanced", spec := "journalBalanced", unfollowed := true, recurses := true, plainKeys := false, apart := false }
def JournalBalancedSaid : Prop := journalBalancedRow.holds Try.pinned (OpenSpec.ofChange journalBalancedSpec)

/-- ITS FALSE NEIGHBOUR: 'it returns false'. Refute it at one input. -/
def journalBalancedWrong : ChangeSpec := { name := "journalBalanced", fn := fun _ => fun
  | [d] => { results := [.lit (.bool false)], args := [d] }
  | _ => none }
def JournalBalancedWrongFalsely : Prop := journalBalancedRow.holds Try.pinned (OpenSpec.ofChange journalBalancedWrong)

/-- 'purserlaw08.JournalFull': WHATEVER THE INPUT: true; the input reads as it did. -/
def journalFullSpec : ChangeSpec := { name := "journalFull", fn := fun _ => fun
  | [d1, d2] => { results := [.lit (.bool true)], args := [d1, d2] }
  | _ => none }
def journalFullRow : OpenClaim := { program := "ytlldecklngcklaa", sum := "c3d228805187487217dcfbced52b09308cd1b3ace3986b2db953a05bfb74fe55", func := "purser/purserlaw08.JournalFull", spec := "journalFull", unfollowed := true, recurses := true, plainKeys := false, apart := false }
def JournalFullSaid : Prop := journalFullRow.holds Try.pinned (OpenSpec.ofChange journalFullSpec)

/-- ITS FALSE NEIGHBOUR: 'it returns false'. Refute it at one input. -/
def journalFullWrong : ChangeSpec := { name := "journalFull", fn := fun _ => fun
  | [d1, d2] => { results := [.lit (.bool false)], args := [d1, d2] }
  | _ => none }
def JournalFullWrongFalsely : Prop := journalFullRow.holds Try.pinned (OpenSpec.ofChange journalFullWrong)

/-- 'purserlaw09.TariffBack': WHATEVER THE INPUT: true; the input reads as it did. -/
def tariffBackSpec : ChangeSpec := { name := "tariffBack", fn := fun _ => fun
  | [d] => { results := [.lit (.bool true)], args := [d] }
  | _ => none }
def tariffBackRow : OpenClaim := { program := "ytlldecklngcklaa", sum := "c3d228805187487217dcfbced52b09308cd1b3ace3986b2db953a05bfb74fe55", func := "purser/purserlaw09.TariffBack", spec := "tariffBack", plainKeys := false, apart := false }
def TariffBackSaid : Prop := tariffBackRow.holds Try.pinned (OpenSpec.ofChange tariffBackSpec)

/-- ITS FALSE NEIGHBOUR: 'it returns false'. Refute it at one input. -/
def tariffBackWrong : ChangeSpec := { name := "tariffBack", fn := fun _ => fun
  | [d] => { results := [.lit (.bool false)], args := [d] }
  | _ => none }
def TariffBackWrongFalsely : Prop := tariffBackRow.holds Try.pinned (OpenSpec.ofChange tariffBackWrong)

/-- 'purserlaw09.TariffReads': WHATEVER THE INPUT: true; the input reads as it did. -/
def tariffReadsSpec : ChangeSpec := { name := "tariffReads", fn := fun _ => fun
  | [d] => { results := [.lit (.bool true)], args := [d] }
  | _ => none }
def tariffReadsRow : OpenClaim := { program := "ytlldecklngcklaa", sum := "c3d228805187487217dcfbced52b09308cd1b3ace3986b2db953a05bfb74fe55", func := "purser/purserlaw09.TariffReads", spec := "tariffReads", plainKeys := false, apart := false }
def TariffReadsSaid : Prop := tariffReadsRow.holds Try.pinned (OpenSpec.ofChange tariffReadsSpec)

/-- ITS FALSE NEIGHBOUR: 'it returns false'. Refute it at one input. -/
def tariffReadsWrong : ChangeSpec := { name := "tariffReads", fn := fun _ => fun
  | [d] => { results := [.lit (.bool false)], args := [d] }
  | _ => none }
def TariffReadsWrongFalsely : Prop := tariffReadsRow.holds Try.pinned (OpenSpec.ofChange tariffReadsWrong)

/-- 'purserlaw12.RhythmVectors': WHATEVER THE INPUT: true; the input reads as it did. -/
def rhythmVectorsSpec : ChangeSpec := { name := "rhythmVectors", fn := fun _ => fun
  | [d] => { results := [.lit (.bool true)], args := [d] }
  | _ => none }
def rhythmVectorsRow : OpenClaim := { program := "ytlldecklngcklaa", sum := "c3d228805187487217dcfbced52b09308cd1b3ace3986b2db953a05bfb74fe55", func := "purser/purserlaw12.RhythmVectors", spec := "rhythmVectors", inPlace := ["math.Float64bits", "math.Float64frombits", "math/bits.Add64"], plainKeys := false, apart := false }
def RhythmVectorsSaid : Prop := rhythmVectorsRow.holds Try.pinned (OpenSpec.ofChange rhythmVectorsSpec)

/-- ITS FALSE NEIGHBOUR: 'it returns false'. Refute it at one input. -/
def rhythmVectorsWrong : ChangeSpec := { name := "rhythmVectors", fn := fun _ => fun
  | [d] => { results := [.lit (.bool false)], args := [d] }
  | _ => none }
def RhythmVectorsWrongFalsely : Prop := rhythmVectorsRow.holds Try.pinned (OpenSpec.ofChange rhythmVectorsWrong)

/-- 'purserlaw12.RhythmAdds': WHATEVER THE INPUT: true; the input reads as it did. -/
def rhythmAddsSpec : ChangeSpec := { name := "rhythmAdds", fn := fun _ => fun
  | [d1, d2, d3] => { results := [.lit (.bool true)], args := [d1, d2, d3] }
  | _ => none }
def rhythmAddsRow : OpenClaim := { program := "ytlldecklngcklaa", sum := "c3d228805187487217dcfbced52b09308cd1b3ace3986b2db953a05bfb74fe55", func := "purser/purserlaw12.RhythmAdds", spec := "rhythmAdds", inPlace := ["math.Float64bits", "math.Float64frombits", "math/bits.Add64"], plainKeys := false, apart := false }
def RhythmAddsSaid : Prop := rhythmAddsRow.holds Try.pinned (OpenSpec.ofChange rhythmAddsSpec)

/-- ITS FALSE NEIGHBOUR: 'it returns false'. Refute it at one input. -/
def rhythmAddsWrong : ChangeSpec := { name := "rhythmAdds", fn := fun _ => fun
  | [d1, d2, d3] => { results := [.lit (.bool false)], args := [d1, d2, d3] }
  | _ => none }
def RhythmAddsWrongFalsely : Prop := rhythmAddsRow.holds Try.pinned (OpenSpec.ofChange rhythmAddsWrong)

/-- 'purserlaw12.RhythmTurns': WHATEVER THE INPUT: true; the input reads as it did. -/
def rhythmTurnsSpec : ChangeSpec := { name := "rhythmTurns", fn := fun _ => fun
  | [d1, d2] => { results := [.lit (.bool true)], args := [d1, d2] }
  | _ => none }
def rhythmTurnsRow : OpenClaim := { program := "ytlldecklngcklaa", sum := "c3d228805187487217dcfbced52b09308cd1b3ace3986b2db953a05bfb74fe55", func := "purser/purserlaw12.RhythmTurns", spec := "rhythmTurns", inPlace := ["math.Float64bits", "math.Float64frombits", "math/bits.Add64"], plainKeys := false, apart := false }
def RhythmTurnsSaid : Prop := rhythmTurnsRow.holds Try.pinned (OpenSpec.ofChange rhythmTurnsSpec)

/-- ITS FALSE NEIGHBOUR: 'it returns false'. Refute it at one input. -/
def rhythmTurnsWrong : ChangeSpec := { name := "rhythmTurns", fn := fun _ => fun
  | [d1, d2] => { results := [.lit (.bool false)], args := [d1, d2] }
  | _ => none }
def RhythmTurnsWrongFalsely : Prop := rhythmTurnsRow.holds Try.pinned (OpenSpec.ofChange rhythmTurnsWrong)

/-- 'purserlaw12.RhythmJoins': WHATEVER THE INPUT: true; the input reads as it did. -/
def rhythmJoinsSpec : ChangeSpec := { name := "rhythmJoins", fn := fun _ => fun
  | [d1, d2, d3] => { results := [.lit (.bool true)], args := [d1, d2, d3] }
  | _ => none }
def rhythmJoinsRow : OpenClaim := { program := "ytlldecklngcklaa", sum := "c3d228805187487217dcfbced52b09308cd1b3ace3986b2db953a05bfb74fe55", func := "purser/purserlaw12.RhythmJoins", spec := "rhythmJoins", inPlace := ["math.Float64bits", "math.Float64frombits"], plainKeys := false, apart := false }
def RhythmJoinsSaid : Prop := rhythmJoinsRow.holds Try.pinned (OpenSpec.ofChange rhythmJoinsSpec)

/-- ITS FALSE NEIGHBOUR: 'it returns false'. Refute it at one input. -/
def rhythmJoinsWrong : ChangeSpec := { name := "rhythmJoins", fn := fun _ => fun
  | [d1, d2, d3] => { results := [.lit (.bool false)], args := [d1, d2, d3] }
  | _ => none }
def RhythmJoinsWrongFalsely : Prop := rhythmJoinsRow.holds Try.pinned (OpenSpec.ofChange rhythmJoinsWrong)

/- THE SECOND FORM. 'bulk': how many values and letters a reading holds, each counted each time it is reached (what is shared counts as often as it is met; a slice's spare places count too). A statement '..UptoSaid' is the law's where the arguments, and the package variables that the reading takes, are together of bulk at most 1048576: NARROWER than '..Said'. Prove '..Said' where nothing that the law and all that it calls make is longer than what came in: it says more and counts as full. Else prove '..UptoSaid'. A law counts once. -/
mutual
def uptoBulk {H : Type} : DataW H → Nat
  | .lit (.string bytes) => bytes.length + 1
  | .lit _ => 1
  | .nil => 1
  | .ptr d => uptoBulk d + 1
  | .slice elems spare => uptoBulkAll elems + uptoBulkAll spare + 1
  | .agg parts => uptoBulkAll parts + 1
  | .iface _ d => uptoBulk d + 1
  | .map entries => uptoBulkEntries entries + 1
  | .held _ => 1
def uptoBulkAll {H : Type} : List (DataW H) → Nat
  | [] => 0
  | d :: r => uptoBulk d + uptoBulkAll r
def uptoBulkEntries {H : Type} : List (Lit × DataW H) → Nat
  | [] => 0
  | x :: r => uptoBulkEntry x + uptoBulkEntries r
def uptoBulkEntry {H : Type} : Lit × DataW H → Nat
  | (.string bytes, d) => bytes.length + uptoBulk d + 1
  | (_, d) => uptoBulk d + 1
 end
def uptoSmall : (H : Type) → List (DataW H) → Bool := fun _ ds => decide (uptoBulkAll ds ≤ 1048576)
def OpenSpec.upto (s : _root_.Go.ChangeSpec) : _root_.Go.OpenSpec := { _root_.Go.OpenSpec.ofChange s with cond := some uptoSmall }

/-- 'purserlaw07.EntryChecks', WHERE WHAT IT READS IS OF BULK AT MOST 1048576: true; the input reads as it did. -/
def entryChecksUptoRow : OpenClaim := { program := "ytlldecklngcklaa", sum := "c3d228805187487217dcfbced52b09308cd1b3ace3986b2db953a05bfb74fe55", func := "purser/purserlaw07.EntryChecks", spec := "entryChecks", unfollowed := true, recurses := true, plainKeys := false, apart := false, narrowed := true }
def EntryChecksUptoSaid : Prop := entryChecksUptoRow.holds Try.pinned (OpenSpec.upto entryChecksSpec)

/-- 'purserlaw07.EntryMakes', WHERE WHAT IT READS IS OF BULK AT MOST 1048576: true; the input reads as it did. -/
def entryMakesUptoRow : OpenClaim := { program := "ytlldecklngcklaa", sum := "c3d228805187487217dcfbced52b09308cd1b3ace3986b2db953a05bfb74fe55", func := "purser/purserlaw07.EntryMakes", spec := "entryMakes", unfollowed := true, recurses := true, plainKeys := false, apart := false, narrowed := true }
def EntryMakesUptoSaid : Prop := entryMakesUptoRow.holds Try.pinned (OpenSpec.upto entryMakesSpec)

/-- 'purserlaw07.EntryOpens', WHERE WHAT IT READS IS OF BULK AT MOST 1048576: true; the input reads as it did. -/
def entryOpensUptoRow : OpenClaim := { program := "ytlldecklngcklaa", sum := "c3d228805187487217dcfbced52b09308cd1b3ace3986b2db953a05bfb74fe55", func := "purser/purserlaw07.EntryOpens", spec := "entryOpens", unfollowed := true, recurses := true, plainKeys := false, apart := false, narrowed := true }
def EntryOpensUptoSaid : Prop := entryOpensUptoRow.holds Try.pinned (OpenSpec.upto entryOpensSpec)

/-- 'purserlaw08.JournalJobs', WHERE WHAT IT READS IS OF BULK AT MOST 1048576: true; the input reads as it did. -/
def journalJobsUptoRow : OpenClaim := { program := "ytlldecklngcklaa", sum := "c3d228805187487217dcfbced52b09308cd1b3ace3986b2db953a05bfb74fe55", func := "purser/purserlaw08.JournalJobs", spec := "journalJobs", unfollowed := true, recurses := true, plainKeys := false, apart := false, narrowed := true }
def JournalJobsUptoSaid : Prop := journalJobsUptoRow.holds Try.pinned (OpenSpec.upto journalJobsSpec)

/-- 'purserlaw08.JournalBalanced', WHERE WHAT IT READS IS OF BULK AT MOST 1048576: true; the input reads as it did. -/
def journalBalancedUptoRow : OpenClaim := { program := "ytlldecklngcklaa", sum := "c3d228805187487217dcfbced52b09308cd1b3ace3986b2db953a05bfb74fe55", func := "purser/purserlaw08.JournalBalanced", spec := "journalBalanced", unfollowed := true, recurses := true, plainKeys := false, apart := false, narrowed := true }
def JournalBalancedUptoSaid : Prop := journalBalancedUptoRow.holds Try.pinned (OpenSpec.upto journalBalancedSpec)

/-- 'purserlaw08.JournalFull', WHERE WHAT IT READS IS OF BULK AT MOST 1048576: true; the input reads as it did. -/
def journalFullUptoRow : OpenClaim := { program := "ytlldecklngcklaa", sum := "c3d228805187487217dcfbced52b09308cd1b3ace3986b2db953a05bfb74fe55", func := "purser/purserlaw08.JournalFull", spec := "journalFull", unfollowed := true, recurses := true, plainKeys := false, apart := false, narrowed := true }
def JournalFullUptoSaid : Prop := journalFullUptoRow.holds Try.pinned (OpenSpec.upto journalFullSpec)

/-- 'purserlaw09.TariffBack', WHERE WHAT IT READS IS OF BULK AT MOST 1048576: true; the input reads as it did. -/
def tariffBackUptoRow : OpenClaim := { program := "ytlldecklngcklaa", sum := "c3d228805187487217dcfbced52b09308cd1b3ace3986b2db953a05bfb74fe55", func := "purser/purserlaw09.TariffBack", spec := "tariffBack", plainKeys := false, apart := false, narrowed := true }
def TariffBackUptoSaid : Prop := tariffBackUptoRow.holds Try.pinned (OpenSpec.upto tariffBackSpec)

/-- 'purserlaw09.TariffReads', WHERE WHAT IT READS IS OF BULK AT MOST 1048576: true; the input reads as it did. -/
def tariffReadsUptoRow : OpenClaim := { program := "ytlldecklngcklaa", sum := "c3d228805187487217dcfbced52b09308cd1b3ace3986b2db953a05bfb74fe55", func := "purser/purserlaw09.TariffReads", spec := "tariffReads", plainKeys := false, apart := false, narrowed := true }
def TariffReadsUptoSaid : Prop := tariffReadsUptoRow.holds Try.pinned (OpenSpec.upto tariffReadsSpec)

/-- 'purserlaw12.RhythmVectors', WHERE WHAT IT READS IS OF BULK AT MOST 1048576: true; the input reads as it did. -/
def rhythmVectorsUptoRow : OpenClaim := { program := "ytlldecklngcklaa", sum := "c3d228805187487217dcfbced52b09308cd1b3ace3986b2db953a05bfb74fe55", func := "purser/purserlaw12.RhythmVectors", spec := "rhythmVectors", inPlace := ["math.Float64bits", "math.Float64frombits", "math/bits.Add64"], plainKeys := false, apart := false, narrowed := true }
def RhythmVectorsUptoSaid : Prop := rhythmVectorsUptoRow.holds Try.pinned (OpenSpec.upto rhythmVectorsSpec)

/-- 'purserlaw12.RhythmAdds', WHERE WHAT IT READS IS OF BULK AT MOST 1048576: true; the input reads as it did. -/
def rhythmAddsUptoRow : OpenClaim := { program := "ytlldecklngcklaa", sum := "c3d228805187487217dcfbced52b09308cd1b3ace3986b2db953a05bfb74fe55", func := "purser/purserlaw12.RhythmAdds", spec := "rhythmAdds", inPlace := ["math.Float64bits", "math.Float64frombits", "math/bits.Add64"], plainKeys := false, apart := false, narrowed := true }
def RhythmAddsUptoSaid : Prop := rhythmAddsUptoRow.holds Try.pinned (OpenSpec.upto rhythmAddsSpec)

/-- 'purserlaw12.RhythmTurns', WHERE WHAT IT READS IS OF BULK AT MOST 1048576: true; the input reads as it did. -/
def rhythmTurnsUptoRow : OpenClaim := { program := "ytlldecklngcklaa", sum := "c3d228805187487217dcfbced52b09308cd1b3ace3986b2db953a05bfb74fe55", func := "purser/purserlaw12.RhythmTurns", spec := "rhythmTurns", inPlace := ["math.Float64bits", "math.Float64frombits", "math/bits.Add64"], plainKeys := false, apart := false, narrowed := true }
def RhythmTurnsUptoSaid : Prop := rhythmTurnsUptoRow.holds Try.pinned (OpenSpec.upto rhythmTurnsSpec)

/-- 'purserlaw12.RhythmJoins', WHERE WHAT IT READS IS OF BULK AT MOST 1048576: true; the input reads as it did. -/
def rhythmJoinsUptoRow : OpenClaim := { program := "ytlldecklngcklaa", sum := "c3d228805187487217dcfbced52b09308cd1b3ace3986b2db953a05bfb74fe55", func := "purser/purserlaw12.RhythmJoins", spec := "rhythmJoins", inPlace := ["math.Float64bits", "math.Float64frombits"], plainKeys := false, apart := false, narrowed := true }
def RhythmJoinsUptoSaid : Prop := rhythmJoinsUptoRow.holds Try.pinned (OpenSpec.upto rhythmJoinsSpec)

end Rows
end Go.Proofs.Ytlldecklngcklaa
