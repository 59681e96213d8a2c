/-
  No cell of these rows narrows 'for every input' (looked for: loops, veiled, ifaces, maps, wideKeys, modest, calm, conditions, laid).
  DERIVED. THE GIVEN ROWS OF THIS SEAT. 5 by the template 'for every input the law returns true; each argument reads behind the call as it read before'; 0 by the template 'total and deterministic' (their statements: YtiohdfplgpmcdaaTotals.lean).
  GIVEN WITH THE SEED: the statements are not yours to turn. If you find one false, say at which input.
  Laid BY PROGRAM, IN A SANDBOX (cutbox-rows.mjs): the forced cells as the released guide's own fill.sh prints them over the translation 631d2c7f8000dde9… (all of the seat's roots in one cut). By AI agents, Wed Nov 11 2026. No macro, syntax, notation, axiom, sorry.
-/
import Derived.Test.YtiohdfplgpmcdaaChecked
import GoSem.Claim
import GoSem.ClaimJoined
import GoSem.ClaimMapViews
import Derived.JoinedTies
import Derived.KernelRfl
namespace Go.Proofs.Ytiohdfplgpmcdaa
/- THE CELL 'sum', in the pinned program and in every row, IS THE sha256 OF THE DUMP (.gsa) THAT YtiohdfplgpmcdaaProg.lean LOADS. Nothing in Lean hashes anything: it is a label: what it is worth is what the hold of that sum in a sandbox is worth. -/
noncomputable def Try.pinned : Pinned := { name := "ytiohdfplgpmcdaa", sum := "631d2c7f8000dde9c7c011ddd44163cb400811e3685d05ca00f87e70fd6a79c5", checked := Try.checked }
namespace Rows
def none {H : Type} : Left H := { results := [], args := [] }

/-- 'purserlaw19.TimerActs': WHATEVER THE INPUT: true; the input reads as it did. -/
def timerActsSpec : ChangeSpec := { name := "timerActs", fn := fun _ => fun
  | [d1, d2] => { results := [.lit (.bool true)], args := [d1, d2] }
  | _ => none }
def timerActsRow : OpenClaim := { program := "ytiohdfplgpmcdaa", sum := "631d2c7f8000dde9c7c011ddd44163cb400811e3685d05ca00f87e70fd6a79c5", func := "purser/purserlaw19.TimerActs", spec := "timerActs", inPlace := ["slices.overlaps[purser/timer.timed]"], unfollowed := true, recurses := true, apart := false }
def TimerActsSaid : Prop := timerActsRow.holds Try.pinned (OpenSpec.ofChange timerActsSpec)

/-- ITS FALSE NEIGHBOUR: 'it returns false'. Refute it at one input. -/
def timerActsWrong : ChangeSpec := { name := "timerActs", fn := fun _ => fun
  | [d1, d2] => { results := [.lit (.bool false)], args := [d1, d2] }
  | _ => none }
def TimerActsWrongFalsely : Prop := timerActsRow.holds Try.pinned (OpenSpec.ofChange timerActsWrong)

/-- 'purserlaw17.CreditTurns': WHATEVER THE INPUT: true; the input reads as it did. -/
def creditTurnsSpec : ChangeSpec := { name := "creditTurns", fn := fun _ => fun
  | [d1, d2] => { results := [.lit (.bool true)], args := [d1, d2] }
  | _ => none }
def creditTurnsRow : OpenClaim := { program := "ytiohdfplgpmcdaa", sum := "631d2c7f8000dde9c7c011ddd44163cb400811e3685d05ca00f87e70fd6a79c5", func := "purser/purserlaw17.CreditTurns", spec := "creditTurns", unfollowed := true, recurses := true, apart := false }
def CreditTurnsSaid : Prop := creditTurnsRow.holds Try.pinned (OpenSpec.ofChange creditTurnsSpec)

/-- ITS FALSE NEIGHBOUR: 'it returns false'. Refute it at one input. -/
def creditTurnsWrong : ChangeSpec := { name := "creditTurns", fn := fun _ => fun
  | [d1, d2] => { results := [.lit (.bool false)], args := [d1, d2] }
  | _ => none }
def CreditTurnsWrongFalsely : Prop := creditTurnsRow.holds Try.pinned (OpenSpec.ofChange creditTurnsWrong)

/-- 'purserlaw18.WindowKnown': WHATEVER THE INPUT: true; the input reads as it did. -/
def windowKnownSpec : ChangeSpec := { name := "windowKnown", fn := fun _ => fun
  | [d1, d2, d3] => { results := [.lit (.bool true)], args := [d1, d2, d3] }
  | _ => none }
def windowKnownRow : OpenClaim := { program := "ytiohdfplgpmcdaa", sum := "631d2c7f8000dde9c7c011ddd44163cb400811e3685d05ca00f87e70fd6a79c5", func := "purser/purserlaw18.WindowKnown", spec := "windowKnown", unfollowed := true, recurses := true, apart := false }
def WindowKnownSaid : Prop := windowKnownRow.holds Try.pinned (OpenSpec.ofChange windowKnownSpec)

/-- ITS FALSE NEIGHBOUR: 'it returns false'. Refute it at one input. -/
def windowKnownWrong : ChangeSpec := { name := "windowKnown", fn := fun _ => fun
  | [d1, d2, d3] => { results := [.lit (.bool false)], args := [d1, d2, d3] }
  | _ => none }
def WindowKnownWrongFalsely : Prop := windowKnownRow.holds Try.pinned (OpenSpec.ofChange windowKnownWrong)

/-- 'purserlaw18.WindowSparse': WHATEVER THE INPUT: true; the input reads as it did. -/
def windowSparseSpec : ChangeSpec := { name := "windowSparse", fn := fun _ => fun
  | [d1, d2, d3] => { results := [.lit (.bool true)], args := [d1, d2, d3] }
  | _ => none }
def windowSparseRow : OpenClaim := { program := "ytiohdfplgpmcdaa", sum := "631d2c7f8000dde9c7c011ddd44163cb400811e3685d05ca00f87e70fd6a79c5", func := "purser/purserlaw18.WindowSparse", spec := "windowSparse", unfollowed := true, recurses := true, apart := false }
def WindowSparseSaid : Prop := windowSparseRow.holds Try.pinned (OpenSpec.ofChange windowSparseSpec)

/-- ITS FALSE NEIGHBOUR: 'it returns false'. Refute it at one input. -/
def windowSparseWrong : ChangeSpec := { name := "windowSparse", fn := fun _ => fun
  | [d1, d2, d3] => { results := [.lit (.bool false)], args := [d1, d2, d3] }
  | _ => none }
def WindowSparseWrongFalsely : Prop := windowSparseRow.holds Try.pinned (OpenSpec.ofChange windowSparseWrong)

/-- 'purserlaw18.WindowActs': WHATEVER THE INPUT: true; the input reads as it did. -/
def windowActsSpec : ChangeSpec := { name := "windowActs", fn := fun _ => fun
  | [d1, d2, d3] => { results := [.lit (.bool true)], args := [d1, d2, d3] }
  | _ => none }
def windowActsRow : OpenClaim := { program := "ytiohdfplgpmcdaa", sum := "631d2c7f8000dde9c7c011ddd44163cb400811e3685d05ca00f87e70fd6a79c5", func := "purser/purserlaw18.WindowActs", spec := "windowActs", unfollowed := true, recurses := true, apart := false }
def WindowActsSaid : Prop := windowActsRow.holds Try.pinned (OpenSpec.ofChange windowActsSpec)

/-- ITS FALSE NEIGHBOUR: 'it returns false'. Refute it at one input. -/
def windowActsWrong : ChangeSpec := { name := "windowActs", fn := fun _ => fun
  | [d1, d2, d3] => { results := [.lit (.bool false)], args := [d1, d2, d3] }
  | _ => none }
def WindowActsWrongFalsely : Prop := windowActsRow.holds Try.pinned (OpenSpec.ofChange windowActsWrong)

/- THE SECOND FORM. 'bulk': how many values and letters a reading holds, each counted each time it is reached (what is shared counts as often as it is met; a slice's spare places count too). A statement '..UptoSaid' is the law's where the arguments, and the package variables that the reading takes, are together of bulk at most 1048576: NARROWER than '..Said'. Prove '..Said' where nothing that the law and all that it calls make is longer than what came in: it says more and counts as full. Else prove '..UptoSaid'. A law counts once. -/
mutual
def uptoBulk {H : Type} : DataW H → Nat
  | .lit (.string bytes) => bytes.length + 1
  | .lit _ => 1
  | .nil => 1
  | .ptr d => uptoBulk d + 1
  | .slice elems spare => uptoBulkAll elems + uptoBulkAll spare + 1
  | .agg parts => uptoBulkAll parts + 1
  | .iface _ d => uptoBulk d + 1
  | .map entries => uptoBulkEntries entries + 1
  | .held _ => 1
def uptoBulkAll {H : Type} : List (DataW H) → Nat
  | [] => 0
  | d :: r => uptoBulk d + uptoBulkAll r
def uptoBulkEntries {H : Type} : List (Lit × DataW H) → Nat
  | [] => 0
  | x :: r => uptoBulkEntry x + uptoBulkEntries r
def uptoBulkEntry {H : Type} : Lit × DataW H → Nat
  | (.string bytes, d) => bytes.length + uptoBulk d + 1
  | (_, d) => uptoBulk d + 1
 end
def uptoSmall : (H : Type) → List (DataW H) → Bool := fun _ ds => decide (uptoBulkAll ds ≤ 1048576)
def OpenSpec.upto (s : _root_.Go.ChangeSpec) : _root_.Go.OpenSpec := { _root_.Go.OpenSpec.ofChange s with cond := some uptoSmall }

/-- 'purserlaw19.TimerActs', WHERE WHAT IT READS IS OF BULK AT MOST 1048576: true; the input reads as it did. -/
def timerActsUptoRow : OpenClaim := { program := "ytiohdfplgpmcdaa", sum := "631d2c7f8000dde9c7c011ddd44163cb400811e3685d05ca00f87e70fd6a79c5", func := "purser/purserlaw19.TimerActs", spec := "timerActs", inPlace := ["slices.overlaps[purser/timer.timed]"], unfollowed := true, recurses := true, apart := false, narrowed := true }
def TimerActsUptoSaid : Prop := timerActsUptoRow.holds Try.pinned (OpenSpec.upto timerActsSpec)

/-- 'purserlaw17.CreditTurns', WHERE WHAT IT READS IS OF BULK AT MOST 1048576: true; the input reads as it did. -/
def creditTurnsUptoRow : OpenClaim := { program := "ytiohdfplgpmcdaa", sum := "631d2c7f8000dde9c7c011ddd44163cb400811e3685d05ca00f87e70fd6a79c5", func := "purser/purserlaw17.CreditTurns", spec := "creditTurns", unfollowed := true, recurses := true, apart := false, narrowed := true }
def CreditTurnsUptoSaid : Prop := creditTurnsUptoRow.holds Try.pinned (OpenSpec.upto creditTurnsSpec)

/-- 'purserlaw18.WindowKnown', WHERE WHAT IT READS IS OF BULK AT MOST 1048576: true; the input reads as it did. -/
def windowKnownUptoRow : OpenClaim := { program := "ytiohdfplgpmcdaa", sum := "631d2c7f8000dde9c7c011ddd44163cb400811e3685d05ca00f87e70fd6a79c5", func := "purser/purserlaw18.WindowKnown", spec := "windowKnown", unfollowed := true, recurses := true, apart := false, narrowed := true }
def WindowKnownUptoSaid : Prop := windowKnownUptoRow.holds Try.pinned (OpenSpec.upto windowKnownSpec)

/-- 'purserlaw18.WindowSparse', WHERE WHAT IT READS IS OF BULK AT MOST 1048576: true; the input reads as it did. -/
def windowSparseUptoRow : OpenClaim := { program := "ytiohdfplgpmcdaa", sum := "631d2c7f8000dde9c7c011ddd44163cb400811e3685d05ca00f87e70fd6a79c5", func := "purser/purserlaw18.WindowSparse", spec := "windowSparse", unfollowed := true, recurses := true, apart := false, narrowed := true }
def WindowSparseUptoSaid : Prop := windowSparseUptoRow.holds Try.pinned (OpenSpec.upto windowSparseSpec)

/-- 'purserlaw18.WindowActs', WHERE WHAT IT READS IS OF BULK AT MOST 1048576: true; the input reads as it did. -/
def windowActsUptoRow : OpenClaim := { program := "ytiohdfplgpmcdaa", sum := "631d2c7f8000dde9c7c011ddd44163cb400811e3685d05ca00f87e70fd6a79c5", func := "purser/purserlaw18.WindowActs", spec := "windowActs", unfollowed := true, recurses := true, apart := false, narrowed := true }
def WindowActsUptoSaid : Prop := windowActsUptoRow.holds Try.pinned (OpenSpec.upto windowActsSpec)

end Rows
end Go.Proofs.Ytiohdfplgpmcdaa
