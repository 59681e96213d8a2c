/-
  No cell of these rows narrows 'for every input' (looked for: loops, veiled, ifaces, maps, wideKeys, modest, calm, conditions, laid).
  DERIVED. THE GIVEN ROWS OF THIS SEAT. 6 by the template 'for every input the law returns true; each argument reads behind the call as it read before'; 0 by the template 'total and deterministic' (their statements: YtpjbgcbjelcnbaaTotals.lean).
  GIVEN WITH THE SEED: the statements are not yours to turn. If you find one false, say at which input.
  Laid BY PROGRAM, IN A SANDBOX (cutbox-rows.mjs): the forced cells as the released guide's own fill.sh prints them over the translation f8a8c0f7edb1ba0e… (all of the seat's roots in one cut). By AI agents, Wed Nov 11 2026. No macro, syntax, notation, axiom, sorry.
-/
import Derived.Test.YtpjbgcbjelcnbaaChecked
import GoSem.Claim
import GoSem.ClaimJoined
import GoSem.ClaimMapViews
import Derived.JoinedTies
import Derived.KernelRfl
namespace Go.Proofs.Ytpjbgcbjelcnbaa
/- THE CELL 'sum', in the pinned program and in every row, IS THE sha256 OF THE DUMP (.gsa) THAT YtpjbgcbjelcnbaaProg.lean LOADS. Nothing in Lean hashes anything: it is a label: what it is worth is what the hold of that sum in a sandbox is worth. -/
noncomputable def Try.pinned : Pinned := { name := "ytpjbgcbjelcnbaa", sum := "f8a8c0f7edb1ba0e734eb302de24228c45bfffcb2a2961efb2b451dd2ecbb25d", checked := Try.checked }
namespace Rows
def none {H : Type} : Left H := { results := [], args := [] }

/-- 'purserlaw17.CreditActs': WHATEVER THE INPUT: true; the input reads as it did. -/
def creditActsSpec : ChangeSpec := { name := "creditActs", fn := fun _ => fun
  | [d1, d2, d3] => { results := [.lit (.bool true)], args := [d1, d2, d3] }
  | _ => none }
def creditActsRow : OpenClaim := { program := "ytpjbgcbjelcnbaa", sum := "f8a8c0f7edb1ba0e734eb302de24228c45bfffcb2a2961efb2b451dd2ecbb25d", func := "purser/purserlaw17.CreditActs", spec := "creditActs", inPlace := ["math/bits.Add64"], unfollowed := true, recurses := true, apart := false }
def CreditActsSaid : Prop := creditActsRow.holds Try.pinned (OpenSpec.ofChange creditActsSpec)

/-- ITS FALSE NEIGHBOUR: 'it returns false'. Refute it at one input. -/
def creditActsWrong : ChangeSpec := { name := "creditActs", fn := fun _ => fun
  | [d1, d2, d3] => { results := [.lit (.bool false)], args := [d1, d2, d3] }
  | _ => none }
def CreditActsWrongFalsely : Prop := creditActsRow.holds Try.pinned (OpenSpec.ofChange creditActsWrong)

/-- 'purserlaw17.CreditBack': WHATEVER THE INPUT: true; the input reads as it did. -/
def creditBackSpec : ChangeSpec := { name := "creditBack", fn := fun _ => fun
  | [d1, d2, d3] => { results := [.lit (.bool true)], args := [d1, d2, d3] }
  | _ => none }
def creditBackRow : OpenClaim := { program := "ytpjbgcbjelcnbaa", sum := "f8a8c0f7edb1ba0e734eb302de24228c45bfffcb2a2961efb2b451dd2ecbb25d", func := "purser/purserlaw17.CreditBack", spec := "creditBack", inPlace := ["math/bits.Add64"], unfollowed := true, recurses := true, apart := false }
def CreditBackSaid : Prop := creditBackRow.holds Try.pinned (OpenSpec.ofChange creditBackSpec)

/-- ITS FALSE NEIGHBOUR: 'it returns false'. Refute it at one input. -/
def creditBackWrong : ChangeSpec := { name := "creditBack", fn := fun _ => fun
  | [d1, d2, d3] => { results := [.lit (.bool false)], args := [d1, d2, d3] }
  | _ => none }
def CreditBackWrongFalsely : Prop := creditBackRow.holds Try.pinned (OpenSpec.ofChange creditBackWrong)

/-- 'purserlaw17.CreditReads': WHATEVER THE INPUT: true; the input reads as it did. -/
def creditReadsSpec : ChangeSpec := { name := "creditReads", fn := fun _ => fun
  | [d] => { results := [.lit (.bool true)], args := [d] }
  | _ => none }
def creditReadsRow : OpenClaim := { program := "ytpjbgcbjelcnbaa", sum := "f8a8c0f7edb1ba0e734eb302de24228c45bfffcb2a2961efb2b451dd2ecbb25d", func := "purser/purserlaw17.CreditReads", spec := "creditReads", inPlace := ["math/bits.Add64"], unfollowed := true, recurses := true, apart := false }
def CreditReadsSaid : Prop := creditReadsRow.holds Try.pinned (OpenSpec.ofChange creditReadsSpec)

/-- ITS FALSE NEIGHBOUR: 'it returns false'. Refute it at one input. -/
def creditReadsWrong : ChangeSpec := { name := "creditReads", fn := fun _ => fun
  | [d] => { results := [.lit (.bool false)], args := [d] }
  | _ => none }
def CreditReadsWrongFalsely : Prop := creditReadsRow.holds Try.pinned (OpenSpec.ofChange creditReadsWrong)

/-- 'purserlaw18.WindowActs': WHATEVER THE INPUT: true; the input reads as it did. -/
def windowActsSpec : ChangeSpec := { name := "windowActs", fn := fun _ => fun
  | [d1, d2, d3] => { results := [.lit (.bool true)], args := [d1, d2, d3] }
  | _ => none }
def windowActsRow : OpenClaim := { program := "ytpjbgcbjelcnbaa", sum := "f8a8c0f7edb1ba0e734eb302de24228c45bfffcb2a2961efb2b451dd2ecbb25d", func := "purser/purserlaw18.WindowActs", spec := "windowActs", unfollowed := true, recurses := true, apart := false }
def WindowActsSaid : Prop := windowActsRow.holds Try.pinned (OpenSpec.ofChange windowActsSpec)

/-- ITS FALSE NEIGHBOUR: 'it returns false'. Refute it at one input. -/
def windowActsWrong : ChangeSpec := { name := "windowActs", fn := fun _ => fun
  | [d1, d2, d3] => { results := [.lit (.bool false)], args := [d1, d2, d3] }
  | _ => none }
def WindowActsWrongFalsely : Prop := windowActsRow.holds Try.pinned (OpenSpec.ofChange windowActsWrong)

/-- 'purserlaw18.WindowBack': WHATEVER THE INPUT: true; the input reads as it did. -/
def windowBackSpec : ChangeSpec := { name := "windowBack", fn := fun _ => fun
  | [d1, d2, d3] => { results := [.lit (.bool true)], args := [d1, d2, d3] }
  | _ => none }
def windowBackRow : OpenClaim := { program := "ytpjbgcbjelcnbaa", sum := "f8a8c0f7edb1ba0e734eb302de24228c45bfffcb2a2961efb2b451dd2ecbb25d", func := "purser/purserlaw18.WindowBack", spec := "windowBack", unfollowed := true, recurses := true, apart := false }
def WindowBackSaid : Prop := windowBackRow.holds Try.pinned (OpenSpec.ofChange windowBackSpec)

/-- ITS FALSE NEIGHBOUR: 'it returns false'. Refute it at one input. -/
def windowBackWrong : ChangeSpec := { name := "windowBack", fn := fun _ => fun
  | [d1, d2, d3] => { results := [.lit (.bool false)], args := [d1, d2, d3] }
  | _ => none }
def WindowBackWrongFalsely : Prop := windowBackRow.holds Try.pinned (OpenSpec.ofChange windowBackWrong)

/-- 'purserlaw18.WindowReads': WHATEVER THE INPUT: true; the input reads as it did. -/
def windowReadsSpec : ChangeSpec := { name := "windowReads", fn := fun _ => fun
  | [d] => { results := [.lit (.bool true)], args := [d] }
  | _ => none }
def windowReadsRow : OpenClaim := { program := "ytpjbgcbjelcnbaa", sum := "f8a8c0f7edb1ba0e734eb302de24228c45bfffcb2a2961efb2b451dd2ecbb25d", func := "purser/purserlaw18.WindowReads", spec := "windowReads", unfollowed := true, recurses := true, apart := false }
def WindowReadsSaid : Prop := windowReadsRow.holds Try.pinned (OpenSpec.ofChange windowReadsSpec)

/-- ITS FALSE NEIGHBOUR: 'it returns false'. Refute it at one input. -/
def windowReadsWrong : ChangeSpec := { name := "windowReads", fn := fun _ => fun
  | [d] => { results := [.lit (.bool false)], args := [d] }
  | _ => none }
def WindowReadsWrongFalsely : Prop := windowReadsRow.holds Try.pinned (OpenSpec.ofChange windowReadsWrong)

/- THE SECOND FORM. 'bulk': how many values and letters a reading holds, each counted each time it is reached (what is shared counts as often as it is met; a slice's spare places count too). A statement '..UptoSaid' is the law's where the arguments, and the package variables that the reading takes, are together of bulk at most 1048576: NARROWER than '..Said'. Prove '..Said' where nothing that the law and all that it calls make is longer than what came in: it says more and counts as full. Else prove '..UptoSaid'. A law counts once. -/
mutual
def uptoBulk {H : Type} : DataW H → Nat
  | .lit (.string bytes) => bytes.length + 1
  | .lit _ => 1
  | .nil => 1
  | .ptr d => uptoBulk d + 1
  | .slice elems spare => uptoBulkAll elems + uptoBulkAll spare + 1
  | .agg parts => uptoBulkAll parts + 1
  | .iface _ d => uptoBulk d + 1
  | .map entries => uptoBulkEntries entries + 1
  | .held _ => 1
def uptoBulkAll {H : Type} : List (DataW H) → Nat
  | [] => 0
  | d :: r => uptoBulk d + uptoBulkAll r
def uptoBulkEntries {H : Type} : List (Lit × DataW H) → Nat
  | [] => 0
  | x :: r => uptoBulkEntry x + uptoBulkEntries r
def uptoBulkEntry {H : Type} : Lit × DataW H → Nat
  | (.string bytes, d) => bytes.length + uptoBulk d + 1
  | (_, d) => uptoBulk d + 1
 end
def uptoSmall : (H : Type) → List (DataW H) → Bool := fun _ ds => decide (uptoBulkAll ds ≤ 1048576)
def OpenSpec.upto (s : _root_.Go.ChangeSpec) : _root_.Go.OpenSpec := { _root_.Go.OpenSpec.ofChange s with cond := some uptoSmall }

/-- 'purserlaw17.CreditActs', WHERE WHAT IT READS IS OF BULK AT MOST 1048576: true; the input reads as it did. -/
def creditActsUptoRow : OpenClaim := { program := "ytpjbgcbjelcnbaa", sum := "f8a8c0f7edb1ba0e734eb302de24228c45bfffcb2a2961efb2b451dd2ecbb25d", func := "purser/purserlaw17.CreditActs", spec := "creditActs", inPlace := ["math/bits.Add64"], unfollowed := true, recurses := true, apart := false, narrowed := true }
def CreditActsUptoSaid : Prop := creditActsUptoRow.holds Try.pinned (OpenSpec.upto creditActsSpec)

/-- 'purserlaw17.CreditBack', WHERE WHAT IT READS IS OF BULK AT MOST 1048576: true; the input reads as it did. -/
def creditBackUptoRow : OpenClaim := { program := "ytpjbgcbjelcnbaa", sum := "f8a8c0f7edb1ba0e734eb302de24228c45bfffcb2a2961efb2b451dd2ecbb25d", func := "purser/purserlaw17.CreditBack", spec := "creditBack", inPlace := ["math/bits.Add64"], unfollowed := true, recurses := true, apart := false, narrowed := true }
def CreditBackUptoSaid : Prop := creditBackUptoRow.holds Try.pinned (OpenSpec.upto creditBackSpec)

/-- 'purserlaw17.CreditReads', WHERE WHAT IT READS IS OF BULK AT MOST 1048576: true; the input reads as it did. -/
def creditReadsUptoRow : OpenClaim := { program := "ytpjbgcbjelcnbaa", sum := "f8a8c0f7edb1ba0e734eb302de24228c45bfffcb2a2961efb2b451dd2ecbb25d", func := "purser/purserlaw17.CreditReads", spec := "creditReads", inPlace := ["math/bits.Add64"], unfollowed := true, recurses := true, apart := false, narrowed := true }
def CreditReadsUptoSaid : Prop := creditReadsUptoRow.holds Try.pinned (OpenSpec.upto creditReadsSpec)

/-- 'purserlaw18.WindowActs', WHERE WHAT IT READS IS OF BULK AT MOST 1048576: true; the input reads as it did. -/
def windowActsUptoRow : OpenClaim := { program := "ytpjbgcbjelcnbaa", sum := "f8a8c0f7edb1ba0e734eb302de24228c45bfffcb2a2961efb2b451dd2ecbb25d", func := "purser/purserlaw18.WindowActs", spec := "windowActs", unfollowed := true, recurses := true, apart := false, narrowed := true }
def WindowActsUptoSaid : Prop := windowActsUptoRow.holds Try.pinned (OpenSpec.upto windowActsSpec)

/-- 'purserlaw18.WindowBack', WHERE WHAT IT READS IS OF BULK AT MOST 1048576: true; the input reads as it did. -/
def windowBackUptoRow : OpenClaim := { program := "ytpjbgcbjelcnbaa", sum := "f8a8c0f7edb1ba0e734eb302de24228c45bfffcb2a2961efb2b451dd2ecbb25d", func := "purser/purserlaw18.WindowBack", spec := "windowBack", unfollowed := true, recurses := true, apart := false, narrowed := true }
def WindowBackUptoSaid : Prop := windowBackUptoRow.holds Try.pinned (OpenSpec.upto windowBackSpec)

/-- 'purserlaw18.WindowReads', WHERE WHAT IT READS IS OF BULK AT MOST 1048576: true; the input reads as it did. -/
def windowReadsUptoRow : OpenClaim := { program := "ytpjbgcbjelcnbaa", sum := "f8a8c0f7edb1ba0e734eb302de24228c45bfffcb2a2961efb2b451dd2ecbb25d", func := "purser/purserlaw18.WindowReads", spec := "windowReads", unfollowed := true, recurses := true, apart := false, narrowed := true }
def WindowReadsUptoSaid : Prop := windowReadsUptoRow.holds Try.pinned (OpenSpec.upto windowReadsSpec)

end Rows
end Go.Proofs.Ytpjbgcbjelcnbaa
