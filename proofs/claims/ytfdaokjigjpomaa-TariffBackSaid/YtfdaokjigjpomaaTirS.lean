/- Tariffs: tame, with its capacity; a block's tier and a split, of whatever comes in. -/
import Derived.Test.YtfdaokjigjpomaaTirQ
import Derived.Test.YtfdaokjigjpomaaTirR
namespace Go.Proofs.Ytfdaokjigjpomaa.tirw
open Go.RowKit mem tirm intm
set_option linter.unusedVariables false

theorem form_own2 {w : World} {base n size : Nat} {e : TypeId} {v : Value} {xs : List Value} (h : w.ownsRow base e size v n xs) (hne : v ≠ .slice none 0 0) : ∃ g cap, v = .slice (some ⟨g, 0, none⟩) n cap ∧ base ≤ g ∧ n ≤ cap ∧ cap ≤ 9223372036854775807 := by
  rcases h.2 with ⟨hv, _⟩ | ⟨g, cap, cur, hv, hg, hh, hc, hm, _⟩
  · exact absurd hv hne
  · exact ⟨g, cap, hv, hg, hc, by unfold maxLen at hm; omega⟩

def TamedAt2 (G M B : Int) (ts : List Tr) (w : World) (e : Ending) (w' : World) : Prop :=
  ∃ g cp, e = .returned (.agg #[.int .i64 G, .int .i64 M, .int .i64 B, .slice (some ⟨g, 0, none⟩) ts.length cp]) ∧ ReadsT w' (some ⟨g, 0, none⟩) ts.length ts ∧ (ts.length ≤ cp ∧ cp ≤ 9223372036854775807) ∧ w.heap.size ≤ g ∧ Only (fun _ => False) w w'

/-- a block's tier, of whatever comes in -/
def idxA (G M B : Int) (ts : List Tr) (n : Int) : Int := if n < 1 ∨ tchk G M B ts ≠ 0 then -1 else idxF n 0 ts
/-- the lines of a split, of whatever comes in; its error -/
def outB (p n : Int) : Prop := p < 0 ∨ 1099511627776 < p ∨ n < 0 ∨ 1073741824 < n
instance (p n : Int) : Decidable (outB p n) := inferInstanceAs (Decidable (_ ∨ _))
def splL (G M B : Int) (ts : List Tr) (p n : Int) : List Ln :=
  if tchk G M B ts ≠ 0 ∨ outB p n ∨ n = 0 then [] else if M = 2 then [⟨idxF (p + n) 0 ts, n, (ts.getD (idxF (p + n) 0 ts).toNat default).p⟩] else gradF (p + n) 0 p ts
def splE (G M B : Int) (ts : List Tr) (p n : Int) : Int := if tchk G M B ts ≠ 0 ∨ outB p n then 1 else 0
def SplitAt (ls : List Ln) (er : Int) (w : World) (e : Ending) (w' : World) : Prop :=
  ∃ a cap, e = .returned (.tuple #[.slice a ls.length cap, .int .i64 er]) ∧ ReadsN w' a ls.length ls ∧ Only (fun _ => False) w w'
end Go.Proofs.Ytfdaokjigjpomaa.tirw
