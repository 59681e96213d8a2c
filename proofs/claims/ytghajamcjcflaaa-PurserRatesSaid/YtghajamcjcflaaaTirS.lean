/- Tariffs: tame, with its capacity; a block's tier and a split, of whatever comes in. -/
import Derived.Test.YtghajamcjcflaaaTirQ
import Derived.Test.YtghajamcjcflaaaTirR
namespace Go.Proofs.Ytghajamcjcflaaa.tirw
open Go.RowKit mem tirm intm
set_option linter.unusedVariables false

theorem form_own2 {w : World} {base n size : Nat} {e : TypeId} {v : Value} {xs : List Value} (h : w.ownsRow base e size v n xs) (hne : v ≠ .slice none 0 0) : ∃ g cap, v = .slice (some ⟨g, 0, none⟩) n cap ∧ base ≤ g ∧ n ≤ cap ∧ cap ≤ 9223372036854775807 := by
  rcases h.2 with ⟨hv, _⟩ | ⟨g, cap, cur, hv, hg, hh, hc, hm, _⟩
  · exact absurd hv hne
  · exact ⟨g, cap, hv, hg, hc, by unfold maxLen at hm; omega⟩

def TamedAt2 (G M B : Int) (ts : List Tr) (w : World) (e : Ending) (w' : World) : Prop :=
  ∃ g cp, e = .returned (.agg #[.int .i64 G, .int .i64 M, .int .i64 B, .slice (some ⟨g, 0, none⟩) ts.length cp]) ∧ ReadsT w' (some ⟨g, 0, none⟩) ts.length ts ∧ (ts.length ≤ cp ∧ cp ≤ 9223372036854775807) ∧ w.heap.size ≤ g ∧ Only (fun _ => False) w w'

/-- a block's tier, of whatever comes in -/
def idxA (G M B : Int) (ts : List Tr) (n : Int) : Int := if n < 1 ∨ tchk G M B ts ≠ 0 then -1 else idxF n 0 ts
/-- the lines of a split, of whatever comes in; its error -/
def outB (p n : Int) : Prop := p < 0 ∨ 1099511627776 < p ∨ n < 0 ∨ 1073741824 < n
instance (p n : Int) : Decidable (outB p n) := inferInstanceAs (Decidable (_ ∨ _))
def splL (G M B : Int) (ts : List Tr) (p n : Int) : List Ln :=
  if tchk G M B ts ≠ 0 ∨ outB p n ∨ n = 0 then [] else if M = 2 then [⟨idxF (p + n) 0 ts, n, (ts.getD (idxF (p + n) 0 ts).toNat default).p⟩] else gradF (p + n) 0 p ts
def splE (G M B : Int) (ts : List Tr) (p n : Int) : Int := if tchk G M B ts ≠ 0 ∨ outB p n then 1 else 0
def SplitAt (ls : List Ln) (er : Int) (w : World) (e : Ending) (w' : World) : Prop :=
  ∃ a cap, e = .returned (.tuple #[.slice a ls.length cap, .int .i64 er]) ∧ ReadsN w' a ls.length ls ∧ Only (fun _ => False) w w'
theorem split_any (G M B : Int) (a : Option Addr) (len cap : Nat) (ts : List Tr) (p n : Int) (w : World) (h : ReadsT w a len ts) :
    Calls Try.prog 35 #[.agg #[.int .i64 G, .int .i64 M, .int .i64 B, .slice a len cap], .int .i64 p, .int .i64 n] w (SplitAt (splL G M B ts p n) (splE G M B ts p n) w) := by
  unfold splL splE
  by_cases hc : tchk G M B ts = 0
  · by_cases ho : outB p n
    · rw [if_pos (.inr (.inl ho)), if_pos (.inr ho)]
      exact (split_out G M B a len cap ts p n w h hc ho).mono fun e w' ⟨h1, h2⟩ => ⟨none, 0, h1, ⟨rfl, .inl rfl⟩, h2⟩
    · have hb : 0 ≤ p ∧ p ≤ 1099511627776 ∧ 0 ≤ n ∧ n ≤ 1073741824 := by unfold outB at ho; omega
      by_cases hn : n = 0
      · rw [if_pos (.inr (.inr hn)), if_neg (by rintro (e | e); exact e hc; exact ho e)]
        subst hn
        exact (split_zero G M B a len cap ts p w h hc hb.1 hb.2.1).mono fun e w' ⟨h1, h2⟩ => ⟨none, 0, h1, ⟨rfl, .inl rfl⟩, h2⟩
      · have e1 : ¬ (tchk G M B ts ≠ 0 ∨ outB p n ∨ n = 0) := fun e => e.elim (fun e => e hc) (fun e => e.elim ho hn)
        have e2 : ¬ (tchk G M B ts ≠ 0 ∨ outB p n) := fun e => e.elim (fun e => e hc) ho
        rw [if_neg e1, if_neg e2]
        have hM := ((tchk_ok G M B ts).1 hc).2.1
        by_cases h2 : M = 2
        · rw [if_pos h2]
          subst h2
          exact split_vol G B a len cap ts p n w h hc hb.1 hb.2.1 (by omega) hb.2.2.2
        · rw [if_neg h2]
          obtain rfl : M = 1 := by omega
          exact split_grad G B a len cap ts p n w h hc hb.1 hb.2.1 (by omega) hb.2.2.2
  · rw [if_pos (.inl hc), if_pos (.inl hc)]
    exact (split_no G M B a len cap ts p n w h hc).mono fun e w' ⟨h1, h2⟩ => ⟨none, 0, h1, ⟨rfl, .inl rfl⟩, h2⟩
end Go.Proofs.Ytghajamcjcflaaa.tirw
