/- Blocks of units, as mathematics. Rates: tame of a plan; what fits, as facts. Rates: what so many units come to, in all cases: the program's Rate; facts of it. -/
import Derived.Test.YtghajamcjcflaaaArBl
import Derived.Test.YtghajamcjcflaaaRatG
import Derived.Test.YtghajamcjcflaaaRatP
namespace Go.Proofs.Ytghajamcjcflaaa.tirw
open Go.RowKit mem tirm intm bigm bigw
set_option linter.unusedVariables false

theorem bk_mul {q B : Int} (hq : 0 ≤ q) (hB : 1 ≤ B) : bk (q * B) B = q := by
  unfold bk
  have h0 : 0 ≤ q * B := Int.mul_nonneg hq (by omega)
  rw [if_pos ⟨h0, hB⟩, if_pos (Int.mul_emod_left q B), Int.mul_ediv_cancel q (by omega)]
theorem bk_mul1 {q B : Int} (hq : 0 ≤ q) (hB : 1 ≤ B) : bk (q * B + 1) B = q + 1 := by
  unfold bk
  have h0 : 0 ≤ q * B := Int.mul_nonneg hq (by omega)
  rw [if_pos ⟨by omega, hB⟩]
  by_cases h1 : B = 1
  · subst h1
    rw [if_pos (Int.emod_one _), Int.ediv_one, Int.mul_one]
  · have h2 : (q * B + 1) / B = q := by
      rw [show q * B + 1 = 1 + q * B by omega, Int.add_mul_ediv_right _ _ (show B ≠ 0 by omega), Int.ediv_eq_zero_of_lt (by omega) (by omega)]
      omega
    have h3 := Int.mul_ediv_add_emod (q * B + 1) B
    rw [h2, Int.mul_comm B q] at h3
    rw [if_neg (by omega), h2]
theorem bk_lt {u B q : Int} (hu : 0 ≤ u) (hB : 1 ≤ B) (h : q < bk u B) : q * B < u := by
  unfold bk at h
  rw [if_pos ⟨hu, hB⟩] at h
  have h1 := Int.mul_ediv_add_emod u B
  have h3 := Int.emod_nonneg u (show B ≠ 0 by omega)
  generalize hr : u % B = r at *
  generalize u / B = e at *
  have hc : e * B = B * e := Int.mul_comm _ _
  by_cases h0 : r = 0
  · rw [if_pos h0] at h
    have h2 := Int.mul_le_mul_of_nonneg_right (show q + 1 ≤ e by omega) (show 0 ≤ B by omega)
    rw [Int.add_mul, Int.one_mul] at h2
    omega
  · rw [if_neg h0] at h
    have h2 := Int.mul_le_mul_of_nonneg_right (show q ≤ e by omega) (show 0 ≤ B by omega)
    omega
/-- no more units are no more blocks -/
theorem bk_mono {u v B : Int} (hu : 0 ≤ u) (h : u ≤ v) (hB : 1 ≤ B) : bk u B ≤ bk v B := by
  rcases Int.lt_or_le (bk v B) (bk u B) with e | e
  · exfalso
    have h1 := bk_lt hu hB e
    have hv : bk v B * B < v := by omega
    unfold bk at hv
    rw [if_pos ⟨by omega, hB⟩] at hv
    have h2 := Int.mul_ediv_add_emod v B
    have h4 := Int.emod_lt_of_pos v (show 0 < B by omega)
    have h3 := Int.emod_nonneg v (show B ≠ 0 by omega)
    have hc : v / B * B = B * (v / B) := Int.mul_comm _ _
    split at hv
    · omega
    · rw [Int.add_mul, Int.one_mul] at hv
      omega
  · exact e
end Go.Proofs.Ytghajamcjcflaaa.tirw

namespace Go.Proofs.Ytghajamcjcflaaa.tirw
open Go.RowKit mem tirm intm bigm bigw
set_option linter.unusedVariables false

/-- a plan that was tamed -/
def PTame (D F T G1 M1 B1 G2 M2 B2 : Int) (t1 t2 : List Tr) (w : World) (e : Ending) (w' : World) : Prop :=
  ∃ a3 a4 q3 q4, e = .returned (.agg #[.int .i64 D, .int .i64 F, .int .i64 T, .int .i64 G1, .int .i64 M1, .int .i64 B1, .slice a3 t1.length q3, .int .i64 G2, .int .i64 M2, .int .i64 B2, .slice a4 t2.length q4]) ∧ ReadsT w' a3 t1.length t1 ∧ ReadsT w' a4 t2.length t2 ∧ Only (fun _ => False) w w' ∧ (∀ y, a3 = some y → w.heap.size ≤ y.block) ∧ (∀ y, a4 = some y → w.heap.size ≤ y.block)
theorem ptame_mk {D F T G1 M1 B1 G2 M2 B2 : Int} {t1 t2 : List Tr} {k1 k2 : Nat} (l1 : t1.length = k1) (l2 : t2.length = k2) {w : World} : ∀ a3 a4 q3 q4 w', ReadsT w' a3 k1 t1 → ReadsT w' a4 k2 t2 → Only (fun _ => False) w w' → (∀ y, a3 = some y → w.heap.size ≤ y.block) → (∀ y, a4 = some y → w.heap.size ≤ y.block) → PTame D F T G1 M1 B1 G2 M2 B2 t1 t2 w (.returned (.agg #[.int .i64 D, .int .i64 F, .int .i64 T, .int .i64 G1, .int .i64 M1, .int .i64 B1, .slice a3 k1 q3, .int .i64 G2, .int .i64 M2, .int .i64 B2, .slice a4 k2 q4])) w' := by
  subst l1 l2
  intro a3 a4 q3 q4 w' h1 h2 h3 h4 h5
  exact ⟨a3, a4, q3, q4, rfl, h1, h2, h3, h4, h5⟩
theorem three {w : World} {a : Option Addr} {len cap : Nat} {ts : List Tr} (h : TiersR w a len cap ts) : (a = none ∧ len = 0 ∧ cap = 0 ∧ ts.take (min len 9) = []) ∨ (∃ x, a = some x ∧ ((len : Int) ≤ 9 ∧ (0 : Int) ≤ len ∧ (len : Int) ≤ cap ∧ ReadsT w (some x) len (ts.take (min len 9)) ∧ (ts.take (min len 9)).length = len ∨ (9 : Int) < len ∧ (0 : Int) ≤ len ∧ (9 : Int) ≤ cap ∧ (len : Int) ≤ cap ∧ ReadsT w (some x) 9 (ts.take (min len 9)) ∧ (ts.take (min len 9)).length = 9)) := by
  obtain ⟨hr, hlc, hcm, hnone⟩ := h
  have hR := hr.take (min len 9) (by omega)
  rcases a with _ | x
  · obtain rfl := hnone rfl
    obtain rfl : len = 0 := by omega
    exact .inl ⟨rfl, rfl, rfl, List.eq_nil_of_length_eq_zero hR.1⟩
  · refine .inr ⟨x, rfl, ?_⟩
    rcases Nat.lt_or_ge 9 len with g | g
    · right
      have e : min len 9 = 9 := by omega
      rw [e] at hR ⊢
      exact ⟨by omega, by omega, by omega, by omega, hR, hR.1⟩
    · left
      have e : min len 9 = len := by omega
      rw [e] at hR ⊢
      exact ⟨by omega, by omega, by omega, hR, hR.1⟩
theorem can_less {D F T G1 M1 B1 G2 M2 B2 : Int} {t1 t2 : List Tr} {u v : Int} (h : CanP D F T G1 M1 B1 G2 M2 B2 t1 t2 u) (h0 : 0 ≤ v) (h1 : v ≤ u) : CanP D F T G1 M1 B1 G2 M2 B2 t1 t2 v := ⟨h0, by have := h.2.1; omega, h.2.2⟩
theorem fit_none {D F T G1 M1 B1 G2 M2 B2 : Int} {t1 t2 : List Tr} {cr u : Int} (h : FitNo D F T G1 M1 B1 G2 M2 B2 t1 t2 cr u) : fitU D F T G1 M1 B1 G2 M2 B2 t1 t2 cr u = 0 ∧ fitC D F T G1 M1 B1 G2 M2 B2 t1 t2 cr u = 0 ∧ fitE D F T G1 M1 B1 G2 M2 B2 t1 t2 cr u = 1 := by
  unfold fitU fitC fitE
  rw [if_pos h, if_pos h, if_pos h]
  exact ⟨rfl, rfl, rfl⟩
/-- what fits costs at most the credit; one unit more doesn't fit, or wasn't wanted -/
theorem fit_facts {D F T G1 M1 B1 G2 M2 B2 : Int} {t1 t2 : List Tr} {cr u : Int} (h : ¬ FitNo D F T G1 M1 B1 G2 M2 B2 t1 t2 cr u) : fitE D F T G1 M1 B1 G2 M2 B2 t1 t2 cr u = 0 ∧ ∃ n c, fitU D F T G1 M1 B1 G2 M2 B2 t1 t2 cr u = n ∧ fitC D F T G1 M1 B1 G2 M2 B2 t1 t2 cr u = c ∧ 0 ≤ n ∧ n ≤ u ∧ u ≤ 1073741824 ∧ 0 ≤ c ∧ c ≤ cr ∧ CanP D F T G1 M1 B1 G2 M2 B2 t1 t2 n ∧ worN D F T G1 M1 B1 G2 M2 B2 t1 t2 n = c ∧ worE D F T G1 M1 B1 G2 M2 B2 t1 t2 n = 0 ∧ (n = u ∨ n < u ∧ worE D F T G1 M1 B1 G2 M2 B2 t1 t2 (n + 1) = 0 ∧ cr < worN D F T G1 M1 B1 G2 M2 B2 t1 t2 (n + 1)) := by
  have hc : CanP D F T G1 M1 B1 G2 M2 B2 t1 t2 u := Decidable.byContradiction fun e => h (.inl e)
  have h0 : 0 ≤ cr := Int.not_lt.1 fun e => h (.inr e)
  obtain ⟨⟨c1', c2'⟩, ⟨b1, b2⟩, d1, d2⟩ := can_facts hc
  obtain ⟨e1, e2⟩ := bk_in c1' b1
  unfold fitE fitU fitC
  rw [if_neg h, if_neg h, if_neg h]
  refine ⟨rfl, ?_⟩
  by_cases hle : bk u B1 * dearP t1 t2 ≤ cr
  · rw [if_pos hle, if_pos hle]
    refine ⟨u, _, rfl, rfl, c1', Int.le_refl _, c2', Int.mul_nonneg e1 d1, hle, hc, ?_, ?_, .inl rfl⟩
    · unfold worN; rw [if_pos hc]
    · unfold worE; rw [if_pos hc]
  · rw [if_neg hle, if_neg hle]
    obtain ⟨f1, f2, f3, f4, f5⟩ := fit_less (k := bk u B1) (d := dearP t1 t2) (cr := cr) (by omega) (by omega) d1
    have hlt := bk_lt c1' b1 f3
    have hq0 : 0 ≤ cr / dearP t1 t2 * B1 := Int.mul_nonneg f2 (by omega)
    have hk1 : CanP D F T G1 M1 B1 G2 M2 B2 t1 t2 (cr / dearP t1 t2 * B1) := can_less hc hq0 (by omega)
    have hk2 : CanP D F T G1 M1 B1 G2 M2 B2 t1 t2 (cr / dearP t1 t2 * B1 + 1) := can_less hc (by omega) (by omega)
    refine ⟨_, _, rfl, rfl, hq0, by omega, c2', Int.mul_nonneg f2 d1, f4, hk1, ?_, ?_, .inr ⟨hlt, ?_, ?_⟩⟩
    · unfold worN; rw [if_pos hk1, bk_mul f2 b1]
    · unfold worE; rw [if_pos hk1]
    · unfold worE; rw [if_pos hk2]
    · unfold worN; rw [if_pos hk2, bk_mul1 f2 b1]; exact f5
end Go.Proofs.Ytghajamcjcflaaa.tirw

namespace Go.Proofs.Ytghajamcjcflaaa.tirw
open Go.RowKit mem tirm intm bigm bigw
set_option linter.unusedVariables false

/-- it isn't told -/
def RatNo (D F T G1 M1 B1 G2 M2 B2 : Int) (t1 t2 : List Tr) (now pos u : Int) : Prop := now < 0 ∨ ¬ CanP D F T G1 M1 B1 G2 M2 B2 t1 t2 u ∨ outB pos (bk u B1)
instance (D F T G1 M1 B1 G2 M2 B2 : Int) (t1 t2 : List Tr) (now pos u : Int) : Decidable (RatNo D F T G1 M1 B1 G2 M2 B2 t1 t2 now pos u) := inferInstanceAs (Decidable (_ ∨ _ ∨ _))
def raL (D F T G1 M1 B1 G2 M2 B2 : Int) (t1 t2 : List Tr) (now pos u : Int) : List Ln := if RatNo D F T G1 M1 B1 G2 M2 B2 t1 t2 now pos u then [] else if isO D F T now = true then splL G2 M2 B2 t2 pos (bk u B1) else splL G1 M1 B1 t1 pos (bk u B1)
def raK (D F T G1 M1 B1 G2 M2 B2 : Int) (t1 t2 : List Tr) (now pos u : Int) : Int := if RatNo D F T G1 M1 B1 G2 M2 B2 t1 t2 now pos u then 0 else bk u B1
def raP (D F T G1 M1 B1 G2 M2 B2 : Int) (t1 t2 : List Tr) (now pos u : Int) : Int := if RatNo D F T G1 M1 B1 G2 M2 B2 t1 t2 now pos u then 0 else pos + bk u B1
def raE (D F T G1 M1 B1 G2 M2 B2 : Int) (t1 t2 : List Tr) (now pos u : Int) : Int := if RatNo D F T G1 M1 B1 G2 M2 B2 t1 t2 now pos u then 1 else 0
theorem ra_no {D F T G1 M1 B1 G2 M2 B2 : Int} {t1 t2 : List Tr} {now pos u : Int} (h : RatNo D F T G1 M1 B1 G2 M2 B2 t1 t2 now pos u) : raL D F T G1 M1 B1 G2 M2 B2 t1 t2 now pos u = [] ∧ raK D F T G1 M1 B1 G2 M2 B2 t1 t2 now pos u = 0 ∧ raP D F T G1 M1 B1 G2 M2 B2 t1 t2 now pos u = 0 ∧ raE D F T G1 M1 B1 G2 M2 B2 t1 t2 now pos u = 1 := by
  unfold raL raK raP raE
  rw [if_pos h, if_pos h, if_pos h, if_pos h]
  exact ⟨rfl, rfl, rfl, rfl⟩
/-- the tariff of the time -/
theorem ra_side {D F T G1 M1 B1 G2 M2 B2 : Int} {t1 t2 : List Tr} {now pos u : Int} (h : ¬ RatNo D F T G1 M1 B1 G2 M2 B2 t1 t2 now pos u) : 0 ≤ now ∧ CanP D F T G1 M1 B1 G2 M2 B2 t1 t2 u ∧ ¬ outB pos (bk u B1) ∧ raK D F T G1 M1 B1 G2 M2 B2 t1 t2 now pos u = bk u B1 ∧ raP D F T G1 M1 B1 G2 M2 B2 t1 t2 now pos u = pos + bk u B1 ∧ raE D F T G1 M1 B1 G2 M2 B2 t1 t2 now pos u = 0 ∧ tchk G1 M1 B1 t1 = 0 ∧ (isO D F T now = false ∧ raL D F T G1 M1 B1 G2 M2 B2 t1 t2 now pos u = splL G1 M1 B1 t1 pos (bk u B1) ∨ isO D F T now = true ∧ D ≠ 0 ∧ B1 = B2 ∧ tchk G2 M2 B2 t2 = 0 ∧ raL D F T G1 M1 B1 G2 M2 B2 t1 t2 now pos u = splL G2 M2 B2 t2 pos (bk u B1)) := by
  have h1 : 0 ≤ now := Int.not_lt.1 fun e => h (.inl e)
  have h2 : CanP D F T G1 M1 B1 G2 M2 B2 t1 t2 u := Decidable.byContradiction fun e => h (.inr (.inl e))
  have h3 : ¬ outB pos (bk u B1) := fun e => h (.inr (.inr e))
  obtain ⟨k1, kk⟩ := pchk_ok h2.2.2
  unfold raL raK raP raE
  rw [if_neg h, if_neg h, if_neg h, if_neg h]
  refine ⟨h1, h2, h3, rfl, rfl, rfl, k1, ?_⟩
  cases hi : isO D F T now
  · left; exact ⟨rfl, by rw [if_neg (by decide)]⟩
  · right
    rcases kk with e | e
    · rw [e.1, isO_zero] at hi; cases hi
    · exact ⟨rfl, e.1, e.2.2.2.2, e.2.2.1, by rw [if_pos rfl]⟩
theorem rate_any (D F T G1 M1 B1 G2 M2 B2 : Int) (a1 a2 : Option Addr) (n1 n2 c1 c2 : Nat) (t1 t2 : List Tr) (now pos u : Int) (w : World) (h1 : ReadsT w a1 n1 t1) (h2 : ReadsT w a2 n2 t2) (hx : now ≤ 9223372036854775807) :
    Calls Try.prog 25 #[.agg #[.int .i64 D, .int .i64 F, .int .i64 T, .int .i64 G1, .int .i64 M1, .int .i64 B1, .slice a1 n1 c1, .int .i64 G2, .int .i64 M2, .int .i64 B2, .slice a2 n2 c2], .int .i64 now, .int .i64 pos, .int .i64 u] w (RateAt (raL D F T G1 M1 B1 G2 M2 B2 t1 t2 now pos u) (raK D F T G1 M1 B1 G2 M2 B2 t1 t2 now pos u) (costB (raL D F T G1 M1 B1 G2 M2 B2 t1 t2 now pos u)) (raP D F T G1 M1 B1 G2 M2 B2 t1 t2 now pos u) (raE D F T G1 M1 B1 G2 M2 B2 t1 t2 now pos u) w) := by
  by_cases hn : now < 0 ∨ ¬ CanP D F T G1 M1 B1 G2 M2 B2 t1 t2 u
  · have hr : RatNo D F T G1 M1 B1 G2 M2 B2 t1 t2 now pos u := hn.elim .inl (fun e => .inr (.inl e))
    obtain ⟨e1, e2, e3, e4⟩ := ra_no hr
    rw [e1, e2, e3, e4]
    exact rate_no D F T G1 M1 B1 G2 M2 B2 a1 a2 n1 n2 c1 c2 t1 t2 now pos u w h1 h2 hn
  · have h0 : 0 ≤ now := Int.not_lt.1 fun e => hn (.inl e)
    have hc : CanP D F T G1 M1 B1 G2 M2 B2 t1 t2 u := Decidable.byContradiction fun e => hn (.inr e)
    obtain ⟨k1, kk⟩ := pchk_ok hc.2.2
    by_cases ho : outB pos (bk u B1)
    · have hr : RatNo D F T G1 M1 B1 G2 M2 B2 t1 t2 now pos u := .inr (.inr ho)
      obtain ⟨e1, e2, e3, e4⟩ := ra_no hr
      rw [e1, e2, e3, e4]
      cases hi : isO D F T now
      · have := rate_base D F T G1 M1 B1 G2 M2 B2 a1 a2 n1 n2 c1 c2 t1 t2 now pos u _ 1 _ w h1 h2 h0 hx hc hi rfl rfl (by unfold splE; rw [if_pos (.inr ho)]) k1
        rwa [if_neg (by decide)] at this
      · rcases kk with e | e
        · rw [e.1, isO_zero] at hi; cases hi
        · have := rate_other D F T G1 M1 B1 G2 M2 B2 a1 a2 n1 n2 c1 c2 t1 t2 now pos u _ 1 _ w h1 h2 h0 hx hc hi rfl rfl (by rw [← e.2.2.2.2]; unfold splE; rw [if_pos (.inr ho)]) e.2.2.1
          rwa [if_neg (by decide)] at this
    · have hr : ¬ RatNo D F T G1 M1 B1 G2 M2 B2 t1 t2 now pos u := fun e => e.elim (fun e => by omega) (fun e => e.elim (fun e => e hc) ho)
      obtain ⟨_, _, _, e2, e3, e4, _, hs⟩ := ra_side hr
      rw [e2, e3, e4]
      rcases hs with ⟨hi, e1⟩ | ⟨hi, _, hB, hc2, e1⟩
      · rw [e1]
        have := rate_base D F T G1 M1 B1 G2 M2 B2 a1 a2 n1 n2 c1 c2 t1 t2 now pos u _ 0 _ w h1 h2 h0 hx hc hi rfl rfl (spl_err k1 ho) k1
        rwa [if_pos rfl] at this
      · rw [e1]
        have := rate_other D F T G1 M1 B1 G2 M2 B2 a1 a2 n1 n2 c1 c2 t1 t2 now pos u _ 0 _ w h1 h2 h0 hx hc hi rfl rfl (by rw [← hB]; rw [← hB] at hc2; exact spl_err hc2 ho) hc2
        rw [if_pos rfl, ← hB] at this
        rw [← hB]
        exact this
/-- what is told: lines that cost at most the worst -/
theorem ra_facts {D F T G1 M1 B1 G2 M2 B2 : Int} {t1 t2 : List Tr} {now pos u : Int} (h : ¬ RatNo D F T G1 M1 B1 G2 M2 B2 t1 t2 now pos u) : costOk (raL D F T G1 M1 B1 G2 M2 B2 t1 t2 now pos u) = true ∧ costN (raL D F T G1 M1 B1 G2 M2 B2 t1 t2 now pos u) = costB (raL D F T G1 M1 B1 G2 M2 B2 t1 t2 now pos u) ∧ 0 ≤ costB (raL D F T G1 M1 B1 G2 M2 B2 t1 t2 now pos u) ∧ costB (raL D F T G1 M1 B1 G2 M2 B2 t1 t2 now pos u) ≤ bk u B1 * dearP t1 t2 ∧ LnsI (raL D F T G1 M1 B1 G2 M2 B2 t1 t2 now pos u) ∧ sumB (raL D F T G1 M1 B1 G2 M2 B2 t1 t2 now pos u) = bk u B1 ∧ (raL D F T G1 M1 B1 G2 M2 B2 t1 t2 now pos u).length ≤ 1000 := by
  obtain ⟨_, hc, ho, _, _, _, k1, hs⟩ := ra_side h
  obtain ⟨⟨u1, u2⟩, ⟨b1, b2⟩, d1, d2⟩ := can_facts hc
  obtain ⟨e1, e2⟩ := bk_in u1 b1
  have hd : dearF 0 t1 ≤ dearP t1 t2 ∧ dearF 0 t2 ≤ dearP t1 t2 := by unfold dearP; omega
  rcases hs with ⟨_, e⟩ | ⟨_, _, hB, k2, e⟩
  · rw [e]
    obtain ⟨p1, p2, p3, p4, _⟩ := spl_cost k1 ho
    obtain ⟨_, _, _, hl, _⟩ := (tchk_ok G1 M1 B1 t1).1 k1
    exact ⟨p1, p2, p3, Int.le_trans p4 (Int.mul_le_mul_of_nonneg_left hd.1 e1), spl_ints k1 ho, (spl_facts k1 ho).2, spl_len (by omega)⟩
  · rw [e]
    obtain ⟨p1, p2, p3, p4, _⟩ := spl_cost k2 ho
    obtain ⟨_, _, _, hl, _⟩ := (tchk_ok G2 M2 B2 t2).1 k2
    exact ⟨p1, p2, p3, Int.le_trans p4 (Int.mul_le_mul_of_nonneg_left hd.2 e1), spl_ints k2 ho, (spl_facts k2 ho).2, spl_len (by omega)⟩
theorem ra_len (D F T G1 M1 B1 G2 M2 B2 : Int) (t1 t2 : List Tr) (now pos u : Int) : (raL D F T G1 M1 B1 G2 M2 B2 t1 t2 now pos u).length ≤ 1000 ∧ LnsI (raL D F T G1 M1 B1 G2 M2 B2 t1 t2 now pos u) := by
  by_cases h : RatNo D F T G1 M1 B1 G2 M2 B2 t1 t2 now pos u
  · rw [(ra_no h).1]; exact ⟨Nat.zero_le _, fun x hx => by cases hx⟩
  · exact ⟨(ra_facts h).2.2.2.2.2.2, (ra_facts h).2.2.2.2.1⟩
end Go.Proofs.Ytghajamcjcflaaa.tirw

