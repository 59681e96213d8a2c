/- Rates: what so many units come to, in all cases: the program's Rate; facts of it. -/
import Derived.Test.YtonacdjaimokeaaRatQ
namespace Go.Proofs.Ytonacdjaimokeaa.tirw
open Go.RowKit mem tirm intm bigm bigw
set_option linter.unusedVariables false

/-- it isn't told -/
def RatNo (D F T G1 M1 B1 G2 M2 B2 : Int) (t1 t2 : List Tr) (now pos u : Int) : Prop := now < 0 ∨ ¬ CanP D F T G1 M1 B1 G2 M2 B2 t1 t2 u ∨ outB pos (bk u B1)
instance (D F T G1 M1 B1 G2 M2 B2 : Int) (t1 t2 : List Tr) (now pos u : Int) : Decidable (RatNo D F T G1 M1 B1 G2 M2 B2 t1 t2 now pos u) := inferInstanceAs (Decidable (_ ∨ _ ∨ _))
def raL (D F T G1 M1 B1 G2 M2 B2 : Int) (t1 t2 : List Tr) (now pos u : Int) : List Ln := if RatNo D F T G1 M1 B1 G2 M2 B2 t1 t2 now pos u then [] else if isO D F T now = true then splL G2 M2 B2 t2 pos (bk u B1) else splL G1 M1 B1 t1 pos (bk u B1)
def raK (D F T G1 M1 B1 G2 M2 B2 : Int) (t1 t2 : List Tr) (now pos u : Int) : Int := if RatNo D F T G1 M1 B1 G2 M2 B2 t1 t2 now pos u then 0 else bk u B1
def raP (D F T G1 M1 B1 G2 M2 B2 : Int) (t1 t2 : List Tr) (now pos u : Int) : Int := if RatNo D F T G1 M1 B1 G2 M2 B2 t1 t2 now pos u then 0 else pos + bk u B1
def raE (D F T G1 M1 B1 G2 M2 B2 : Int) (t1 t2 : List Tr) (now pos u : Int) : Int := if RatNo D F T G1 M1 B1 G2 M2 B2 t1 t2 now pos u then 1 else 0
theorem ra_no {D F T G1 M1 B1 G2 M2 B2 : Int} {t1 t2 : List Tr} {now pos u : Int} (h : RatNo D F T G1 M1 B1 G2 M2 B2 t1 t2 now pos u) : raL D F T G1 M1 B1 G2 M2 B2 t1 t2 now pos u = [] ∧ raK D F T G1 M1 B1 G2 M2 B2 t1 t2 now pos u = 0 ∧ raP D F T G1 M1 B1 G2 M2 B2 t1 t2 now pos u = 0 ∧ raE D F T G1 M1 B1 G2 M2 B2 t1 t2 now pos u = 1 := by
  unfold raL raK raP raE
  rw [if_pos h, if_pos h, if_pos h, if_pos h]
  exact ⟨rfl, rfl, rfl, rfl⟩
/-- the tariff of the time -/
theorem ra_side {D F T G1 M1 B1 G2 M2 B2 : Int} {t1 t2 : List Tr} {now pos u : Int} (h : ¬ RatNo D F T G1 M1 B1 G2 M2 B2 t1 t2 now pos u) : 0 ≤ now ∧ CanP D F T G1 M1 B1 G2 M2 B2 t1 t2 u ∧ ¬ outB pos (bk u B1) ∧ raK D F T G1 M1 B1 G2 M2 B2 t1 t2 now pos u = bk u B1 ∧ raP D F T G1 M1 B1 G2 M2 B2 t1 t2 now pos u = pos + bk u B1 ∧ raE D F T G1 M1 B1 G2 M2 B2 t1 t2 now pos u = 0 ∧ tchk G1 M1 B1 t1 = 0 ∧ (isO D F T now = false ∧ raL D F T G1 M1 B1 G2 M2 B2 t1 t2 now pos u = splL G1 M1 B1 t1 pos (bk u B1) ∨ isO D F T now = true ∧ D ≠ 0 ∧ B1 = B2 ∧ tchk G2 M2 B2 t2 = 0 ∧ raL D F T G1 M1 B1 G2 M2 B2 t1 t2 now pos u = splL G2 M2 B2 t2 pos (bk u B1)) := by
  have h1 : 0 ≤ now := Int.not_lt.1 fun e => h (.inl e)
  have h2 : CanP D F T G1 M1 B1 G2 M2 B2 t1 t2 u := Decidable.byContradiction fun e => h (.inr (.inl e))
  have h3 : ¬ outB pos (bk u B1) := fun e => h (.inr (.inr e))
  obtain ⟨k1, kk⟩ := pchk_ok h2.2.2
  unfold raL raK raP raE
  rw [if_neg h, if_neg h, if_neg h, if_neg h]
  refine ⟨h1, h2, h3, rfl, rfl, rfl, k1, ?_⟩
  cases hi : isO D F T now
  · left; exact ⟨rfl, by rw [if_neg (by decide)]⟩
  · right
    rcases kk with e | e
    · rw [e.1, isO_zero] at hi; cases hi
    · exact ⟨rfl, e.1, e.2.2.2.2, e.2.2.1, by rw [if_pos rfl]⟩
theorem rate_any (D F T G1 M1 B1 G2 M2 B2 : Int) (a1 a2 : Option Addr) (n1 n2 c1 c2 : Nat) (t1 t2 : List Tr) (now pos u : Int) (w : World) (h1 : ReadsT w a1 n1 t1) (h2 : ReadsT w a2 n2 t2) (hx : now ≤ 9223372036854775807) :
    Calls Try.prog 17 #[.agg #[.int .i64 D, .int .i64 F, .int .i64 T, .int .i64 G1, .int .i64 M1, .int .i64 B1, .slice a1 n1 c1, .int .i64 G2, .int .i64 M2, .int .i64 B2, .slice a2 n2 c2], .int .i64 now, .int .i64 pos, .int .i64 u] w (RateAt (raL D F T G1 M1 B1 G2 M2 B2 t1 t2 now pos u) (raK D F T G1 M1 B1 G2 M2 B2 t1 t2 now pos u) (costB (raL D F T G1 M1 B1 G2 M2 B2 t1 t2 now pos u)) (raP D F T G1 M1 B1 G2 M2 B2 t1 t2 now pos u) (raE D F T G1 M1 B1 G2 M2 B2 t1 t2 now pos u) w) := by
  by_cases hn : now < 0 ∨ ¬ CanP D F T G1 M1 B1 G2 M2 B2 t1 t2 u
  · have hr : RatNo D F T G1 M1 B1 G2 M2 B2 t1 t2 now pos u := hn.elim .inl (fun e => .inr (.inl e))
    obtain ⟨e1, e2, e3, e4⟩ := ra_no hr
    rw [e1, e2, e3, e4]
    exact rate_no D F T G1 M1 B1 G2 M2 B2 a1 a2 n1 n2 c1 c2 t1 t2 now pos u w h1 h2 hn
  · have h0 : 0 ≤ now := Int.not_lt.1 fun e => hn (.inl e)
    have hc : CanP D F T G1 M1 B1 G2 M2 B2 t1 t2 u := Decidable.byContradiction fun e => hn (.inr e)
    obtain ⟨k1, kk⟩ := pchk_ok hc.2.2
    by_cases ho : outB pos (bk u B1)
    · have hr : RatNo D F T G1 M1 B1 G2 M2 B2 t1 t2 now pos u := .inr (.inr ho)
      obtain ⟨e1, e2, e3, e4⟩ := ra_no hr
      rw [e1, e2, e3, e4]
      cases hi : isO D F T now
      · have := rate_base D F T G1 M1 B1 G2 M2 B2 a1 a2 n1 n2 c1 c2 t1 t2 now pos u _ 1 _ w h1 h2 h0 hx hc hi rfl rfl (by unfold splE; rw [if_pos (.inr ho)]) k1
        rwa [if_neg (by decide)] at this
      · rcases kk with e | e
        · rw [e.1, isO_zero] at hi; cases hi
        · have := rate_other D F T G1 M1 B1 G2 M2 B2 a1 a2 n1 n2 c1 c2 t1 t2 now pos u _ 1 _ w h1 h2 h0 hx hc hi rfl rfl (by rw [← e.2.2.2.2]; unfold splE; rw [if_pos (.inr ho)]) e.2.2.1
          rwa [if_neg (by decide)] at this
    · have hr : ¬ RatNo D F T G1 M1 B1 G2 M2 B2 t1 t2 now pos u := fun e => e.elim (fun e => by omega) (fun e => e.elim (fun e => e hc) ho)
      obtain ⟨_, _, _, e2, e3, e4, _, hs⟩ := ra_side hr
      rw [e2, e3, e4]
      rcases hs with ⟨hi, e1⟩ | ⟨hi, _, hB, hc2, e1⟩
      · rw [e1]
        have := rate_base D F T G1 M1 B1 G2 M2 B2 a1 a2 n1 n2 c1 c2 t1 t2 now pos u _ 0 _ w h1 h2 h0 hx hc hi rfl rfl (spl_err k1 ho) k1
        rwa [if_pos rfl] at this
      · rw [e1]
        have := rate_other D F T G1 M1 B1 G2 M2 B2 a1 a2 n1 n2 c1 c2 t1 t2 now pos u _ 0 _ w h1 h2 h0 hx hc hi rfl rfl (by rw [← hB]; rw [← hB] at hc2; exact spl_err hc2 ho) hc2
        rw [if_pos rfl, ← hB] at this
        rw [← hB]
        exact this
/-- what is told: lines that cost at most the worst -/
theorem ra_facts {D F T G1 M1 B1 G2 M2 B2 : Int} {t1 t2 : List Tr} {now pos u : Int} (h : ¬ RatNo D F T G1 M1 B1 G2 M2 B2 t1 t2 now pos u) : costOk (raL D F T G1 M1 B1 G2 M2 B2 t1 t2 now pos u) = true ∧ costN (raL D F T G1 M1 B1 G2 M2 B2 t1 t2 now pos u) = costB (raL D F T G1 M1 B1 G2 M2 B2 t1 t2 now pos u) ∧ 0 ≤ costB (raL D F T G1 M1 B1 G2 M2 B2 t1 t2 now pos u) ∧ costB (raL D F T G1 M1 B1 G2 M2 B2 t1 t2 now pos u) ≤ bk u B1 * dearP t1 t2 ∧ LnsI (raL D F T G1 M1 B1 G2 M2 B2 t1 t2 now pos u) ∧ sumB (raL D F T G1 M1 B1 G2 M2 B2 t1 t2 now pos u) = bk u B1 ∧ (raL D F T G1 M1 B1 G2 M2 B2 t1 t2 now pos u).length ≤ 1000 := by
  obtain ⟨_, hc, ho, _, _, _, k1, hs⟩ := ra_side h
  obtain ⟨⟨u1, u2⟩, ⟨b1, b2⟩, d1, d2⟩ := can_facts hc
  obtain ⟨e1, e2⟩ := bk_in u1 b1
  have hd : dearF 0 t1 ≤ dearP t1 t2 ∧ dearF 0 t2 ≤ dearP t1 t2 := by unfold dearP; omega
  rcases hs with ⟨_, e⟩ | ⟨_, _, hB, k2, e⟩
  · rw [e]
    obtain ⟨p1, p2, p3, p4, _⟩ := spl_cost k1 ho
    obtain ⟨_, _, _, hl, _⟩ := (tchk_ok G1 M1 B1 t1).1 k1
    exact ⟨p1, p2, p3, Int.le_trans p4 (Int.mul_le_mul_of_nonneg_left hd.1 e1), spl_ints k1 ho, (spl_facts k1 ho).2, spl_len (by omega)⟩
  · rw [e]
    obtain ⟨p1, p2, p3, p4, _⟩ := spl_cost k2 ho
    obtain ⟨_, _, _, hl, _⟩ := (tchk_ok G2 M2 B2 t2).1 k2
    exact ⟨p1, p2, p3, Int.le_trans p4 (Int.mul_le_mul_of_nonneg_left hd.2 e1), spl_ints k2 ho, (spl_facts k2 ho).2, spl_len (by omega)⟩
theorem ra_len (D F T G1 M1 B1 G2 M2 B2 : Int) (t1 t2 : List Tr) (now pos u : Int) : (raL D F T G1 M1 B1 G2 M2 B2 t1 t2 now pos u).length ≤ 1000 ∧ LnsI (raL D F T G1 M1 B1 G2 M2 B2 t1 t2 now pos u) := by
  by_cases h : RatNo D F T G1 M1 B1 G2 M2 B2 t1 t2 now pos u
  · rw [(ra_no h).1]; exact ⟨Nat.zero_le _, fun x hx => by cases hx⟩
  · exact ⟨(ra_facts h).2.2.2.2.2.2, (ra_facts h).2.2.2.2.1⟩
end Go.Proofs.Ytonacdjaimokeaa.tirw
