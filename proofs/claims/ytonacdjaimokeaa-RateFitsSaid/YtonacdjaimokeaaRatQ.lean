/- Rates: tame of a plan; what fits, as facts. -/
import Derived.Test.YtonacdjaimokeaaRatP1
import Derived.Test.YtonacdjaimokeaaRatP2
import Derived.Test.YtonacdjaimokeaaRatP3
import Derived.Test.YtonacdjaimokeaaRatQm
namespace Go.Proofs.Ytonacdjaimokeaa.tirw
open Go.RowKit mem tirm intm bigm bigw
set_option linter.unusedVariables false

/-- a plan that was tamed -/
def PTame (D F T G1 M1 B1 G2 M2 B2 : Int) (t1 t2 : List Tr) (w : World) (e : Ending) (w' : World) : Prop :=
  ∃ a3 a4 q3 q4, e = .returned (.agg #[.int .i64 D, .int .i64 F, .int .i64 T, .int .i64 G1, .int .i64 M1, .int .i64 B1, .slice a3 t1.length q3, .int .i64 G2, .int .i64 M2, .int .i64 B2, .slice a4 t2.length q4]) ∧ ReadsT w' a3 t1.length t1 ∧ ReadsT w' a4 t2.length t2 ∧ Only (fun _ => False) w w' ∧ (∀ y, a3 = some y → w.heap.size ≤ y.block) ∧ (∀ y, a4 = some y → w.heap.size ≤ y.block)
theorem ptame_mk {D F T G1 M1 B1 G2 M2 B2 : Int} {t1 t2 : List Tr} {k1 k2 : Nat} (l1 : t1.length = k1) (l2 : t2.length = k2) {w : World} : ∀ a3 a4 q3 q4 w', ReadsT w' a3 k1 t1 → ReadsT w' a4 k2 t2 → Only (fun _ => False) w w' → (∀ y, a3 = some y → w.heap.size ≤ y.block) → (∀ y, a4 = some y → w.heap.size ≤ y.block) → PTame D F T G1 M1 B1 G2 M2 B2 t1 t2 w (.returned (.agg #[.int .i64 D, .int .i64 F, .int .i64 T, .int .i64 G1, .int .i64 M1, .int .i64 B1, .slice a3 k1 q3, .int .i64 G2, .int .i64 M2, .int .i64 B2, .slice a4 k2 q4])) w' := by
  subst l1 l2
  intro a3 a4 q3 q4 w' h1 h2 h3 h4 h5
  exact ⟨a3, a4, q3, q4, rfl, h1, h2, h3, h4, h5⟩
theorem three {w : World} {a : Option Addr} {len cap : Nat} {ts : List Tr} (h : TiersR w a len cap ts) : (a = none ∧ len = 0 ∧ cap = 0 ∧ ts.take (min len 9) = []) ∨ (∃ x, a = some x ∧ ((len : Int) ≤ 9 ∧ (0 : Int) ≤ len ∧ (len : Int) ≤ cap ∧ ReadsT w (some x) len (ts.take (min len 9)) ∧ (ts.take (min len 9)).length = len ∨ (9 : Int) < len ∧ (0 : Int) ≤ len ∧ (9 : Int) ≤ cap ∧ (len : Int) ≤ cap ∧ ReadsT w (some x) 9 (ts.take (min len 9)) ∧ (ts.take (min len 9)).length = 9)) := by
  obtain ⟨hr, hlc, hcm, hnone⟩ := h
  have hR := hr.take (min len 9) (by omega)
  rcases a with _ | x
  · obtain rfl := hnone rfl
    obtain rfl : len = 0 := by omega
    exact .inl ⟨rfl, rfl, rfl, List.eq_nil_of_length_eq_zero hR.1⟩
  · refine .inr ⟨x, rfl, ?_⟩
    rcases Nat.lt_or_ge 9 len with g | g
    · right
      have e : min len 9 = 9 := by omega
      rw [e] at hR ⊢
      exact ⟨by omega, by omega, by omega, by omega, hR, hR.1⟩
    · left
      have e : min len 9 = len := by omega
      rw [e] at hR ⊢
      exact ⟨by omega, by omega, by omega, hR, hR.1⟩
theorem ptame_any (D F T G1 M1 B1 G2 M2 B2 : Int) (a1 a2 : Option Addr) (n1 n2 c1 c2 : Nat) (t1 t2 : List Tr) (w : World) (h1 : TiersR w a1 n1 c1 t1) (h2 : TiersR w a2 n2 c2 t2) :
    Calls Try.prog 15 #[.agg #[.int .i64 D, .int .i64 F, .int .i64 T, .int .i64 G1, .int .i64 M1, .int .i64 B1, .slice a1 n1 c1, .int .i64 G2, .int .i64 M2, .int .i64 B2, .slice a2 n2 c2]] w (PTame D F T G1 M1 B1 G2 M2 B2 (t1.take (min n1 9)) (t2.take (min n2 9)) w) := by
  have hm : min (0 : Int) 9 = 0 := by decide
  rcases three h1 with ⟨rfl, rfl, rfl, e1⟩ | ⟨x1, rfl, ⟨p1, p2, p3, p4, p5⟩ | ⟨p1, p2, p3, p6, p4, p5⟩⟩
  · rcases three h2 with ⟨rfl, rfl, rfl, e2⟩ | ⟨x2, rfl, ⟨q1, q2, q3, q4, q5⟩ | ⟨q1, q2, q3, q6, q4, q5⟩⟩
    · rw [e1, e2]
      exact ptame_nn D F T G1 M1 B1 G2 M2 B2 [] [] w _ hm hm (ReadsT.nil _ _) (ReadsT.nil _ _) (ptame_mk rfl rfl)
    · rw [e1]
      exact ptame_nl D F T G1 M1 B1 G2 M2 B2 x2 n2 c2 [] _ w _ hm q1 q2 q3 (ReadsT.nil _ _) q4 (ptame_mk rfl q5)
    · rw [e1]
      exact ptame_nm D F T G1 M1 B1 G2 M2 B2 x2 n2 c2 [] _ w _ hm q1 q2 q3 q6 (ReadsT.nil _ _) q4 (ptame_mk rfl q5)
  · rcases three h2 with ⟨rfl, rfl, rfl, e2⟩ | ⟨x2, rfl, ⟨q1, q2, q3, q4, q5⟩ | ⟨q1, q2, q3, q6, q4, q5⟩⟩
    · rw [e2]
      exact ptame_ln D F T G1 M1 B1 G2 M2 B2 x1 n1 c1 _ [] w _ p1 p2 p3 hm p4 (ReadsT.nil _ _) (ptame_mk p5 rfl)
    · exact ptame_ll D F T G1 M1 B1 G2 M2 B2 x1 n1 c1 x2 n2 c2 _ _ w _ p1 p2 p3 q1 q2 q3 p4 q4 (ptame_mk p5 q5)
    · exact ptame_lm D F T G1 M1 B1 G2 M2 B2 x1 n1 c1 x2 n2 c2 _ _ w _ p1 p2 p3 q1 q2 q3 q6 p4 q4 (ptame_mk p5 q5)
  · rcases three h2 with ⟨rfl, rfl, rfl, e2⟩ | ⟨x2, rfl, ⟨q1, q2, q3, q4, q5⟩ | ⟨q1, q2, q3, q6, q4, q5⟩⟩
    · rw [e2]
      exact ptame_mn D F T G1 M1 B1 G2 M2 B2 x1 n1 c1 _ [] w _ p1 p2 p3 p6 hm p4 (ReadsT.nil _ _) (ptame_mk p5 rfl)
    · exact ptame_ml D F T G1 M1 B1 G2 M2 B2 x1 n1 c1 x2 n2 c2 _ _ w _ p1 p2 p3 p6 q1 q2 q3 p4 q4 (ptame_mk p5 q5)
    · exact ptame_mm D F T G1 M1 B1 G2 M2 B2 x1 n1 c1 x2 n2 c2 _ _ w _ p1 p2 p3 p6 q1 q2 q3 q6 p4 q4 (ptame_mk p5 q5)

theorem can_less {D F T G1 M1 B1 G2 M2 B2 : Int} {t1 t2 : List Tr} {u v : Int} (h : CanP D F T G1 M1 B1 G2 M2 B2 t1 t2 u) (h0 : 0 ≤ v) (h1 : v ≤ u) : CanP D F T G1 M1 B1 G2 M2 B2 t1 t2 v := ⟨h0, by have := h.2.1; omega, h.2.2⟩
theorem fit_none {D F T G1 M1 B1 G2 M2 B2 : Int} {t1 t2 : List Tr} {cr u : Int} (h : FitNo D F T G1 M1 B1 G2 M2 B2 t1 t2 cr u) : fitU D F T G1 M1 B1 G2 M2 B2 t1 t2 cr u = 0 ∧ fitC D F T G1 M1 B1 G2 M2 B2 t1 t2 cr u = 0 ∧ fitE D F T G1 M1 B1 G2 M2 B2 t1 t2 cr u = 1 := by
  unfold fitU fitC fitE
  rw [if_pos h, if_pos h, if_pos h]
  exact ⟨rfl, rfl, rfl⟩
/-- what fits costs at most the credit; one unit more doesn't fit, or wasn't wanted -/
theorem fit_facts {D F T G1 M1 B1 G2 M2 B2 : Int} {t1 t2 : List Tr} {cr u : Int} (h : ¬ FitNo D F T G1 M1 B1 G2 M2 B2 t1 t2 cr u) : fitE D F T G1 M1 B1 G2 M2 B2 t1 t2 cr u = 0 ∧ ∃ n c, fitU D F T G1 M1 B1 G2 M2 B2 t1 t2 cr u = n ∧ fitC D F T G1 M1 B1 G2 M2 B2 t1 t2 cr u = c ∧ 0 ≤ n ∧ n ≤ u ∧ u ≤ 1073741824 ∧ 0 ≤ c ∧ c ≤ cr ∧ CanP D F T G1 M1 B1 G2 M2 B2 t1 t2 n ∧ worN D F T G1 M1 B1 G2 M2 B2 t1 t2 n = c ∧ worE D F T G1 M1 B1 G2 M2 B2 t1 t2 n = 0 ∧ (n = u ∨ n < u ∧ worE D F T G1 M1 B1 G2 M2 B2 t1 t2 (n + 1) = 0 ∧ cr < worN D F T G1 M1 B1 G2 M2 B2 t1 t2 (n + 1)) := by
  have hc : CanP D F T G1 M1 B1 G2 M2 B2 t1 t2 u := Decidable.byContradiction fun e => h (.inl e)
  have h0 : 0 ≤ cr := Int.not_lt.1 fun e => h (.inr e)
  obtain ⟨⟨c1', c2'⟩, ⟨b1, b2⟩, d1, d2⟩ := can_facts hc
  obtain ⟨e1, e2⟩ := bk_in c1' b1
  unfold fitE fitU fitC
  rw [if_neg h, if_neg h, if_neg h]
  refine ⟨rfl, ?_⟩
  by_cases hle : bk u B1 * dearP t1 t2 ≤ cr
  · rw [if_pos hle, if_pos hle]
    refine ⟨u, _, rfl, rfl, c1', Int.le_refl _, c2', Int.mul_nonneg e1 d1, hle, hc, ?_, ?_, .inl rfl⟩
    · unfold worN; rw [if_pos hc]
    · unfold worE; rw [if_pos hc]
  · rw [if_neg hle, if_neg hle]
    obtain ⟨f1, f2, f3, f4, f5⟩ := fit_less (k := bk u B1) (d := dearP t1 t2) (cr := cr) (by omega) (by omega) d1
    have hlt := bk_lt c1' b1 f3
    have hq0 : 0 ≤ cr / dearP t1 t2 * B1 := Int.mul_nonneg f2 (by omega)
    have hk1 : CanP D F T G1 M1 B1 G2 M2 B2 t1 t2 (cr / dearP t1 t2 * B1) := can_less hc hq0 (by omega)
    have hk2 : CanP D F T G1 M1 B1 G2 M2 B2 t1 t2 (cr / dearP t1 t2 * B1 + 1) := can_less hc (by omega) (by omega)
    refine ⟨_, _, rfl, rfl, hq0, by omega, c2', Int.mul_nonneg f2 d1, f4, hk1, ?_, ?_, .inr ⟨hlt, ?_, ?_⟩⟩
    · unfold worN; rw [if_pos hk1, bk_mul f2 b1]
    · unfold worE; rw [if_pos hk1]
    · unfold worE; rw [if_pos hk2]
    · unfold worN; rw [if_pos hk2, bk_mul1 f2 b1]; exact f5
end Go.Proofs.Ytonacdjaimokeaa.tirw
