/- GrantBounds's walk. -/
import Derived.Test.YtghajamcjcflaaaGrD
import Derived.Deep.RegionHeld3
namespace Go.Proofs.Ytghajamcjcflaaa.tirw
open Go.RowKit mem tirm intm bigm bigw
set_option linter.unusedVariables false

def zerosG : List Value := [.int .i64 0, .int .i64 0, .int .i64 0, .bool false]
theorem gbox_put {wr wn : World} {q : Nat} (hz : BoxV wn q zerosG) (ho : Only (fun _ => False) wr wn) (hq : wr.heap.size ≤ q) (v0 v1 v2 v3 : Value) : ∃ q' W, q = q' ∧ BoxV W q' [v0, v1, v2, v3] ∧ Only (fun _ => False) wr W ∧ wr.heap.size ≤ q' ∧ W = (((wn.setCell ⟨q', 0, none⟩ v0).setCell ⟨q', 1, none⟩ v1).setCell ⟨q', 2, none⟩ v2).setCell ⟨q', 3, none⟩ v3 :=
  ⟨q, _, rfl, hz.put [v0, v1, v2, v3] rfl, puts_only q [v0, v1, v2, v3] 0 wr wn ho (.inr hq), hq, rfl⟩
theorem gbox_new {wr wn : World} (ho : Only (fun _ => False) wr wn) (v0 v1 v2 v3 : Value) (t : TypeId) : ∃ q' W, wn.heap.size = q' ∧ BoxV W q' [v0, v1, v2, v3] ∧ Only (fun _ => False) wr W ∧ wr.heap.size ≤ q' ∧ W = wn.alloc (.cells #[v0, v1, v2, v3] t) :=
  ⟨_, _, rfl, BoxV.new wn [v0, v1, v2, v3] t _ rfl, ho.alloc _, ho.size, rfl⟩
theorem BoxV.gz {w : World} {q : Nat} (h : BoxV w q zerosG) : (w.cell? ⟨q, 0, none⟩ = some (.int .i64 0) ∧ w.cell? ⟨q, 1, none⟩ = some (.int .i64 0) ∧ w.cell? ⟨q, 2, none⟩ = some (.int .i64 0) ∧ w.cell? ⟨q, 3, none⟩ = some (.bool false)) ∧ w.frozen? ⟨q, 0, none⟩ = false ∧ w.frozen? ⟨q, 1, none⟩ = false ∧ w.frozen? ⟨q, 2, none⟩ = false ∧ w.frozen? ⟨q, 3, none⟩ = false :=
  ⟨⟨(h 0 _ rfl).1, (h 1 _ rfl).1, (h 2 _ rfl).1, (h 3 _ rfl).1⟩, (h 0 _ rfl).2, (h 1 _ rfl).2, (h 2 _ rfl).2, (h 3 _ rfl).2⟩
/-- what Make answers -/
theorem mk_cases (D F T G1 M1 B1 G2 M2 B2 : Int) (t1 t2 : List Tr) (cr u : Int) : (mkE D F T G1 M1 B1 G2 M2 B2 t1 t2 cr u ≠ 0 ∧ mkG D F T G1 M1 B1 G2 M2 B2 t1 t2 cr u = Gr0) ∨ (mkE D F T G1 M1 B1 G2 M2 B2 t1 t2 cr u = 0 ∧ ∃ n c, mkG D F T G1 M1 B1 G2 M2 B2 t1 t2 cr u = ⟨G1, n, c, decide (n < u)⟩ ∧ 1 ≤ n ∧ n ≤ u ∧ u ≤ 1073741824 ∧ 0 ≤ c ∧ c ≤ cr ∧ CanP D F T G1 M1 B1 G2 M2 B2 t1 t2 n ∧ bk n B1 * dearP t1 t2 = c) := by
  unfold mkE mkG
  by_cases h : MkNo D F T G1 M1 B1 G2 M2 B2 t1 t2 cr u
  · rw [if_pos h, if_pos h]; exact .inl ⟨by decide, rfl⟩
  · rw [if_neg h, if_neg h]
    have hf : ¬ FitNo D F T G1 M1 B1 G2 M2 B2 t1 t2 cr u := fun e => h (.inl e)
    obtain ⟨_, n, c, e1, e2, f1, f2, f3, f4, f5, hc, f6, _, _⟩ := fit_facts hf
    rw [e1, e2]
    by_cases hn : n = 0
    · rw [if_pos hn, if_pos hn]; exact .inl ⟨by decide, rfl⟩
    · rw [if_neg hn, if_neg hn]
      refine .inr ⟨rfl, n, c, rfl, by omega, f2, f3, f4, f5, hc, ?_⟩
      unfold worN at f6
      rw [if_pos hc] at f6
      exact f6
/-- what is granted does for what is used -/
theorem st_ok {D F T G1 M1 B1 G2 M2 B2 : Int} {t1 t2 : List Tr} {n c now pos us : Int} (hc : CanP D F T G1 M1 B1 G2 M2 B2 t1 t2 n) (hw : bk n B1 * dearP t1 t2 = c) (h0 : 0 ≤ now) (p0 : 0 ≤ pos) (p1 : pos < 1099511627776) (u0 : 0 ≤ us) (u1 : us ≤ n) (c0 : 0 ≤ c) (n0 : 0 ≤ n) :
    stE D F T G1 M1 B1 G2 M2 B2 t1 t2 G1 n c now pos us = 0 ∧ 0 ≤ costB (raL D F T G1 M1 B1 G2 M2 B2 t1 t2 now pos us) ∧ costB (raL D F T G1 M1 B1 G2 M2 B2 t1 t2 now pos us) ≤ c := by
  have hcu := can_less hc u0 u1
  obtain ⟨_, ⟨b1, _⟩, d1, _⟩ := can_facts hc
  obtain ⟨e1, e2⟩ := bk_in u0 b1
  have hm := bk_mono u0 u1 b1
  have hn := hc.2.1
  have hr : ¬ RatNo D F T G1 M1 B1 G2 M2 B2 t1 t2 now pos us := fun e => e.elim (fun e => by omega) (fun e => e.elim (fun e => e hcu) (fun e => by unfold outB at e; omega))
  obtain ⟨_, _, f3, f4, _⟩ := ra_facts hr
  have hle := Int.mul_le_mul_of_nonneg_right hm d1
  refine ⟨?_, f3, by omega⟩
  unfold stE
  rw [if_neg (fun e => e.elim hr (fun e => e.elim (fun e => e rfl) (fun e => by omega))), if_neg (by omega), if_neg (by omega)]

end Go.Proofs.Ytghajamcjcflaaa.tirw
