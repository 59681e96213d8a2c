/- Rates: usage in two parts, as mathematics: graduated, both cost what all at once costs. -/
import Derived.Test.YtonacdjaimokeaaRatX
namespace Go.Proofs.Ytonacdjaimokeaa.tirw
open Go.RowKit mem tirm intm bigm bigw
set_option linter.unusedVariables false

def payL (x : Ln) : Ln := ⟨x.t, x.b * x.p, x.p⟩
theorem sumB_pay : ∀ (ls : List Ln), sumB (ls.map payL) = costB ls := by
  intro ls
  induction ls with
  | nil => rfl
  | cons x r ih => show x.b * x.p + sumB (r.map payL) = x.b * x.p + costB r; rw [ih]
theorem has_pay (x : Ln) : ∀ (ls : List Ln), has x (ls.map payL) ↔ has x ls := by
  intro ls
  induction ls with
  | nil => exact Iff.rfl
  | cons y r ih => rw [List.map_cons, has_cons, has_cons, ih]; exact Iff.rfl
theorem sumK_cons (x y : Ln) (r : List Ln) : sumK x (y :: r) = (if lk x y then y.b else 0) + sumK x r := by
  unfold sumK likes
  rw [List.filter_cons]
  by_cases h : lk x y
  · rw [if_pos (by simpa using h), if_pos h]; rfl
  · rw [if_neg (by simpa using h), if_neg h]; omega
theorem sumK_pay (x : Ln) : ∀ (ls : List Ln), sumK (payL x) (ls.map payL) = x.p * sumK x ls := by
  intro ls
  induction ls with
  | nil => show (0 : Int) = x.p * 0; omega
  | cons y r ih =>
    rw [List.map_cons, sumK_cons, sumK_cons, ih, Int.mul_add]
    congr 1
    by_cases h : lk x y
    · rw [if_pos h, if_pos (show lk (payL x) (payL y) from h)]
      show y.b * y.p = x.p * y.b
      rw [h.2, Int.mul_comm]
    · rw [if_neg h, if_neg (show ¬ lk (payL x) (payL y) from h)]; omega
theorem merge_pay {all out : List Ln} (h : MergeOf all out) : MergeOf (all.map payL) (out.map payL) := by
  refine ⟨?_, fun x => by rw [has_pay, has_pay]; exact h.keys x, fun x hx => ?_⟩
  · rw [List.pairwise_map]; exact h.up
  · obtain ⟨y, hy, rfl⟩ := List.mem_map.1 hx
    rw [sumK_pay, ← h.blocks y hy]
    show y.b * y.p = y.p * y.b
    exact Int.mul_comm _ _
theorem merge_cost {all out : List Ln} (h : MergeOf all out) : costB out = costB all := by
  rw [← sumB_pay, ← sumB_pay]; exact (merge_pay h).sum
theorem costB_app (a b : List Ln) : costB (a ++ b) = costB a + costB b := by
  rw [costB_map, costB_map, costB_map, List.map_append, List.sum_append]
theorem spl_grad {G M B : Int} {ts : List Tr} {p n : Int} (hc : tchk G M B ts = 0) (hM : M = 1) (ho : ¬ outB p n) : splL G M B ts p n = gradF (p + n) 0 p ts := by
  obtain ⟨_, _, _, _, hts⟩ := (tchk_ok G M B ts).1 hc
  unfold splL
  by_cases hn : n = 0
  · rw [if_pos (.inr (.inr hn)), hn, Int.add_zero]
    exact (gradF_none ts p hts (by unfold outB at ho; omega)).symm
  · rw [if_neg (fun e => e.elim (fun e => e hc) (fun e => e.elim ho hn)), if_neg (by omega)]
theorem spl_apart {G M B : Int} {ts : List Tr} {p a b : Int} (hc : tchk G M B ts = 0) (hM : M = 1) (h1 : ¬ outB p a) (h2 : ¬ outB (p + a) b) (h3 : ¬ outB p (a + b)) : costB (splL G M B ts p a) + costB (splL G M B ts (p + a) b) = costB (splL G M B ts p (a + b)) := by
  obtain ⟨_, _, _, _, hts⟩ := (tchk_ok G M B ts).1 hc
  rw [spl_grad hc hM h1, spl_grad hc hM h2, spl_grad hc hM h3, ← Int.add_assoc]
  have hm := gradF_joins ts p a b hts (by unfold outB at h1; omega) (by unfold outB at h1; omega) (by unfold outB at h2; omega)
  rw [merge_cost hm, costB_app]
/-- two parts of whole blocks -/
theorem ra_apart {D F T G1 M1 B1 G2 M2 B2 : Int} {t1 t2 : List Tr} {now pos q1 q2 : Int} (hp : pchk D F T G1 M1 B1 G2 M2 B2 t1 t2 = 0) (hm1 : M1 = 1) (hm2 : D = 0 ∨ M2 = 1) (h0 : 0 ≤ now) (p0 : 0 ≤ pos) (p1 : pos ≤ 274877906944) (k1 : 0 ≤ q1) (l1 : q1 * B1 ≤ 536870912) (k2 : 0 ≤ q2) (l2 : q2 * B1 ≤ 536870912) :
    (raK D F T G1 M1 B1 G2 M2 B2 t1 t2 now pos (q1 * B1) = q1 ∧ raP D F T G1 M1 B1 G2 M2 B2 t1 t2 now pos (q1 * B1) = pos + q1 ∧ raE D F T G1 M1 B1 G2 M2 B2 t1 t2 now pos (q1 * B1) = 0) ∧
    (raK D F T G1 M1 B1 G2 M2 B2 t1 t2 now (pos + q1) (q2 * B1) = q2 ∧ raP D F T G1 M1 B1 G2 M2 B2 t1 t2 now (pos + q1) (q2 * B1) = pos + q1 + q2 ∧ raE D F T G1 M1 B1 G2 M2 B2 t1 t2 now (pos + q1) (q2 * B1) = 0) ∧
    (raK D F T G1 M1 B1 G2 M2 B2 t1 t2 now pos (q1 * B1 + q2 * B1) = q1 + q2 ∧ raP D F T G1 M1 B1 G2 M2 B2 t1 t2 now pos (q1 * B1 + q2 * B1) = pos + q1 + q2 ∧ raE D F T G1 M1 B1 G2 M2 B2 t1 t2 now pos (q1 * B1 + q2 * B1) = 0) ∧
    costB (raL D F T G1 M1 B1 G2 M2 B2 t1 t2 now pos (q1 * B1)) + costB (raL D F T G1 M1 B1 G2 M2 B2 t1 t2 now (pos + q1) (q2 * B1)) = costB (raL D F T G1 M1 B1 G2 M2 B2 t1 t2 now pos (q1 * B1 + q2 * B1)) ∧
    (0 ≤ costB (raL D F T G1 M1 B1 G2 M2 B2 t1 t2 now pos (q1 * B1 + q2 * B1)) ∧ costB (raL D F T G1 M1 B1 G2 M2 B2 t1 t2 now pos (q1 * B1 + q2 * B1)) ≤ 1125899906842624) ∧ q1 ≤ 536870912 ∧ q2 ≤ 536870912 := by
  obtain ⟨c1, kk⟩ := pchk_ok hp
  obtain ⟨_, _, hb, _, _⟩ := (tchk_ok G1 M1 B1 t1).1 c1
  have n1 : 0 ≤ q1 * B1 := Int.mul_nonneg k1 (by omega)
  have n2 : 0 ≤ q2 * B1 := Int.mul_nonneg k2 (by omega)
  have b1 := bk_mul k1 hb.1
  have b2 := bk_mul k2 hb.1
  have b3 : bk (q1 * B1 + q2 * B1) B1 = q1 + q2 := by rw [← Int.add_mul]; exact bk_mul (by omega) hb.1
  have g1 := (bk_in n1 hb.1).2
  have g2 := (bk_in n2 hb.1).2
  rw [b1] at g1
  rw [b2] at g2
  have u1 : CanP D F T G1 M1 B1 G2 M2 B2 t1 t2 (q1 * B1) := ⟨n1, by omega, hp⟩
  have u2 : CanP D F T G1 M1 B1 G2 M2 B2 t1 t2 (q2 * B1) := ⟨n2, by omega, hp⟩
  have u3 : CanP D F T G1 M1 B1 G2 M2 B2 t1 t2 (q1 * B1 + q2 * B1) := ⟨by omega, by omega, hp⟩
  have o1 : ¬ outB pos (bk (q1 * B1) B1) := by rw [b1]; unfold outB; omega
  have o2 : ¬ outB (pos + q1) (bk (q2 * B1) B1) := by rw [b2]; unfold outB; omega
  have o3 : ¬ outB pos (bk (q1 * B1 + q2 * B1) B1) := by rw [b3]; unfold outB; omega
  have r1 : ¬ RatNo D F T G1 M1 B1 G2 M2 B2 t1 t2 now pos (q1 * B1) := fun e => e.elim (fun e => by omega) (fun e => e.elim (fun e => e u1) o1)
  have r2 : ¬ RatNo D F T G1 M1 B1 G2 M2 B2 t1 t2 now (pos + q1) (q2 * B1) := fun e => e.elim (fun e => by omega) (fun e => e.elim (fun e => e u2) o2)
  have r3 : ¬ RatNo D F T G1 M1 B1 G2 M2 B2 t1 t2 now pos (q1 * B1 + q2 * B1) := fun e => e.elim (fun e => by omega) (fun e => e.elim (fun e => e u3) o3)
  obtain ⟨_, _, _, x1, x2, x3, _, x4⟩ := ra_side r1
  obtain ⟨_, _, _, y1, y2, y3, _, y4⟩ := ra_side r2
  obtain ⟨_, _, _, z1, z2, z3, _, z4⟩ := ra_side r3
  obtain ⟨_, _, f3, f4, _⟩ := ra_facts r3
  obtain ⟨_, _, d1, d2⟩ := can_facts u3
  rw [b1] at x1 x2 x4
  rw [b2] at y1 y2 y4
  rw [b3] at z1 z2 z4 f4
  have hD2 : (q1 + q2) * dearP t1 t2 ≤ 1073741824 * 1048576 := Int.mul_le_mul (by omega) d2 d1 (by omega)
  refine ⟨⟨x1, x2, x3⟩, ⟨y1, y2, y3⟩, ⟨z1, by omega, z3⟩, ?_, ⟨f3, by omega⟩, by omega, by omega⟩
  rw [b1] at o1
  rw [b2] at o2
  rw [b3] at o3
  rcases x4 with ⟨i1, x4⟩ | ⟨i1, hD, hB, c2, x4⟩
  · have y5 := (y4.resolve_right (fun e => by rw [i1] at e; cases e.1)).2
    have z5 := (z4.resolve_right (fun e => by rw [i1] at e; cases e.1)).2
    rw [x4, y5, z5]
    exact spl_apart c1 hm1 o1 o2 o3
  · have y5 := (y4.resolve_left (fun e => by rw [i1] at e; cases e.1)).2.2.2.2
    have z5 := (z4.resolve_left (fun e => by rw [i1] at e; cases e.1)).2.2.2.2
    rw [x4, y5, z5]
    exact spl_apart c2 (hm2.resolve_left hD) o1 o2 o3
end Go.Proofs.Ytonacdjaimokeaa.tirw
