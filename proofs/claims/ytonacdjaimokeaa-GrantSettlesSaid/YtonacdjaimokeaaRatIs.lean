/- Plans: the tariff at a time: the document's. -/
import Derived.Test.YtonacdjaimokeaaRatG
namespace Go.Proofs.Ytonacdjaimokeaa.tirw
open Go.RowKit mem tirm intm bigw
set_option linter.unusedVariables false

set_option maxRecDepth 100000 in
set_option maxHeartbeats 1000000 in
theorem ris_any (D F T G1 M1 B1 G2 M2 B2 : Int) (a1 a2 : Option Addr) (n1 n2 c1 c2 : Nat) (now : Int) (h0 : 0 ≤ now) (hx : now ≤ 9223372036854775807) (hD : D = 0 ∨ DayP D F T) (w : World) :
    Calls Try.prog 27 #[.agg #[.int .i64 D, .int .i64 F, .int .i64 T, .int .i64 G1, .int .i64 M1, .int .i64 B1, .slice a1 n1 c1, .int .i64 G2, .int .i64 M2, .int .i64 B2, .slice a2 n2 c2], .int .i64 now] w fun e w' => e = .returned (.bool (isO D F T now)) ∧ Only (fun _ => False) w w' := by
  obtain ⟨W0, hW0⟩ : ∃ W0, W0 = w.alloc (.cells #[.int .i64 D, .int .i64 F, .int .i64 T, .int .i64 G1, .int .i64 M1, .int .i64 B1, .slice a1 n1 c1, .int .i64 G2, .int .i64 M2, .int .i64 B2, .slice a2 n2 c2] 26) := ⟨_, rfl⟩
  have HO0 : Hid (Only (fun _ => False) w W0) := Lib.hid (by rw [hW0]; exact (Only.refl _ w).alloc _)
  have HPA : Hid (PlanAt W0 w.heap.size D F T G1 M1 B1 G2 M2 B2 a1 a2 n1 n2 c1 c2) := Lib.hid (by rw [hW0]; exact PlanAt.new ..)
  obtain ⟨P, hP⟩ : ∃ P, isO D F T now = P := ⟨_, rfl⟩
  rw [hP]
  by_cases k0 : D = 0
  · subst k0
    have HR : Hid (P = false) := Lib.hid (by rw [← hP]; unfold isO; rw [if_pos rfl])
    clear hP
    go_enter Try.func27, Try.ntmps27
    obtain ⟨p0, p1, p2, p3, p4, p5, p6, p7, p8, p9, p10⟩ := HPA.out
    rw [hW0] at p0 p1 p2 p3 p4 p5 p6 p7 p8 p9 p10
    go_wp2_with fail
    rw [← hW0]
    go_ret
    exact ⟨by rw [HR.out]; rfl, HO0.out⟩
  obtain ⟨d1, d2, d3, d4, d5, d6, d7⟩ := hD.resolve_left k0
  obtain ⟨x1, x2⟩ := neI k0
  obtain ⟨m, hm⟩ : ∃ m, now % D = m := ⟨_, rfl⟩
  have hr : now.tmod D = m := by rw [Int.tmod_eq_emod_of_nonneg h0]; exact hm
  have hm0 : 0 ≤ m := by rw [← hm]; exact Int.emod_nonneg _ k0
  have hm1 : m < D := by rw [← hm]; exact Int.emod_lt_of_pos _ (by omega)
  have HP : Hid (P = if F < T then decide (F ≤ m) && decide (m < T) else decide (F ≤ m) || decide (m < T)) := Lib.hid (by rw [← hP]; unfold isO; rw [if_neg k0, hm])
  clear hP hD
  by_cases k1 : F < T
  · have HQ : Hid (P = (decide (F ≤ m) && decide (m < T))) := Lib.hid (by rw [HP.out, if_pos k1])
    by_cases k2 : F ≤ m
    all_goals by_cases k3 : m < T
    all_goals try (exfalso; omega)
    all_goals
      go_enter Try.func27, Try.ntmps27
      obtain ⟨p0, p1, p2, p3, p4, p5, p6, p7, p8, p9, p10⟩ := HPA.out
      rw [hW0] at p0 p1 p2 p3 p4 p5 p6 p7 p8 p9 p10
      go_wp2_with fail
      rw [← hW0]
      go_ret
      exact ⟨by rw [HQ.out]; simp [k2, k3], HO0.out⟩
  · have HQ : Hid (P = (decide (F ≤ m) || decide (m < T))) := Lib.hid (by rw [HP.out, if_neg k1])
    by_cases k2 : F ≤ m
    all_goals by_cases k3 : m < T
    all_goals try (exfalso; omega)
    all_goals
      go_enter Try.func27, Try.ntmps27
      obtain ⟨p0, p1, p2, p3, p4, p5, p6, p7, p8, p9, p10⟩ := HPA.out
      rw [hW0] at p0 p1 p2 p3 p4 p5 p6 p7 p8 p9 p10
      go_wp2_with fail
      rw [← hW0]
      go_ret
      exact ⟨by rw [HQ.out]; simp [k2, k3], HO0.out⟩
end Go.Proofs.Ytonacdjaimokeaa.tirw
