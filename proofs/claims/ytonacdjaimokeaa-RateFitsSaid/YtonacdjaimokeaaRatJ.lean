/- Rates: the law's fixed plan. -/
import Derived.Test.YtonacdjaimokeaaRatI
namespace Go.Proofs.Ytonacdjaimokeaa.tirw
open Go.RowKit mem tirm intm bigm bigw
set_option linter.unusedVariables false

def oneT : List Tr := [⟨0, 3⟩]
theorem one_reads (W : World) (g : Nat) (hg : g = W.heap.size) : ReadsT (W.alloc (.cells #[.int .i64 0, .int .i64 3] 109)) (some ⟨g, 0, none⟩) 1 oneT := by
  refine ⟨rfl, by omega, ?_, .inr ⟨g, 0, rfl, fun i hi => ?_⟩⟩
  · intro x hx
    simp [oneT] at hx
    subst hx
    unfold InI
    dsimp only
    omega
  · obtain rfl : i = 0 := by omega
    exact ⟨alloc_new _ _ _ _ _ _ hg rfl, alloc_new _ _ _ _ _ _ hg rfl⟩
set_option maxRecDepth 100000 in
set_option maxHeartbeats 1000000 in
theorem rates_any (w : World) : Calls Try.prog 23 #[] w fun e w' => e = .returned (.bool true) ∧ Only (fun _ => False) w w' := by
  obtain ⟨W0, hW0⟩ : ∃ W0, W0 = (w.alloc (.cells #[.int .i64 0, .int .i64 3] 109)).alloc (.cells #[.int .i64 0, .int .i64 0, .int .i64 0, .int .i64 1, .int .i64 1, .int .i64 10, .slice (some ⟨w.heap.size, 0, none⟩) 1 1, .int .i64 0, .int .i64 0, .int .i64 0, .slice none 0 0] 30) := ⟨_, rfl⟩
  have HO0 : Hid (Only (fun _ => False) w W0) := Lib.hid (by rw [hW0]; exact ((Only.refl _ w).alloc _).alloc _)
  have HPA : Hid (PlanAt W0 (w.heap.size + 1) 0 0 0 1 1 10 0 0 0 (some ⟨w.heap.size, 0, none⟩) none 1 0 1 0) := Lib.hid (by
    rw [hW0]
    have h := PlanAt.new (w := w.alloc (.cells #[.int .i64 0, .int .i64 3] 109)) 0 0 0 1 1 10 0 0 0 (some ⟨w.heap.size, 0, none⟩) none 1 0 1 0 30
    have e : (w.alloc (.cells #[.int .i64 0, .int .i64 3] 109)).heap.size = w.heap.size + 1 := by simp
    rw [e] at h
    exact h)
  have HR : Hid (ReadsT W0 (some ⟨w.heap.size, 0, none⟩) 1 oneT) := Lib.hid (by rw [hW0]; exact (one_reads w _ rfl).only ((Only.refl (fun _ => False) _).alloc _) (fun _ _ f => f))
  have hc : CanP 0 0 0 1 1 10 0 0 0 oneT [] 11 := by decide
  have hL : splL 1 1 10 oneT 0 2 = [⟨0, 2, 3⟩] := by kernel_rfl
  have HRT : Hid (∀ w', Only (fun _ => False) W0 w' → Calls Try.prog 17 #[.agg #[.int .i64 0, .int .i64 0, .int .i64 0, .int .i64 1, .int .i64 1, .int .i64 10, .slice (some ⟨w.heap.size, 0, none⟩) 1 1, .int .i64 0, .int .i64 0, .int .i64 0, .slice none 0 0], .int .i64 0, .int .i64 0, .int .i64 11] w' (RateAt [⟨0, 2, 3⟩] 2 6 2 0 w')) := Lib.hid (fun w' ho => by
    have h := rate_base 0 0 0 1 1 10 0 0 0 (some ⟨w.heap.size, 0, none⟩) none 1 0 1 0 oneT [] 0 0 11 2 0 [⟨0, 2, 3⟩] w' (HR.out.only ho (fun _ _ f => f)) (ReadsT.nil _ _) (by omega) (by omega) hc isO_zero (by kernel_rfl) hL (by decide) (by decide)
    rw [if_pos rfl] at h
    exact h)
  have HFT : Hid (∀ w', Only (fun _ => False) W0 w' → Calls Try.prog 21 #[.agg #[.int .i64 0, .int .i64 0, .int .i64 0, .int .i64 1, .int .i64 1, .int .i64 10, .slice (some ⟨w.heap.size, 0, none⟩) 1 1, .int .i64 0, .int .i64 0, .int .i64 0, .slice none 0 0], .int .i64 7, .int .i64 100] w' fun e w'' => e = .returned (.tuple #[.int .i64 20, .int .i64 6, .int .i64 0]) ∧ Only (fun _ => False) w' w'') := Lib.hid (fun w' ho => by
    have h := fit_any 0 0 0 1 1 10 0 0 0 (some ⟨w.heap.size, 0, none⟩) none 1 0 1 0 oneT [] 7 100 w' (HR.out.only ho (fun _ _ f => f)) (ReadsT.nil _ _) (by omega)
    have e1 : fitU 0 0 0 1 1 10 0 0 0 oneT [] 7 100 = 20 := by kernel_rfl
    have e2 : fitC 0 0 0 1 1 10 0 0 0 oneT [] 7 100 = 6 := by kernel_rfl
    have e3 : fitE 0 0 0 1 1 10 0 0 0 oneT [] 7 100 = 0 := by kernel_rfl
    rw [e1, e2, e3] at h
    exact h)
  clear hc hL
  obtain ⟨p0, p1, p2, p3, p4, p5, p6, p7, p8, p9, p10⟩ := HPA.out
  rw [hW0] at p0 p1 p2 p3 p4 p5 p6 p7 p8 p9 p10
  go_enter Try.func23, Try.ntmps23
  go_wp2_with fail
  rw [← hW0]
  clear hW0 p0 p1 p2 p3 p4 p5 p6 p7 p8 p9 p10
  refine (HRT.out _ (Only.refl _ _)).mono ?_
  rintro _ w1 ⟨al, cl, rfl, _, k1⟩
  obtain ⟨w2, hw2⟩ : ∃ w2, w2 = w1.alloc (.cells #[.slice al 1 cl, .int .i64 2, .int .i64 6, .int .i64 2] 34) := ⟨_, rfl⟩
  have K2 : Hid (Only (fun _ => False) W0 w2) := Lib.hid (by rw [hw2]; exact k1.alloc _)
  have HB : Hid (w2.cell? ⟨w1.heap.size, 1, none⟩ = some (.int .i64 2) ∧ w2.cell? ⟨w1.heap.size, 2, none⟩ = some (.int .i64 6) ∧ w2.cell? ⟨w1.heap.size, 3, none⟩ = some (.int .i64 2)) := Lib.hid (by rw [hw2]; exact ⟨alloc_new _ _ _ _ _ _ rfl rfl, alloc_new _ _ _ _ _ _ rfl rfl, alloc_new _ _ _ _ _ _ rfl rfl⟩)
  clear k1
  obtain ⟨p0, p1, p2, p3, p4, p5, p6, p7, p8, p9, p10⟩ := HPA.out.only K2.out (fun f => f)
  rw [hw2] at p0 p1 p2 p3 p4 p5 p6 p7 p8 p9 p10
  go_wp2_with fail
  rw [← hw2]
  clear hw2 p0 p1 p2 p3 p4 p5 p6 p7 p8 p9 p10
  refine (HFT.out _ K2.out).mono ?_
  rintro _ w3 ⟨rfl, k3⟩
  have K3 := Lib.hid (K2.out.trans k3)
  have b1 := k3.cell' HB.out.1 (fun f => f)
  have b2 := k3.cell' HB.out.2.1 (fun f => f)
  have b3 := k3.cell' HB.out.2.2 (fun f => f)
  clear k3
  go_wp2_with fail
  go_ret
  exact ⟨rfl, HO0.out.trans K3.out⟩
end Go.Proofs.Ytonacdjaimokeaa.tirw
