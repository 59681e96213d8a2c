/- Tariffs: is it one? The program's answer and the document's. -/
import Derived.Test.YtdfghdccbpnohaaTirL
namespace Go.Proofs.Ytdfghdccbpnohaa.tirw
open Go.RowKit mem tirm intm
set_option linter.unusedVariables false

set_option maxRecDepth 100000 in
set_option maxHeartbeats 4000000 in
theorem tcheck_any (G M B : Int) (a : Option Addr) (len cap : Nat) (ts : List Tr) (w : World) (h : ReadsT w a len ts) :
    Calls Try.prog 27 #[.agg #[.int .i64 G, .int .i64 M, .int .i64 B, .slice a len cap]] w fun e w' => e = .returned (.int .i64 (tchk G M B ts)) ∧ Only (fun _ => False) w w' := by
  have hm := h.2.1
  have H := Lib.hid h
  have HL : Hid (ts.length = len) := Lib.hid h.1
  clear h
  have HO : Hid (∀ o, Only (fun _ => False) w (w.alloc o)) := Lib.hid (fun o => (Only.refl _ w).alloc o)
  have hcs : G < 1 ∨ (1 ≤ G ∧ 8 < G) ∨ (1 ≤ G ∧ G ≤ 8 ∧ B < 1) ∨ (1 ≤ G ∧ G ≤ 8 ∧ 1 ≤ B ∧ 1073741824 < B) ∨ (1 ≤ G ∧ G ≤ 8 ∧ 1 ≤ B ∧ B ≤ 1073741824) := by omega
  rcases hcs with h1 | ⟨h1, h2⟩ | ⟨h1, h2, h3⟩ | ⟨h1, h2, h3, h4⟩ | ⟨h1, h2, h3, h4⟩
  · have HR : Hid (tchk G M B ts = 1) := Lib.hid (by unfold tchk; rw [if_pos (by omega)])
    have hg : (decide (G < 1) || decide (8 < G) || decide (B < 1) || decide (1073741824 < B)) = true := by simp; omega
    go_enter Try.func27, Try.ntmps27
    go_wp2_with fail
    go_ret
    exact ⟨by rw [HR.out]; rfl, HO.out _⟩
  · have HR : Hid (tchk G M B ts = 1) := Lib.hid (by unfold tchk; rw [if_pos (by omega)])
    have hg : (decide (G < 1) || decide (8 < G) || decide (B < 1) || decide (1073741824 < B)) = true := by simp; omega
    go_enter Try.func27, Try.ntmps27
    go_wp2_with fail
    go_ret
    exact ⟨by rw [HR.out]; rfl, HO.out _⟩
  · have HR : Hid (tchk G M B ts = 1) := Lib.hid (by unfold tchk; rw [if_pos (by omega)])
    have hg : (decide (G < 1) || decide (8 < G) || decide (B < 1) || decide (1073741824 < B)) = true := by simp; omega
    go_enter Try.func27, Try.ntmps27
    go_wp2_with fail
    go_ret
    exact ⟨by rw [HR.out]; rfl, HO.out _⟩
  · have HR : Hid (tchk G M B ts = 1) := Lib.hid (by unfold tchk; rw [if_pos (by omega)])
    have hg : (decide (G < 1) || decide (8 < G) || decide (B < 1) || decide (1073741824 < B)) = true := by simp; omega
    go_enter Try.func27, Try.ntmps27
    go_wp2_with fail
    go_ret
    exact ⟨by rw [HR.out]; rfl, HO.out _⟩
  · have hg : (decide (G < 1) || decide (8 < G) || decide (B < 1) || decide (1073741824 < B)) = false := by simp; omega
    by_cases hM : M ≠ 1 ∧ M ≠ 2
    · have HR : Hid (tchk G M B ts = 21) := Lib.hid (by unfold tchk; rw [if_neg (by omega), if_pos hM])
      have hm3 : (M != 1 && M != 2) = true := by simp [hM.1, hM.2]
      have hm1 : ¬ M = 1 := hM.1
      have hm2 : ¬ M = 2 := hM.2
      clear hM
      go_enter Try.func27, Try.ntmps27
      go_wp2_with fail
      go_ret
      exact ⟨by rw [HR.out]; rfl, HO.out _⟩
    · have hM2 : M = 1 ∨ M = 2 := by omega
      by_cases h5 : len < 1
      · have HR : Hid (tchk G M B ts = 5) := Lib.hid (by unfold tchk; rw [if_neg (by omega), if_neg (by omega), if_pos (.inl (by rw [HL.out]; exact h5))])
        have hl : (decide ((len : Int) < 1) || decide (6 < (len : Int))) = true := by simp; omega
        rcases hM2 with rfl | rfl
        all_goals (go_enter Try.func27, Try.ntmps27; go_wp2_with fail; go_ret; exact ⟨by rw [HR.out]; rfl, HO.out _⟩)
      · by_cases h6 : 6 < len
        · have HR : Hid (tchk G M B ts = 5) := Lib.hid (by unfold tchk; rw [if_neg (by omega), if_neg (by omega), if_pos (.inr (by rw [HL.out]; exact h6))])
          have hl : (decide ((len : Int) < 1) || decide (6 < (len : Int))) = true := by simp; omega
          rcases hM2 with rfl | rfl
          all_goals (go_enter Try.func27, Try.ntmps27; go_wp2_with fail; go_ret; exact ⟨by rw [HR.out]; rfl, HO.out _⟩)
        · have HR : Hid (tchk G M B ts = tchkF 0 ts) := Lib.hid (by unfold tchk; rw [if_neg (by omega), if_neg (by omega), if_neg (by rw [HL.out]; omega)])
          have hl : (decide ((len : Int) < 1) || decide (6 < (len : Int))) = false := by simp; omega
          rw [HR.out]
          have HCT := Lib.hid (fun w' (ho : Only (fun _ => False) w w') => ctiers_any a len cap ts w' (H.out.only ho (fun _ _ f => f)))
          rcases hM2 with rfl | rfl
          all_goals (go_enter Try.func27, Try.ntmps27; go_wp2_with fail; refine (HCT.out _ (HO.out _)).mono ?_; rintro _ w1 ⟨rfl, h1⟩; have HF := Lib.hid ((HO.out _).trans h1); go_wp2_with fail; go_ret; exact ⟨rfl, HF.out⟩)
end Go.Proofs.Ytdfghdccbpnohaa.tirw
