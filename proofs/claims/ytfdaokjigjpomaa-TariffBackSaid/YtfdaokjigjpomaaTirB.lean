/- Tariffs: is it one? The program's answer and the document's. -/
import Derived.Test.YtfdaokjigjpomaaTirL
namespace Go.Proofs.Ytfdaokjigjpomaa.tirw
open Go.RowKit mem tirm intm
set_option linter.unusedVariables false

set_option maxRecDepth 100000 in
set_option maxHeartbeats 4000000 in
theorem tcheck_any (G M B : Int) (a : Option Addr) (len cap : Nat) (ts : List Tr) (w : World) (h : ReadsT w a len ts) :
    Calls Try.prog 34 #[.agg #[.int .i64 G, .int .i64 M, .int .i64 B, .slice a len cap]] w fun e w' => e = .returned (.int .i64 (tchk G M B ts)) ∧ Only (fun _ => False) w w' := by
  have hm := h.2.1
  have H := Lib.hid h
  have HL : Hid (ts.length = len) := Lib.hid h.1
  clear h
  have HO : Hid (∀ o, Only (fun _ => False) w (w.alloc o)) := Lib.hid (fun o => (Only.refl _ w).alloc o)
  have hcs : G < 1 ∨ (1 ≤ G ∧ 8 < G) ∨ (1 ≤ G ∧ G ≤ 8 ∧ B < 1) ∨ (1 ≤ G ∧ G ≤ 8 ∧ 1 ≤ B ∧ 1073741824 < B) ∨ (1 ≤ G ∧ G ≤ 8 ∧ 1 ≤ B ∧ B ≤ 1073741824) := by omega
  rcases hcs with h1 | ⟨h1, h2⟩ | ⟨h1, h2, h3⟩ | ⟨h1, h2, h3, h4⟩ | ⟨h1, h2, h3, h4⟩
  · have HR : Hid (tchk G M B ts = 1) := Lib.hid (by unfold tchk; rw [if_pos (by omega)])
    have hg : (decide (G < 1) || decide (8 < G) || decide (B < 1) || decide (1073741824 < B)) = true := by simp; omega
    go_enter Try.func34, Try.ntmps34
    go_wp2_with fail
    go_ret
    exact ⟨by rw [HR.out]; rfl, HO.out _⟩
  · have HR : Hid (tchk G M B ts = 1) := Lib.hid (by unfold tchk; rw [if_pos (by omega)])
    have hg : (decide (G < 1) || decide (8 < G) || decide (B < 1) || decide (1073741824 < B)) = true := by simp; omega
    go_enter Try.func34, Try.ntmps34
    go_wp2_with fail
    go_ret
    exact ⟨by rw [HR.out]; rfl, HO.out _⟩
  · have HR : Hid (tchk G M B ts = 1) := Lib.hid (by unfold tchk; rw [if_pos (by omega)])
    have hg : (decide (G < 1) || decide (8 < G) || decide (B < 1) || decide (1073741824 < B)) = true := by simp; omega
    go_enter Try.func34, Try.ntmps34
    go_wp2_with fail
    go_ret
    exact ⟨by rw [HR.out]; rfl, HO.out _⟩
  · have HR : Hid (tchk G M B ts = 1) := Lib.hid (by unfold tchk; rw [if_pos (by omega)])
    have hg : (decide (G < 1) || decide (8 < G) || decide (B < 1) || decide (1073741824 < B)) = true := by simp; omega
    go_enter Try.func34, Try.ntmps34
    go_wp2_with fail
    go_ret
    exact ⟨by rw [HR.out]; rfl, HO.out _⟩
  · have hg : (decide (G < 1) || decide (8 < G) || decide (B < 1) || decide (1073741824 < B)) = false := by simp; omega
    by_cases hM : M ≠ 1 ∧ M ≠ 2
    · have HR : Hid (tchk G M B ts = 21) := Lib.hid (by unfold tchk; rw [if_neg (by omega), if_pos hM])
      have hm3 : (M != 1 && M != 2) = true := by simp [hM.1, hM.2]
      have hm1 : ¬ M = 1 := hM.1
      have hm2 : ¬ M = 2 := hM.2
      clear hM
      go_enter Try.func34, Try.ntmps34
      go_wp2_with fail
      go_ret
      exact ⟨by rw [HR.out]; rfl, HO.out _⟩
    · have hM2 : M = 1 ∨ M = 2 := by omega
      by_cases h5 : len < 1
      · have HR : Hid (tchk G M B ts = 5) := Lib.hid (by unfold tchk; rw [if_neg (by omega), if_neg (by omega), if_pos (.inl (by rw [HL.out]; exact h5))])
        have hl : (decide ((len : Int) < 1) || decide (6 < (len : Int))) = true := by simp; omega
        rcases hM2 with rfl | rfl
        all_goals (go_enter Try.func34, Try.ntmps34; go_wp2_with fail; go_ret; exact ⟨by rw [HR.out]; rfl, HO.out _⟩)
      · by_cases h6 : 6 < len
        · have HR : Hid (tchk G M B ts = 5) := Lib.hid (by unfold tchk; rw [if_neg (by omega), if_neg (by omega), if_pos (.inr (by rw [HL.out]; exact h6))])
          have hl : (decide ((len : Int) < 1) || decide (6 < (len : Int))) = true := by simp; omega
          rcases hM2 with rfl | rfl
          all_goals (go_enter Try.func34, Try.ntmps34; go_wp2_with fail; go_ret; exact ⟨by rw [HR.out]; rfl, HO.out _⟩)
        · have HR : Hid (tchk G M B ts = tchkF 0 ts) := Lib.hid (by unfold tchk; rw [if_neg (by omega), if_neg (by omega), if_neg (by rw [HL.out]; omega)])
          have hl : (decide ((len : Int) < 1) || decide (6 < (len : Int))) = false := by simp; omega
          rw [HR.out]
          have HCT := Lib.hid (fun w' (ho : Only (fun _ => False) w w') => ctiers_any a len cap ts w' (H.out.only ho (fun _ _ f => f)))
          rcases hM2 with rfl | rfl
          all_goals (go_enter Try.func34, Try.ntmps34; go_wp2_with fail; refine (HCT.out _ (HO.out _)).mono ?_; rintro _ w1 ⟨rfl, h1⟩; have HF := Lib.hid ((HO.out _).trans h1); go_wp2_with fail; go_ret; exact ⟨rfl, HF.out⟩)
set_option maxRecDepth 100000 in
set_option maxHeartbeats 4000000 in
theorem rtcheck_any (G M B : Int) (a : Option Addr) (len cap : Nat) (ts : List Tr) (w : World) (h : ReadsT w a len ts) :
    Calls Try.prog 20 #[.agg #[.int .i64 G, .int .i64 M, .int .i64 B, .slice a len cap]] w fun e w' => e = .returned (.int .i64 (tchk G M B ts)) ∧ Only (fun _ => False) w w' := by
  have hm := h.2.1
  have H := Lib.hid h
  have HL : Hid (ts.length = len) := Lib.hid h.1
  clear h
  have HO : Hid (∀ o, Only (fun _ => False) w (w.alloc o)) := Lib.hid (fun o => (Only.refl _ w).alloc o)
  have hcs : G < 1 ∨ (1 ≤ G ∧ 8 < G) ∨ (1 ≤ G ∧ G ≤ 8 ∧ B < 1) ∨ (1 ≤ G ∧ G ≤ 8 ∧ 1 ≤ B ∧ 1073741824 < B) ∨ (1 ≤ G ∧ G ≤ 8 ∧ 1 ≤ B ∧ B ≤ 1073741824) := by omega
  rcases hcs with h1 | ⟨h1, h2⟩ | ⟨h1, h2, h3⟩ | ⟨h1, h2, h3, h4⟩ | ⟨h1, h2, h3, h4⟩
  · have HR : Hid (tchk G M B ts = 1) := Lib.hid (by unfold tchk; rw [if_pos (by omega)])
    have hg : (decide (G < 1) || decide (8 < G) || decide (B < 1) || decide (1073741824 < B)) = true := by simp; omega
    go_enter Try.func20, Try.ntmps20
    go_wp2_with fail
    go_ret
    exact ⟨by rw [HR.out]; rfl, HO.out _⟩
  · have HR : Hid (tchk G M B ts = 1) := Lib.hid (by unfold tchk; rw [if_pos (by omega)])
    have hg : (decide (G < 1) || decide (8 < G) || decide (B < 1) || decide (1073741824 < B)) = true := by simp; omega
    go_enter Try.func20, Try.ntmps20
    go_wp2_with fail
    go_ret
    exact ⟨by rw [HR.out]; rfl, HO.out _⟩
  · have HR : Hid (tchk G M B ts = 1) := Lib.hid (by unfold tchk; rw [if_pos (by omega)])
    have hg : (decide (G < 1) || decide (8 < G) || decide (B < 1) || decide (1073741824 < B)) = true := by simp; omega
    go_enter Try.func20, Try.ntmps20
    go_wp2_with fail
    go_ret
    exact ⟨by rw [HR.out]; rfl, HO.out _⟩
  · have HR : Hid (tchk G M B ts = 1) := Lib.hid (by unfold tchk; rw [if_pos (by omega)])
    have hg : (decide (G < 1) || decide (8 < G) || decide (B < 1) || decide (1073741824 < B)) = true := by simp; omega
    go_enter Try.func20, Try.ntmps20
    go_wp2_with fail
    go_ret
    exact ⟨by rw [HR.out]; rfl, HO.out _⟩
  · have hg : (decide (G < 1) || decide (8 < G) || decide (B < 1) || decide (1073741824 < B)) = false := by simp; omega
    by_cases hM : M ≠ 1 ∧ M ≠ 2
    · have HR : Hid (tchk G M B ts = 21) := Lib.hid (by unfold tchk; rw [if_neg (by omega), if_pos hM])
      have hm3 : (M != 1 && M != 2) = true := by simp [hM.1, hM.2]
      have hm1 : ¬ M = 1 := hM.1
      have hm2 : ¬ M = 2 := hM.2
      clear hM
      go_enter Try.func20, Try.ntmps20
      go_wp2_with fail
      go_ret
      exact ⟨by rw [HR.out]; rfl, HO.out _⟩
    · have hM2 : M = 1 ∨ M = 2 := by omega
      by_cases h5 : len < 1
      · have HR : Hid (tchk G M B ts = 5) := Lib.hid (by unfold tchk; rw [if_neg (by omega), if_neg (by omega), if_pos (.inl (by rw [HL.out]; exact h5))])
        have hl : (decide ((len : Int) < 1) || decide (6 < (len : Int))) = true := by simp; omega
        rcases hM2 with rfl | rfl
        all_goals (go_enter Try.func20, Try.ntmps20; go_wp2_with fail; go_ret; exact ⟨by rw [HR.out]; rfl, HO.out _⟩)
      · by_cases h6 : 6 < len
        · have HR : Hid (tchk G M B ts = 5) := Lib.hid (by unfold tchk; rw [if_neg (by omega), if_neg (by omega), if_pos (.inr (by rw [HL.out]; exact h6))])
          have hl : (decide ((len : Int) < 1) || decide (6 < (len : Int))) = true := by simp; omega
          rcases hM2 with rfl | rfl
          all_goals (go_enter Try.func20, Try.ntmps20; go_wp2_with fail; go_ret; exact ⟨by rw [HR.out]; rfl, HO.out _⟩)
        · have HR : Hid (tchk G M B ts = tchkF 0 ts) := Lib.hid (by unfold tchk; rw [if_neg (by omega), if_neg (by omega), if_neg (by rw [HL.out]; omega)])
          have hl : (decide ((len : Int) < 1) || decide (6 < (len : Int))) = false := by simp; omega
          rw [HR.out]
          obtain ⟨b, off, rfl, hcell⟩ := H.out.2.2.2.resolve_left (by omega)
          have HC := Lib.hid hcell
          clear hcell
          rcases hM2 with rfl | rfl
          · obtain ⟨w0, hw0⟩ : ∃ w0, w0 = w.alloc (.cells #[.int .i64 G, .int .i64 1, .int .i64 B, .slice (some ⟨b, off, none⟩) len cap] 24) := ⟨_, rfl⟩
            have HO0 : Hid (Only (fun _ => False) w w0) := Lib.hid (by rw [hw0]; exact (Only.refl _ w).alloc _)
            have HBX : Hid (w0.cell? ⟨w.heap.size, 3, none⟩ = some (.slice (some ⟨b, off, none⟩) len cap)) := Lib.hid (by rw [hw0]; exact alloc_new _ _ _ _ _ _ rfl rfl)
            go_enter Try.func20, Try.ntmps20
            go_wp2_with fail
            rw [← hw0]
            clear hw0
            go_loopw [3, 4] (fun l i wr => ∃ (k : Nat) (l0 : Int), k ≤ len ∧ i = .int .i64 k ∧ l = .int .i64 l0 ∧ Hid (tchkF l0 (ts.drop k) = tchkF 0 ts) ∧ Hid (Only (fun _ => False) w0 wr)) (fun _ i _ => len - (intOf i).toNat)
            case atStart => exact ⟨0, 0, by omega, rfl, rfl, Lib.hid rfl, Lib.hid (Only.refl _ _)⟩
            case round =>
              obtain ⟨k, l0, hk, rfl, rfl, HP, HW⟩ := hrel
              by_cases h8 : k < len
              · obtain ⟨hc0, hc1⟩ := HC.out k h8
                have hst := HP.out
                rw [tchk_step (by rw [HL.out]; exact h8), HL.out] at hst
                have c0 := (HO0.out.trans HW.out).cell' hc0 (fun f => f)
                have c1 := (HO0.out.trans HW.out).cell' hc1 (fun f => f)
                have HA : Hid (∀ o, Only (fun _ => False) w0 (wr.alloc o)) := Lib.hid (fun o => HW.out.alloc o)
                have HAW : Hid (∀ o, Only (fun _ => False) w (wr.alloc o)) := Lib.hid (fun o => HO0.out.trans (HW.out.alloc o))
                have hb := HW.out.cell' HBX.out (fun f => f)
                have hb2 : ∀ o, (wr.alloc o).cell? ⟨w.heap.size, 3, none⟩ = some (.slice (some ⟨b, off, none⟩) len cap) := fun o => (HW.out.alloc o).cell' HBX.out (fun f => f)
                generalize ts.getD k default = x at *
                obtain ⟨u, p⟩ := x
                dsimp only at c0 c1 hst
                clear hc0 hc1
                by_cases h1 : p < 0
                · have HR : Hid (tchkF 0 ts = 1) := Lib.hid (by rw [← hst, if_pos (.inl h1)])
                  clear hst
                  go_wp2_with fail
                  go_ret
                  exact ⟨by rw [HR.out]; rfl, HAW.out _⟩
                · by_cases h2 : 1048576 < p
                  · have HR : Hid (tchkF 0 ts = 1) := Lib.hid (by rw [← hst, if_pos (.inr h2)])
                    clear hst
                    go_wp2_with fail
                    go_ret
                    exact ⟨by rw [HR.out]; rfl, HAW.out _⟩
                  · rw [if_neg (by omega)] at hst
                    by_cases h3 : k + 1 = len
                    · simp only [eq_true h3, if_true] at hst
                      subst h3
                      by_cases h4 : u = 0
                      · rw [if_neg (by simpa using h4)] at hst
                        have HN := Lib.hid hst
                        subst h4
                        clear hst
                        go_wp2_with fail
                        go_round
                        case rel => exact ⟨k + 1, _, by omega, by go_num, rfl, HN, Lib.hid (HA.out _)⟩
                        case measure => simp [intOf]
                      · have HR : Hid (tchkF 0 ts = 15) := Lib.hid (by rw [← hst, if_pos h4])
                        clear hst
                        go_wp2_with fail
                        go_ret
                        exact ⟨by rw [HR.out]; rfl, HAW.out _⟩
                    · simp only [eq_false h3, if_false] at hst
                      have hkl : (k : Int) < (len : Int) - 1 := by omega
                      have hkl2 : ¬ (k : Int) = (len : Int) - 1 := by omega
                      by_cases h4 : u ≤ l0
                      · have HR : Hid (tchkF 0 ts = 15) := Lib.hid (by rw [← hst, if_pos (.inl h4)])
                        clear hst
                        go_wp2_with fail
                        go_ret
                        exact ⟨by rw [HR.out]; rfl, HAW.out _⟩
                      · by_cases h5 : 1099511627776 < u
                        · have HR : Hid (tchkF 0 ts = 15) := Lib.hid (by rw [← hst, if_pos (.inr h5)])
                          clear hst
                          go_wp2_with fail
                          go_ret
                          exact ⟨by rw [HR.out]; rfl, HAW.out _⟩
                        · rw [if_neg (by omega)] at hst
                          have HN := Lib.hid hst
                          clear hst
                          go_wp2_with fail
                          go_round
                          case rel => exact ⟨k + 1, _, by omega, by go_num, rfl, HN, Lib.hid (HA.out _)⟩
                          case measure => simp [intOf]; omega
              · obtain rfl : k = len := by omega
                have HR : Hid (tchkF 0 ts = 0) := Lib.hid (by rw [← HP.out, List.drop_eq_nil_of_le (by rw [HL.out]; omega)]; rfl)
                have hb := HW.out.cell' HBX.out (fun f => f)
                go_wp2_with fail
                go_ret
                exact ⟨by rw [HR.out]; rfl, HO0.out.trans HW.out⟩
          · obtain ⟨w0, hw0⟩ : ∃ w0, w0 = w.alloc (.cells #[.int .i64 G, .int .i64 2, .int .i64 B, .slice (some ⟨b, off, none⟩) len cap] 24) := ⟨_, rfl⟩
            have HO0 : Hid (Only (fun _ => False) w w0) := Lib.hid (by rw [hw0]; exact (Only.refl _ w).alloc _)
            have HBX : Hid (w0.cell? ⟨w.heap.size, 3, none⟩ = some (.slice (some ⟨b, off, none⟩) len cap)) := Lib.hid (by rw [hw0]; exact alloc_new _ _ _ _ _ _ rfl rfl)
            go_enter Try.func20, Try.ntmps20
            go_wp2_with fail
            rw [← hw0]
            clear hw0
            go_loopw [3, 4] (fun l i wr => ∃ (k : Nat) (l0 : Int), k ≤ len ∧ i = .int .i64 k ∧ l = .int .i64 l0 ∧ Hid (tchkF l0 (ts.drop k) = tchkF 0 ts) ∧ Hid (Only (fun _ => False) w0 wr)) (fun _ i _ => len - (intOf i).toNat)
            case atStart => exact ⟨0, 0, by omega, rfl, rfl, Lib.hid rfl, Lib.hid (Only.refl _ _)⟩
            case round =>
              obtain ⟨k, l0, hk, rfl, rfl, HP, HW⟩ := hrel
              by_cases h8 : k < len
              · obtain ⟨hc0, hc1⟩ := HC.out k h8
                have hst := HP.out
                rw [tchk_step (by rw [HL.out]; exact h8), HL.out] at hst
                have c0 := (HO0.out.trans HW.out).cell' hc0 (fun f => f)
                have c1 := (HO0.out.trans HW.out).cell' hc1 (fun f => f)
                have HA : Hid (∀ o, Only (fun _ => False) w0 (wr.alloc o)) := Lib.hid (fun o => HW.out.alloc o)
                have HAW : Hid (∀ o, Only (fun _ => False) w (wr.alloc o)) := Lib.hid (fun o => HO0.out.trans (HW.out.alloc o))
                have hb := HW.out.cell' HBX.out (fun f => f)
                have hb2 : ∀ o, (wr.alloc o).cell? ⟨w.heap.size, 3, none⟩ = some (.slice (some ⟨b, off, none⟩) len cap) := fun o => (HW.out.alloc o).cell' HBX.out (fun f => f)
                generalize ts.getD k default = x at *
                obtain ⟨u, p⟩ := x
                dsimp only at c0 c1 hst
                clear hc0 hc1
                by_cases h1 : p < 0
                · have HR : Hid (tchkF 0 ts = 1) := Lib.hid (by rw [← hst, if_pos (.inl h1)])
                  clear hst
                  go_wp2_with fail
                  go_ret
                  exact ⟨by rw [HR.out]; rfl, HAW.out _⟩
                · by_cases h2 : 1048576 < p
                  · have HR : Hid (tchkF 0 ts = 1) := Lib.hid (by rw [← hst, if_pos (.inr h2)])
                    clear hst
                    go_wp2_with fail
                    go_ret
                    exact ⟨by rw [HR.out]; rfl, HAW.out _⟩
                  · rw [if_neg (by omega)] at hst
                    by_cases h3 : k + 1 = len
                    · simp only [eq_true h3, if_true] at hst
                      subst h3
                      by_cases h4 : u = 0
                      · rw [if_neg (by simpa using h4)] at hst
                        have HN := Lib.hid hst
                        subst h4
                        clear hst
                        go_wp2_with fail
                        go_round
                        case rel => exact ⟨k + 1, _, by omega, by go_num, rfl, HN, Lib.hid (HA.out _)⟩
                        case measure => simp [intOf]
                      · have HR : Hid (tchkF 0 ts = 15) := Lib.hid (by rw [← hst, if_pos h4])
                        clear hst
                        go_wp2_with fail
                        go_ret
                        exact ⟨by rw [HR.out]; rfl, HAW.out _⟩
                    · simp only [eq_false h3, if_false] at hst
                      have hkl : (k : Int) < (len : Int) - 1 := by omega
                      have hkl2 : ¬ (k : Int) = (len : Int) - 1 := by omega
                      by_cases h4 : u ≤ l0
                      · have HR : Hid (tchkF 0 ts = 15) := Lib.hid (by rw [← hst, if_pos (.inl h4)])
                        clear hst
                        go_wp2_with fail
                        go_ret
                        exact ⟨by rw [HR.out]; rfl, HAW.out _⟩
                      · by_cases h5 : 1099511627776 < u
                        · have HR : Hid (tchkF 0 ts = 15) := Lib.hid (by rw [← hst, if_pos (.inr h5)])
                          clear hst
                          go_wp2_with fail
                          go_ret
                          exact ⟨by rw [HR.out]; rfl, HAW.out _⟩
                        · rw [if_neg (by omega)] at hst
                          have HN := Lib.hid hst
                          clear hst
                          go_wp2_with fail
                          go_round
                          case rel => exact ⟨k + 1, _, by omega, by go_num, rfl, HN, Lib.hid (HA.out _)⟩
                          case measure => simp [intOf]; omega
              · obtain rfl : k = len := by omega
                have HR : Hid (tchkF 0 ts = 0) := Lib.hid (by rw [← HP.out, List.drop_eq_nil_of_le (by rw [HL.out]; omega)]; rfl)
                have hb := HW.out.cell' HBX.out (fun f => f)
                go_wp2_with fail
                go_ret
                exact ⟨by rw [HR.out]; rfl, HO0.out.trans HW.out⟩
end Go.Proofs.Ytfdaokjigjpomaa.tirw
