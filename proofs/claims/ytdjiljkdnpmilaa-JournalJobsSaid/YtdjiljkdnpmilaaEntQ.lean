/- Entries: the document's own Check. -/
import Derived.Test.YtdjiljkdnpmilaaEntN
namespace Go.Proofs.Ytdjiljkdnpmilaa.entw
open Go.RowKit mem entm
set_option linter.unusedVariables false

def ltB (x y : Lg) : Bool := decide (ltA x y)
theorem ltB_k {x y : Lg} (h : ¬ x.k = y.k) : ltB x y = decide (x.k < y.k) := by
  unfold ltB
  rw [Bool.eq_iff_iff, decide_eq_true_eq, decide_eq_true_eq]
  unfold ltA
  omega
theorem ltB_n {x y : Lg} (h : x.k = y.k) (h2 : ¬ x.n = y.n) : ltB x y = decide (x.n < y.n) := by
  unfold ltB
  rw [Bool.eq_iff_iff, decide_eq_true_eq, decide_eq_true_eq]
  unfold ltA
  omega
theorem ltB_g {x y : Lg} (h : x.k = y.k) (h2 : x.n = y.n) : ltB x y = decide (x.g < y.g) := by
  unfold ltB
  rw [Bool.eq_iff_iff, decide_eq_true_eq, decide_eq_true_eq]
  unfold ltA
  omega

set_option maxHeartbeats 1000000 in
theorem rises_any (x y : Lg) (w : World) : Calls Try.prog 59 #[.agg #[.int .i64 x.k, .int .i64 x.n, .int .i64 x.g, .int .i64 x.a], .agg #[.int .i64 y.k, .int .i64 y.n, .int .i64 y.g, .int .i64 y.a]] w fun e w' => e = .returned (.bool (ltB x y)) ∧ Only (fun _ => False) w w' := by
  have HO : Hid (∀ o p, Only (fun _ => False) w ((w.alloc o).alloc p)) := Lib.hid (fun o p => ((Only.refl _ w).alloc o).alloc p)
  obtain ⟨xk, xn, xg, xa⟩ := x
  obtain ⟨yk, yn, yg, ya⟩ := y
  dsimp only
  by_cases h1 : xk = yk
  · by_cases h2 : xn = yn
    · have HR := Lib.hid (ltB_g (x := ⟨xk, xn, xg, xa⟩) (y := ⟨yk, yn, yg, ya⟩) h1 h2)
      subst h1 h2
      go_enter Try.func59, Try.ntmps59
      go_wp2_with fail
      rw [HR.out]
      go_ret
      exact ⟨rfl, HO.out _ _⟩
    · have HR := Lib.hid (ltB_n (x := ⟨xk, xn, xg, xa⟩) (y := ⟨yk, yn, yg, ya⟩) h1 h2)
      have e1 : (xn == yn) = false := by simpa using h2
      have e2 : (xn != yn) = true := by simpa using h2
      subst h1
      clear h2
      go_enter Try.func59, Try.ntmps59
      go_wp2_with fail
      rw [HR.out]
      go_ret
      exact ⟨rfl, HO.out _ _⟩
  · have HR := Lib.hid (ltB_k (x := ⟨xk, xn, xg, xa⟩) (y := ⟨yk, yn, yg, ya⟩) h1)
    have e1 : (xk == yk) = false := by simpa using h1
    have e2 : (xk != yk) = true := by simpa using h1
    clear h1
    go_enter Try.func59, Try.ntmps59
    go_wp2_with fail
    rw [HR.out]
    go_ret
    exact ⟨rfl, HO.out _ _⟩

set_option maxHeartbeats 1000000 in
theorem raccount_any (k n g a : Int) (w : World) : Calls Try.prog 60 #[.agg #[.int .i64 k, .int .i64 n, .int .i64 g, .int .i64 a]] w fun e w' => e = .returned (.bool (accB ⟨k, n, g, a⟩)) ∧ Only (fun _ => False) w w' := by
  have ho : ∀ o, Only (fun _ => False) w (w.alloc o) := fun o => (Only.refl _ w).alloc o
  by_cases hk : k = 1
  · subst hk
    by_cases hn : n = 0
    · subst hn
      go_enter Try.func60, Try.ntmps60
      go_wp2_with fail
      all_goals go_ret
      all_goals exact ⟨by simp [accB], ho _⟩
    · have hn' : (n == 0) = false := by simpa using hn
      go_enter Try.func60, Try.ntmps60
      go_wp2_with fail
      all_goals go_ret
      all_goals exact ⟨by simp [accB, hn], ho _⟩
  · by_cases hk2 : k = 2 ∨ k = 3 ∨ k = 5
    · by_cases hn1 : 1 ≤ n
      · by_cases hn2 : n ≤ 32
        · rcases hk2 with rfl | rfl | rfl
          all_goals
            go_enter Try.func60, Try.ntmps60
            go_wp2_with fail
            all_goals go_ret
            all_goals exact ⟨by first | (simp [accB, nodeB]; done) | (simp [accB, nodeB]; omega) | (simp [accB, nodeB]; intros; omega), ho _⟩
        · have hd : decide (n ≤ 32) = false := by simpa using hn2
          rcases hk2 with rfl | rfl | rfl
          all_goals
            go_enter Try.func60, Try.ntmps60
            go_wp2_with fail
            all_goals go_ret
            all_goals exact ⟨by first | (simp [accB, nodeB]; done) | (simp [accB, nodeB]; omega) | (simp [accB, nodeB]; intros; omega), ho _⟩
      · have hd : decide (1 ≤ n) = false := by simpa using hn1
        rcases hk2 with rfl | rfl | rfl
        all_goals
          go_enter Try.func60, Try.ntmps60
          go_wp2_with fail
          all_goals go_ret
          all_goals exact ⟨by first | (simp [accB, nodeB]; done) | (simp [accB, nodeB]; omega) | (simp [accB, nodeB]; intros; omega), ho _⟩
    · by_cases hk4 : k = 4
      · subst hk4
        by_cases hn1 : 1 ≤ n
        · by_cases hn2 : n ≤ 32
          · by_cases hg1 : 1 ≤ g
            · go_enter Try.func60, Try.ntmps60
              go_wp2_with fail
              all_goals go_ret
              all_goals exact ⟨by simp [accB, nodeB, hn1, hn2, hg1], ho _⟩
            · have hd : decide (1 ≤ g) = false := by simpa using hg1
              go_enter Try.func60, Try.ntmps60
              go_wp2_with fail
              all_goals go_ret
              all_goals exact ⟨by first | (simp [accB, nodeB]; done) | (simp [accB, nodeB]; omega) | (simp [accB, nodeB]; intros; omega), ho _⟩
          · have hd : decide (n ≤ 32) = false := by simpa using hn2
            go_enter Try.func60, Try.ntmps60
            go_wp2_with fail
            all_goals go_ret
            all_goals exact ⟨by first | (simp [accB, nodeB]; done) | (simp [accB, nodeB]; omega) | (simp [accB, nodeB]; intros; omega), ho _⟩
        · have hd : decide (1 ≤ n) = false := by simpa using hn1
          go_enter Try.func60, Try.ntmps60
          go_wp2_with fail
          all_goals go_ret
          all_goals exact ⟨by first | (simp [accB, nodeB]; done) | (simp [accB, nodeB]; omega) | (simp [accB, nodeB]; intros; omega), ho _⟩
      · have e1 : (k == 1) = false := by simpa using hk
        have e2 : (k == 2) = false := by simpa using (fun e => hk2 (.inl e))
        have e3 : (k == 3) = false := by simpa using (fun e => hk2 (.inr (.inl e)))
        have e4 : (k == 4) = false := by simpa using hk4
        have e5 : (k == 5) = false := by simpa using (fun e => hk2 (.inr (.inr e)))
        have HA : Hid (accB ⟨k, n, g, a⟩ = false) := Lib.hid (by unfold accB; rw [if_neg hk, if_neg hk2, if_neg hk4])
        clear hk hk2 hk4
        go_enter Try.func60, Try.ntmps60
        go_wp2_with fail
        all_goals rw [HA.out]
        all_goals go_ret
        all_goals exact ⟨rfl, ho _⟩

end Go.Proofs.Ytdjiljkdnpmilaa.entw
