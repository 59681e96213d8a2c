/- Plans: what is wrong with one: the program's CheckPlan. -/
import Derived.Test.YtfdaokjigjpomaaTirB
namespace Go.Proofs.Ytfdaokjigjpomaa.tirw
open Go.RowKit mem tirm intm
set_option linter.unusedVariables false

/-- may a plan have such a day? -/
def DayP (D F T : Int) : Prop := 2 ≤ D ∧ D ≤ 1073741824 ∧ 0 ≤ F ∧ F < D ∧ 0 ≤ T ∧ T < D ∧ F ≠ T
instance (D F T : Int) : Decidable (DayP D F T) := inferInstanceAs (Decidable (_ ∧ _))
/-- what is wrong with a plan -/
def pchk (D F T G1 M1 B1 G2 M2 B2 : Int) (t1 t2 : List Tr) : Int :=
  if tchk G1 M1 B1 t1 ≠ 0 then tchk G1 M1 B1 t1 else
  if D = 0 then (if F ≠ 0 ∨ T ≠ 0 ∨ G2 ≠ 0 ∨ M2 ≠ 0 ∨ B2 ≠ 0 ∨ t2.length ≠ 0 then 2 else 0) else
  if ¬ DayP D F T then 1 else if tchk G2 M2 B2 t2 ≠ 0 then tchk G2 M2 B2 t2 else if G1 ≠ G2 ∨ B1 ≠ B2 then 20 else 0

theorem eqI {a b : Int} (h : a = b) : (a == b) = true ∧ (a != b) = false := by subst h; simp
theorem neI {a b : Int} (h : a ≠ b) : (a == b) = false ∧ (a != b) = true := by constructor <;> simpa using h

theorem isday_any (D F T : Int) (w : World) : Calls Try.prog 36 #[.int .i64 D, .int .i64 F, .int .i64 T] w fun e w' => e = .returned (.bool (decide (DayP D F T))) ∧ w = w' := by
  by_cases h : DayP D F T
  · rw [decide_eq_true h]
    obtain ⟨h1, h2, h3, h4, h5, h6, h7⟩ := h
    obtain ⟨k1, k2⟩ := neI h7
    go_enter Try.func36, Try.ntmps36
    go_wp2_with fail
    go_ret
    exact ⟨by simp, rfl⟩
  · rw [decide_eq_false h]
    by_cases h1 : 2 ≤ D
    rotate_left
    · clear h
      go_enter Try.func36, Try.ntmps36
      go_wp2_with fail
      go_ret
      exact ⟨by simp [*], rfl⟩
    by_cases h2 : D ≤ 1073741824
    rotate_left
    · clear h
      go_enter Try.func36, Try.ntmps36
      go_wp2_with fail
      go_ret
      exact ⟨by simp [*], rfl⟩
    by_cases h3 : 0 ≤ F
    rotate_left
    · clear h
      go_enter Try.func36, Try.ntmps36
      go_wp2_with fail
      go_ret
      exact ⟨by simp [*], rfl⟩
    by_cases h4 : F < D
    rotate_left
    · clear h
      go_enter Try.func36, Try.ntmps36
      go_wp2_with fail
      go_ret
      exact ⟨by simp [*], rfl⟩
    by_cases h5 : 0 ≤ T
    rotate_left
    · clear h
      go_enter Try.func36, Try.ntmps36
      go_wp2_with fail
      go_ret
      exact ⟨by simp [*], rfl⟩
    by_cases h6 : T < D
    rotate_left
    · clear h
      go_enter Try.func36, Try.ntmps36
      go_wp2_with fail
      go_ret
      exact ⟨by simp [*], rfl⟩
    have h7 : F = T := by
      by_cases e : F = T
      · exact e
      · exact absurd ⟨h1, h2, h3, h4, h5, h6, e⟩ h
    subst h7
    clear h
    go_enter Try.func36, Try.ntmps36
    go_wp2_with fail
    go_ret
    exact ⟨by simp [*], rfl⟩

/-- slices.Equal with none -/
theorem equal_none (a : Option Addr) (n c : Nat) (hm : n ≤ 9223372036854775807) (w : World) : Calls Try.prog 46 #[.slice a n c, .slice none 0 0] w fun e w' => e = .returned (.bool (decide (n = 0))) ∧ w = w' := by
  by_cases h : n = 0
  · subst h
    go_enter Try.func46, Try.ntmps46
    go_wp2_with fail
    go_loop [13] (fun i => i = .int .i64 0) (fun _ => 0)
    case atStart => rfl
    case round =>
      obtain rfl := hrel
      go_wp2_with fail
      go_ret
      exact ⟨rfl, rfl⟩
  · rw [decide_eq_false h]
    have h2 : ((n : Int) == 0) = false := by simpa using h
    have h3 : ((n : Int) != 0) = true := by simpa using h
    go_enter Try.func46, Try.ntmps46
    go_wp2_with fail
    go_ret
    exact ⟨rfl, rfl⟩
def ZeroT (G M B : Int) (n : Nat) : Prop := G = 0 ∧ M = 0 ∧ B = 0 ∧ n = 0
instance (G M B : Int) (n : Nat) : Decidable (ZeroT G M B n) := inferInstanceAs (Decidable (_ ∧ _))
set_option maxRecDepth 100000 in
theorem same_zero (G M B : Int) (a : Option Addr) (n c : Nat) (hm : n ≤ 9223372036854775807) (w : World) : Calls Try.prog 35 #[.agg #[.int .i64 G, .int .i64 M, .int .i64 B, .slice a n c], .agg #[.int .i64 0, .int .i64 0, .int .i64 0, .slice none 0 0]] w fun e w' => e = .returned (.bool (decide (ZeroT G M B n))) ∧ Only (fun _ => False) w w' := by
  have HO : Hid (∀ o p, Only (fun _ => False) w ((w.alloc o).alloc p)) := Lib.hid (fun o p => ((Only.refl _ w).alloc o).alloc p)
  have HE := Lib.hid (fun w => equal_none a n c hm w)
  have e : decide (ZeroT G M B n) = ((G == 0) && (M == 0) && (B == 0) && decide (n = 0)) := by
    by_cases z : ZeroT G M B n
    · rw [decide_eq_true z]
      obtain ⟨rfl, rfl, rfl, rfl⟩ := z
      rfl
    · rw [decide_eq_false z]
      symm
      rw [Bool.eq_false_iff]
      intro f
      apply z
      simp only [Bool.and_eq_true, beq_iff_eq, decide_eq_true_eq] at f
      exact ⟨f.1.1.1, f.1.1.2, f.1.2, f.2⟩
  rw [e]
  clear e
  generalize decide (n = 0) = r at *
  by_cases h0 : G = 0
  rotate_left
  · obtain ⟨k1, k2⟩ := neI h0
    go_enter Try.func35, Try.ntmps35
    go_wp2_with fail
    go_ret
    exact ⟨by simp [*], HO.out _ _⟩
  subst h0
  by_cases h1 : M = 0
  rotate_left
  · obtain ⟨k1, k2⟩ := neI h1
    go_enter Try.func35, Try.ntmps35
    go_wp2_with fail
    go_ret
    exact ⟨by simp [*], HO.out _ _⟩
  subst h1
  by_cases h2 : B = 0
  rotate_left
  · obtain ⟨k1, k2⟩ := neI h2
    go_enter Try.func35, Try.ntmps35
    go_wp2_with fail
    go_ret
    exact ⟨by simp [*], HO.out _ _⟩
  subst h2
  go_enter Try.func35, Try.ntmps35
  go_wp2_with fail
  refine (HE.out _).mono ?_
  rintro _ _ ⟨rfl, rfl⟩
  go_wp2_with fail
  go_ret
  exact ⟨by simp, HO.out _ _⟩
end Go.Proofs.Ytfdaokjigjpomaa.tirw
