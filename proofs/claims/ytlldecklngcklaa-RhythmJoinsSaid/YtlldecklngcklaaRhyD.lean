/- Rhythms: the document's vector, and where it points to. -/
import Derived.Test.YtlldecklngcklaaRhyC
import Derived.BigQuiet
import Derived.Deep.RegionHeld3
import Derived.StillTailTactics
namespace Go.Proofs.Ytlldecklngcklaa.rhyw
open Go.RowKit mem fltm rhym
set_option linter.unusedVariables false

theorem only_drewN {S : Nat → Prop} {a w : World} (h : Only S a w) (n : Nat) : Only S a (w.drewN n) := ⟨h.os, h.tape, h.output, h.size, h.block⟩

set_option maxRecDepth 100000 in
theorem rvec_yes (a b c d : Int) (h : Q4 a b c d) (w : World) : Calls Try.prog 56 #[.agg #[.int .i64 a, .int .i64 b, .int .i64 c, .int .i64 d]] w fun e w' => e = .returned (.tuple #[.int .i64 (a - c), .int .i64 (b - d)]) ∧ Only (fun _ => False) w w' := by
  have HQ := Lib.hid h
  have HO : Hid (∀ o, Only (fun _ => False) w (w.alloc o)) := Lib.hid (fun o => (Only.refl _ w).alloc o)
  clear h
  go_enter Try.func56, Try.ntmps56
  go_wp2_with fail
  refine (rright_any a b c d _).mono ?_
  rintro _ w1 ⟨rfl, ho1⟩
  rw [right_yes HQ.out]
  have p0 := ho1.cell' (p := ⟨w.heap.size, 0, none⟩) (v := .int .i64 a) (alloc_new _ _ _ _ _ _ rfl rfl) (fun f => f)
  have p1 := ho1.cell' (p := ⟨w.heap.size, 1, none⟩) (v := .int .i64 b) (alloc_new _ _ _ _ _ _ rfl rfl) (fun f => f)
  have p2 := ho1.cell' (p := ⟨w.heap.size, 2, none⟩) (v := .int .i64 c) (alloc_new _ _ _ _ _ _ rfl rfl) (fun f => f)
  have p3 := ho1.cell' (p := ⟨w.heap.size, 3, none⟩) (v := .int .i64 d) (alloc_new _ _ _ _ _ _ rfl rfl) (fun f => f)
  have HF := Lib.hid ((HO.out _).trans ho1)
  have ha := HQ.out.1
  have hb := HQ.out.2.1
  have hc := HQ.out.2.2.1
  have hd := HQ.out.2.2.2
  unfold Q1 at ha hb hc hd
  clear ho1 HO
  go_wp2_with fail
  go_quiet (fail)
  go_wp2_with fail
  go_ret2
  exact ⟨rfl, only_drewN HF.out _⟩
set_option maxRecDepth 100000 in
theorem rvec_no (a b c d : Int) (h : ¬ Q4 a b c d) (w : World) : Calls Try.prog 56 #[.agg #[.int .i64 a, .int .i64 b, .int .i64 c, .int .i64 d]] w fun e w' => e = .returned (.tuple #[.int .i64 0, .int .i64 0]) ∧ Only (fun _ => False) w w' := by
  have HO : Hid (∀ o, Only (fun _ => False) w (w.alloc o)) := Lib.hid (fun o => (Only.refl _ w).alloc o)
  go_enter Try.func56, Try.ntmps56
  go_wp2_with fail
  refine (rright_any a b c d _).mono ?_
  rintro _ w1 ⟨rfl, ho1⟩
  rw [right_no h]
  have HF := Lib.hid ((HO.out _).trans ho1)
  clear ho1 HO h
  go_wp2_with fail
  go_ret2
  exact ⟨rfl, HF.out⟩
theorem rvec_any (a b c d : Int) (w : World) : Calls Try.prog 56 #[.agg #[.int .i64 a, .int .i64 b, .int .i64 c, .int .i64 d]] w fun e w' => e = .returned (.tuple #[.int .i64 (vx a b c d), .int .i64 (vy a b c d)]) ∧ Only (fun _ => False) w w' := by
  unfold vx vy
  by_cases h : Q4 a b c d
  · rw [right_yes h, if_pos rfl, if_pos rfl]
    exact rvec_yes a b c d h w
  · rw [right_no h, if_neg (by simp), if_neg (by simp)]
    exact rvec_no a b c d h w

theorem rsize_any (n : Int) (h1 : -1125899906842624 ≤ n) (h2 : n ≤ 1125899906842624) (w : World) : Calls Try.prog 111 #[.int .i64 n] w fun e w' => e = .returned (.int .i64 ((n.natAbs : Nat) : Int)) ∧ w = w' := by
  by_cases h0 : n < 0
  · have hm : ((n.natAbs : Nat) : Int) = -n := by omega
    rw [hm]
    go_enter Try.func111, Try.ntmps111
    go_wp2_with fail
    go_ret
    exact ⟨rfl, rfl⟩
  · have hm : ((n.natAbs : Nat) : Int) = n := by omega
    have h3 : 0 ≤ n := by omega
    rw [hm]
    go_enter Try.func111, Try.ntmps111
    go_wp2_with fail
    go_ret
    exact ⟨rfl, rfl⟩

set_option maxRecDepth 100000 in
theorem rpeak_any (a b c d : Int) (w : World) : Calls Try.prog 58 #[.agg #[.int .i64 a, .int .i64 b, .int .i64 c, .int .i64 d]] w fun e w' => e = .returned (.tuple #[.int .i64 (peakN (vx a b c d) (vy a b c d)), .bool (peakB (vx a b c d) (vy a b c d))]) ∧ Only (fun _ => False) w w' := by
  have HV := Lib.hid (rvec_any a b c d)
  have hb := v_bounds a b c d
  generalize vx a b c d = x at *
  generalize vy a b c d = y at *
  have HA := Lib.hid (fun w => rsize_any x hb.1.1 hb.1.2 w)
  have HA2 := Lib.hid (fun w => rsize_any y hb.2.1 hb.2.2 w)
  have HO : Hid (∀ o, Only (fun _ => False) w (w.alloc o)) := Lib.hid (fun o => (Only.refl _ w).alloc o)
  clear hb
  go_enter Try.func58, Try.ntmps58
  go_wp2_with fail
  refine (HV.out _).mono ?_
  rintro _ w1 ⟨rfl, ho1⟩
  have HF := Lib.hid ho1
  clear ho1
  have hcases : (x = 0 ∧ y = 0) ∨ (x ≠ 0 ∧ y.natAbs ≤ x.natAbs ∧ 0 < x) ∨ (x ≠ 0 ∧ y.natAbs ≤ x.natAbs ∧ x < 0) ∨ (x = 0 ∧ 0 < y) ∨ (x = 0 ∧ y < 0) ∨ (x ≠ 0 ∧ x.natAbs < y.natAbs ∧ 0 < y) ∨ (x ≠ 0 ∧ x.natAbs < y.natAbs ∧ y < 0) := by omega
  rcases hcases with h | h | h | h | h | h | h
  · have hn : peakN x y = 0 := by unfold peakN; repeat' split
                                  all_goals omega
    have hv : peakB x y = false := by exact (peak_0 h).2
    replace hn := Lib.hid hn
    replace hv := Lib.hid hv
    have h1 := h.1
    have h2 := h.2
    clear h
    go_wp2_with fail
    go_ret2
    exact ⟨by rw [hn.out, hv.out]; rfl, (HO.out _).trans HF.out⟩
  · have hn : peakN x y = 0 := by unfold peakN; repeat' split
                                  all_goals omega
    have hv : peakB x y = true := by exact peak_b (by omega)
    replace hn := Lib.hid hn
    replace hv := Lib.hid hv
    have h1 := h.1
    have h2 : ((y.natAbs : Nat) : Int) ≤ ((x.natAbs : Nat) : Int) := by omega
    have h3 := h.2.2
    clear h
    go_wp2_with fail
    refine (HA.out _).mono ?_
    rintro _ _ ⟨rfl, rfl⟩
    go_wp2_with fail
    refine (HA2.out _).mono ?_
    rintro _ _ ⟨rfl, rfl⟩
    go_wp2_with fail
    go_ret2
    exact ⟨by rw [hn.out, hv.out]; rfl, (HO.out _).trans HF.out⟩
  · have hn : peakN x y = 2 := by unfold peakN; repeat' split
                                  all_goals omega
    have hv : peakB x y = true := by exact peak_b (by omega)
    replace hn := Lib.hid hn
    replace hv := Lib.hid hv
    have h1 := h.1
    have h2 : ((y.natAbs : Nat) : Int) ≤ ((x.natAbs : Nat) : Int) := by omega
    have h3 : ¬ 0 < x := by omega
    clear h
    go_wp2_with fail
    refine (HA.out _).mono ?_
    rintro _ _ ⟨rfl, rfl⟩
    go_wp2_with fail
    refine (HA2.out _).mono ?_
    rintro _ _ ⟨rfl, rfl⟩
    go_wp2_with fail
    go_ret2
    exact ⟨by rw [hn.out, hv.out]; rfl, (HO.out _).trans HF.out⟩
  · have hn : peakN x y = 1 := by unfold peakN; repeat' split
                                  all_goals omega
    have hv : peakB x y = true := by exact peak_b (by omega)
    replace hn := Lib.hid hn
    replace hv := Lib.hid hv
    obtain ⟨rfl, h1⟩ := h
    have h := h1
    have h2 : ¬ ((y.natAbs : Nat) : Int) ≤ (((0 : Int).natAbs : Nat) : Int) := by omega
    have h3 : ¬ y = 0 := by omega
    clear h
    go_wp2_with fail
    refine (HA.out _).mono ?_
    rintro _ _ ⟨rfl, rfl⟩
    go_wp2_with fail
    refine (HA2.out _).mono ?_
    rintro _ _ ⟨rfl, rfl⟩
    go_wp2_with fail
    go_ret2
    exact ⟨by rw [hn.out, hv.out]; rfl, (HO.out _).trans HF.out⟩
  · have hn : peakN x y = 3 := by unfold peakN; repeat' split
                                  all_goals omega
    have hv : peakB x y = true := by exact peak_b (by omega)
    replace hn := Lib.hid hn
    replace hv := Lib.hid hv
    obtain ⟨rfl, h1⟩ := h
    have h := h1
    have h2 : ¬ ((y.natAbs : Nat) : Int) ≤ (((0 : Int).natAbs : Nat) : Int) := by omega
    have h3 : ¬ 0 < y := by omega
    have h4 : ¬ y = 0 := by omega
    clear h
    go_wp2_with fail
    refine (HA.out _).mono ?_
    rintro _ _ ⟨rfl, rfl⟩
    go_wp2_with fail
    refine (HA2.out _).mono ?_
    rintro _ _ ⟨rfl, rfl⟩
    go_wp2_with fail
    go_ret2
    exact ⟨by rw [hn.out, hv.out]; rfl, (HO.out _).trans HF.out⟩
  · have hn : peakN x y = 1 := by unfold peakN; repeat' split
                                  all_goals omega
    have hv : peakB x y = true := by exact peak_b (by omega)
    replace hn := Lib.hid hn
    replace hv := Lib.hid hv
    have h1 := h.1
    have h2 : ¬ ((y.natAbs : Nat) : Int) ≤ ((x.natAbs : Nat) : Int) := by omega
    have h3 := h.2.2
    clear h
    go_wp2_with fail
    refine (HA.out _).mono ?_
    rintro _ _ ⟨rfl, rfl⟩
    go_wp2_with fail
    refine (HA2.out _).mono ?_
    rintro _ _ ⟨rfl, rfl⟩
    go_wp2_with fail
    go_ret2
    exact ⟨by rw [hn.out, hv.out]; rfl, (HO.out _).trans HF.out⟩
  · have hn : peakN x y = 3 := by unfold peakN; repeat' split
                                  all_goals omega
    have hv : peakB x y = true := by exact peak_b (by omega)
    replace hn := Lib.hid hn
    replace hv := Lib.hid hv
    have h1 := h.1
    have h2 : ¬ ((y.natAbs : Nat) : Int) ≤ ((x.natAbs : Nat) : Int) := by omega
    have h3 : ¬ 0 < y := by omega
    clear h
    go_wp2_with fail
    refine (HA.out _).mono ?_
    rintro _ _ ⟨rfl, rfl⟩
    go_wp2_with fail
    refine (HA2.out _).mono ?_
    rintro _ _ ⟨rfl, rfl⟩
    go_wp2_with fail
    go_ret2
    exact ⟨by rw [hn.out, hv.out]; rfl, (HO.out _).trans HF.out⟩
end Go.Proofs.Ytlldecklngcklaa.rhyw
