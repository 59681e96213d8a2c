/- Rhythms: where the vector points to. -/
import Derived.Test.YtlldecklngcklaaRhyB
namespace Go.Proofs.Ytlldecklngcklaa.rhyw
open Go.RowKit mem fltm rhym
set_option linter.unusedVariables false

theorem bits64 (x : Nat) (w : World) : (callFunc 145 #[.float .f64 x]).run Try.prog w = .ok (.value (.int .u64 (x : Int))) w := by
  rw [run_callFunc_extern Try.func145 (by kernel_rfl) (by kernel_rfl) (by kernel_rfl) (e := Go.Extern.MathFloatBits.float64bits) (by kernel_rfl)]
  rfl
theorem from64 (x : Nat) (w : World) : (callFunc 144 #[.int .u64 (x : Int)]).run Try.prog w = .ok (.value (.float .f64 x)) w := by
  rw [run_callFunc_extern Try.func144 (by kernel_rfl) (by kernel_rfl) (by kernel_rfl) (e := Go.Extern.MathFloatBits.float64frombits) (by kernel_rfl)]
  rfl

theorem abs_any (v : Int) (hv : v.natAbs < 9007199254740992) (w : World) : Calls Try.prog 110 #[.float .f64 (fl v)] w fun e w' => e = .returned (.float .f64 (fl ((v.natAbs : Nat) : Int))) ∧ w = w' := by
  have ha := abs_fl hv
  generalize fl ((v.natAbs : Nat) : Int) = y at *
  generalize fl v = x at *
  clear hv
  go_enter Try.func110, Try.ntmps110
  go_wp2_with (simp only [bits64, from64])
  go_ret
  exact ⟨rfl, rfl⟩

theorem fe {v : Int} (h : v.natAbs < 9007199254740992) : (FloatKind.f64.format.order (fl v) 0 == some Ordering.eq) = decide (v = 0) := by have := eq_fl (v := v) (u := 0) h (by omega); rw [fl_zero] at this; exact this
theorem fg {v : Int} (h : v.natAbs < 9007199254740992) : (FloatKind.f64.format.order (fl v) 0 == some Ordering.gt) = decide (0 < v) := by have := gt_fl (v := v) (u := 0) h (by omega); rw [fl_zero] at this; exact this
theorem fl_lss {v : Int} (h : v.natAbs < 9007199254740992) : (FloatKind.f64.format.order (fl v) 0 == some Ordering.lt) = decide (v < 0) := by have := lt_fl (v := v) (u := 0) h (by omega); rw [fl_zero] at this; exact this
theorem neg_eq {v : Int} (h0 : v < 0) (hv : v.natAbs < 9007199254740992) : Op.unary .neg (.float .f64 (fl v)) = pure (.float .f64 (fl (-v))) := by
  have e := neg_fl h0 hv
  rw [← e]
  rfl
theorem fand {v u : Int} (hv : v.natAbs < 9007199254740992) (hu : u.natAbs < 9007199254740992) : ((FloatKind.f64.format.order (fl v) 0 == some Ordering.eq) && (FloatKind.f64.format.order (fl u) 0 == some Ordering.eq)) = decide (v = 0 ∧ u = 0) := by rw [fe hv, fe hu, Bool.decide_and]
theorem fge {v u : Int} (hv : v.natAbs < 9007199254740992) (hu : u.natAbs < 9007199254740992) : ((FloatKind.f64.format.order (fl v) (fl u) == some Ordering.gt) || (FloatKind.f64.format.order (fl v) (fl u) == some Ordering.eq)) = decide (u ≤ v) := by
  rw [gt_fl hv hu, eq_fl hv hu, ← Bool.decide_or]
  congr 1
  exact propext (by omega)

set_option maxRecDepth 100000 in
theorem peak_any (a b c d : Int) (w : World) : Calls Try.prog 57 #[.agg #[.int .i64 a, .int .i64 b, .int .i64 c, .int .i64 d]] w fun e w' => e = .returned (.tuple #[.int .i64 (peakN (vx a b c d) (vy a b c d)), .bool (peakB (vx a b c d) (vy a b c d))]) ∧ Only (fun _ => False) w w' := by
  have HV := Lib.hid (vector_any a b c d)
  have hb := v_bounds a b c d
  generalize vx a b c d = x at *
  generalize vy a b c d = y at *
  have hx : x.natAbs < 9007199254740992 := by omega
  have hy : y.natAbs < 9007199254740992 := by omega
  have HB := Lib.hid hb
  have HX := Lib.hid hx
  have HY := Lib.hid hy
  have HA := Lib.hid (fun w => abs_any x hx w)
  have HA2 := Lib.hid (fun w => abs_any y hy w)
  have HO : Hid (∀ o, Only (fun _ => False) w (w.alloc o)) := Lib.hid (fun o => (Only.refl _ w).alloc o)
  have HR : Hid (∀ w', Only (fun _ => False) w' w') := Lib.hid (fun w' => Only.refl _ w')
  clear hb hx hy
  go_enter Try.func57, Try.ntmps57
  go_wp2_with fail
  refine (HV.out _).mono ?_
  rintro _ w1 ⟨rfl, ho1⟩
  have HF := Lib.hid ho1
  clear ho1
  have hcases : (x = 0 ∧ y = 0) ∨ (0 < x ∧ (y.natAbs : Int) ≤ x) ∨ (0 < x ∧ x < (y.natAbs : Int) ∧ 0 < y) ∨ (0 < x ∧ x < (y.natAbs : Int) ∧ y ≤ 0) ∨ (x ≤ 0 ∧ 0 < y ∧ (x.natAbs : Int) < y) ∨ (x < 0 ∧ 0 < y ∧ y ≤ (x.natAbs : Int)) ∨ (x < 0 ∧ y ≤ 0 ∧ (y.natAbs : Int) ≤ -x) ∨ (x < 0 ∧ y ≤ 0 ∧ -x < (y.natAbs : Int)) ∨ (x = 0 ∧ y < 0) := by omega
  rcases hcases with h | h | h | h | h | h | h | h | h
  · have hn : peakN x y = 0 := by unfold peakN; repeat' split
                                  all_goals omega
    have hv : peakB x y = false := by exact (peak_0 h).2
    replace hn := Lib.hid hn
    replace hv := Lib.hid hv
    have ea : ((FloatKind.f64.format.order (fl x) 0 == some Ordering.eq) && (FloatKind.f64.format.order (fl y) 0 == some Ordering.eq)) = true := (fand HX.out HY.out).trans (decide_eq_true (by omega))
    clear h
    go_wp2_with fail
    go_ret2
    exact ⟨by rw [hn.out, hv.out]; rfl, (HO.out _).trans HF.out⟩
  · have hn : peakN x y = 0 := by unfold peakN; repeat' split
                                  all_goals omega
    have hv : peakB x y = true := by exact peak_b (by omega)
    replace hn := Lib.hid hn
    replace hv := Lib.hid hv
    have ea : ((FloatKind.f64.format.order (fl x) 0 == some Ordering.eq) && (FloatKind.f64.format.order (fl y) 0 == some Ordering.eq)) = false := (fand HX.out HY.out).trans (decide_eq_false (by omega))
    have gx : (FloatKind.f64.format.order (fl x) 0 == some Ordering.gt) = true := (fg HX.out).trans (decide_eq_true (by omega))
    have ge : ((FloatKind.f64.format.order (fl x) (fl ((y.natAbs : Nat) : Int)) == some Ordering.gt) || (FloatKind.f64.format.order (fl x) (fl ((y.natAbs : Nat) : Int)) == some Ordering.eq)) = true := (fge HX.out (by have := HY.out; omega)).trans (decide_eq_true (by omega))
    clear h
    go_wp2_with fail
    refine (HA2.out _).mono ?_
    rintro _ _ ⟨rfl, rfl⟩
    go_wp2_with fail
    go_ret2
    exact ⟨by rw [hn.out, hv.out]; rfl, (HO.out _).trans HF.out⟩
  · have hn : peakN x y = 1 := by unfold peakN; repeat' split
                                  all_goals omega
    have hv : peakB x y = true := by exact peak_b (by omega)
    replace hn := Lib.hid hn
    replace hv := Lib.hid hv
    have ea : ((FloatKind.f64.format.order (fl x) 0 == some Ordering.eq) && (FloatKind.f64.format.order (fl y) 0 == some Ordering.eq)) = false := (fand HX.out HY.out).trans (decide_eq_false (by omega))
    have gx : (FloatKind.f64.format.order (fl x) 0 == some Ordering.gt) = true := (fg HX.out).trans (decide_eq_true (by omega))
    have ge : ((FloatKind.f64.format.order (fl x) (fl ((y.natAbs : Nat) : Int)) == some Ordering.gt) || (FloatKind.f64.format.order (fl x) (fl ((y.natAbs : Nat) : Int)) == some Ordering.eq)) = false := (fge HX.out (by have := HY.out; omega)).trans (decide_eq_false (by omega))
    have gy : (FloatKind.f64.format.order (fl y) 0 == some Ordering.gt) = true := (fg HY.out).trans (decide_eq_true (by omega))
    have gyx : (FloatKind.f64.format.order (fl y) (fl ((x.natAbs : Nat) : Int)) == some Ordering.gt) = true := (gt_fl HY.out (by have := HX.out; omega)).trans (decide_eq_true (by omega))
    clear h
    go_wp2_with fail
    refine (HA2.out _).mono ?_
    rintro _ _ ⟨rfl, rfl⟩
    go_wp2_with fail
    refine (HA.out _).mono ?_
    rintro _ _ ⟨rfl, rfl⟩
    go_wp2_with fail
    go_ret2
    exact ⟨by rw [hn.out, hv.out]; rfl, (HO.out _).trans HF.out⟩
  · have hn : peakN x y = 3 := by unfold peakN; repeat' split
                                  all_goals omega
    have hv : peakB x y = true := by exact peak_b (by omega)
    replace hn := Lib.hid hn
    replace hv := Lib.hid hv
    have ea : ((FloatKind.f64.format.order (fl x) 0 == some Ordering.eq) && (FloatKind.f64.format.order (fl y) 0 == some Ordering.eq)) = false := (fand HX.out HY.out).trans (decide_eq_false (by omega))
    have gx : (FloatKind.f64.format.order (fl x) 0 == some Ordering.gt) = true := (fg HX.out).trans (decide_eq_true (by omega))
    have ge : ((FloatKind.f64.format.order (fl x) (fl ((y.natAbs : Nat) : Int)) == some Ordering.gt) || (FloatKind.f64.format.order (fl x) (fl ((y.natAbs : Nat) : Int)) == some Ordering.eq)) = false := (fge HX.out (by have := HY.out; omega)).trans (decide_eq_false (by omega))
    have gy : (FloatKind.f64.format.order (fl y) 0 == some Ordering.gt) = false := (fg HY.out).trans (decide_eq_false (by omega))
    have lx : (FloatKind.f64.format.order (fl x) 0 == some Ordering.lt) = false := (fl_lss HX.out).trans (decide_eq_false (by omega))
    clear h
    go_wp2_with fail
    refine (HA2.out _).mono ?_
    rintro _ _ ⟨rfl, rfl⟩
    go_wp2_with fail
    go_ret2
    exact ⟨by rw [hn.out, hv.out]; rfl, (HO.out _).trans HF.out⟩
  · have hn : peakN x y = 1 := by unfold peakN; repeat' split
                                  all_goals omega
    have hv : peakB x y = true := by exact peak_b (by omega)
    replace hn := Lib.hid hn
    replace hv := Lib.hid hv
    have ea : ((FloatKind.f64.format.order (fl x) 0 == some Ordering.eq) && (FloatKind.f64.format.order (fl y) 0 == some Ordering.eq)) = false := (fand HX.out HY.out).trans (decide_eq_false (by omega))
    have gx : (FloatKind.f64.format.order (fl x) 0 == some Ordering.gt) = false := (fg HX.out).trans (decide_eq_false (by omega))
    have gy : (FloatKind.f64.format.order (fl y) 0 == some Ordering.gt) = true := (fg HY.out).trans (decide_eq_true (by omega))
    have gyx : (FloatKind.f64.format.order (fl y) (fl ((x.natAbs : Nat) : Int)) == some Ordering.gt) = true := (gt_fl HY.out (by have := HX.out; omega)).trans (decide_eq_true (by omega))
    clear h
    go_wp2_with fail
    refine (HA.out _).mono ?_
    rintro _ _ ⟨rfl, rfl⟩
    go_wp2_with fail
    go_ret2
    exact ⟨by rw [hn.out, hv.out]; rfl, (HO.out _).trans HF.out⟩
  · have hn : peakN x y = 2 := by unfold peakN; repeat' split
                                  all_goals omega
    have hv : peakB x y = true := by exact peak_b (by omega)
    replace hn := Lib.hid hn
    replace hv := Lib.hid hv
    have ea : ((FloatKind.f64.format.order (fl x) 0 == some Ordering.eq) && (FloatKind.f64.format.order (fl y) 0 == some Ordering.eq)) = false := (fand HX.out HY.out).trans (decide_eq_false (by omega))
    have gx : (FloatKind.f64.format.order (fl x) 0 == some Ordering.gt) = false := (fg HX.out).trans (decide_eq_false (by omega))
    have gy : (FloatKind.f64.format.order (fl y) 0 == some Ordering.gt) = true := (fg HY.out).trans (decide_eq_true (by omega))
    have gyx : (FloatKind.f64.format.order (fl y) (fl ((x.natAbs : Nat) : Int)) == some Ordering.gt) = false := (gt_fl HY.out (by have := HX.out; omega)).trans (decide_eq_false (by omega))
    have lx : (FloatKind.f64.format.order (fl x) 0 == some Ordering.lt) = true := (fl_lss HX.out).trans (decide_eq_true (by omega))
    have ng := neg_eq (v := x) (by omega) HX.out
    have ge2 : ((FloatKind.f64.format.order (fl (-x)) (fl ((y.natAbs : Nat) : Int)) == some Ordering.gt) || (FloatKind.f64.format.order (fl (-x)) (fl ((y.natAbs : Nat) : Int)) == some Ordering.eq)) = true := (fge (by have := HX.out; omega) (by have := HY.out; omega)).trans (decide_eq_true (by omega))
    clear h
    go_wp2_with fail
    refine (HA.out _).mono ?_
    rintro _ _ ⟨rfl, rfl⟩
    go_wp2_with fail
    refine (HA2.out _).mono ?_
    rintro _ _ ⟨rfl, rfl⟩
    go_wp2_with fail
    go_ret2
    exact ⟨by rw [hn.out, hv.out]; rfl, (HO.out _).trans HF.out⟩
  · have hn : peakN x y = 2 := by unfold peakN; repeat' split
                                  all_goals omega
    have hv : peakB x y = true := by exact peak_b (by omega)
    replace hn := Lib.hid hn
    replace hv := Lib.hid hv
    have ea : ((FloatKind.f64.format.order (fl x) 0 == some Ordering.eq) && (FloatKind.f64.format.order (fl y) 0 == some Ordering.eq)) = false := (fand HX.out HY.out).trans (decide_eq_false (by omega))
    have gx : (FloatKind.f64.format.order (fl x) 0 == some Ordering.gt) = false := (fg HX.out).trans (decide_eq_false (by omega))
    have gy : (FloatKind.f64.format.order (fl y) 0 == some Ordering.gt) = false := (fg HY.out).trans (decide_eq_false (by omega))
    have lx : (FloatKind.f64.format.order (fl x) 0 == some Ordering.lt) = true := (fl_lss HX.out).trans (decide_eq_true (by omega))
    have ng := neg_eq (v := x) (by omega) HX.out
    have ge2 : ((FloatKind.f64.format.order (fl (-x)) (fl ((y.natAbs : Nat) : Int)) == some Ordering.gt) || (FloatKind.f64.format.order (fl (-x)) (fl ((y.natAbs : Nat) : Int)) == some Ordering.eq)) = true := (fge (by have := HX.out; omega) (by have := HY.out; omega)).trans (decide_eq_true (by omega))
    clear h
    go_wp2_with fail
    refine (HA2.out _).mono ?_
    rintro _ _ ⟨rfl, rfl⟩
    go_wp2_with fail
    go_ret2
    exact ⟨by rw [hn.out, hv.out]; rfl, (HO.out _).trans HF.out⟩
  · have hn : peakN x y = 3 := by unfold peakN; repeat' split
                                  all_goals omega
    have hv : peakB x y = true := by exact peak_b (by omega)
    replace hn := Lib.hid hn
    replace hv := Lib.hid hv
    have ea : ((FloatKind.f64.format.order (fl x) 0 == some Ordering.eq) && (FloatKind.f64.format.order (fl y) 0 == some Ordering.eq)) = false := (fand HX.out HY.out).trans (decide_eq_false (by omega))
    have gx : (FloatKind.f64.format.order (fl x) 0 == some Ordering.gt) = false := (fg HX.out).trans (decide_eq_false (by omega))
    have gy : (FloatKind.f64.format.order (fl y) 0 == some Ordering.gt) = false := (fg HY.out).trans (decide_eq_false (by omega))
    have lx : (FloatKind.f64.format.order (fl x) 0 == some Ordering.lt) = true := (fl_lss HX.out).trans (decide_eq_true (by omega))
    have ng := neg_eq (v := x) (by omega) HX.out
    have ge2 : ((FloatKind.f64.format.order (fl (-x)) (fl ((y.natAbs : Nat) : Int)) == some Ordering.gt) || (FloatKind.f64.format.order (fl (-x)) (fl ((y.natAbs : Nat) : Int)) == some Ordering.eq)) = false := (fge (by have := HX.out; omega) (by have := HY.out; omega)).trans (decide_eq_false (by omega))
    clear h
    go_wp2_with fail
    refine (HA2.out _).mono ?_
    rintro _ _ ⟨rfl, rfl⟩
    go_wp2_with fail
    go_ret2
    exact ⟨by rw [hn.out, hv.out]; rfl, (HO.out _).trans HF.out⟩
  · have hn : peakN x y = 3 := by unfold peakN; repeat' split
                                  all_goals omega
    have hv : peakB x y = true := by exact peak_b (by omega)
    replace hn := Lib.hid hn
    replace hv := Lib.hid hv
    have ea : ((FloatKind.f64.format.order (fl x) 0 == some Ordering.eq) && (FloatKind.f64.format.order (fl y) 0 == some Ordering.eq)) = false := (fand HX.out HY.out).trans (decide_eq_false (by omega))
    have gx : (FloatKind.f64.format.order (fl x) 0 == some Ordering.gt) = false := (fg HX.out).trans (decide_eq_false (by omega))
    have gy : (FloatKind.f64.format.order (fl y) 0 == some Ordering.gt) = false := (fg HY.out).trans (decide_eq_false (by omega))
    have lx : (FloatKind.f64.format.order (fl x) 0 == some Ordering.lt) = false := (fl_lss HX.out).trans (decide_eq_false (by omega))
    clear h
    go_wp2_with fail
    go_ret2
    exact ⟨by rw [hn.out, hv.out]; rfl, (HO.out _).trans HF.out⟩
end Go.Proofs.Ytlldecklngcklaa.rhyw
