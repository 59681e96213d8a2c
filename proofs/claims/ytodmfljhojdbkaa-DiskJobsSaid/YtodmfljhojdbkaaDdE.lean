/- The document's disk: DocRead. -/
import Derived.Test.YtodmfljhojdbkaaDdD
namespace Go.Proofs.Ytodmfljhojdbkaa.dskw
open Go.RowKit mem
set_option linter.unusedVariables false

theorem strN_nil : strN [] = { data := #[] } := rfl
theorem rread_off (q bL bN bD n cL cN cD : Nat) (La No : Nat → List Nat) (Di : Nat → Bool) (armed f m : Int) (w : World) (h : DdAt w q bL bN bD n cL cN cD La No Di armed true) :
    Calls Try.prog 8 #[.pointer (some ⟨q, 0, none⟩), .int .i64 f, .int .i64 m] w fun e w' => e = .returned (.tuple #[.string (strN []), .int .i64 12]) ∧ w = w' := by
  have c4 := h.c4
  clear h
  go_enter Try.func8, Try.ntmps8
  go_wp2_with fail
  go_ret2
  exact ⟨rfl, rfl⟩
theorem rread_no (q bL bN bD n cL cN cD : Nat) (La No : Nat → List Nat) (Di : Nat → Bool) (armed f m : Int) (w : World) (h : DdAt w q bL bN bD n cL cN cD La No Di armed false) (ht : thr n f m = false) :
    Calls Try.prog 8 #[.pointer (some ⟨q, 0, none⟩), .int .i64 f, .int .i64 m] w fun e w' => e = .returned (.tuple #[.string (strN []), .int .i64 1]) ∧ w = w' := by
  have c4 := h.c4
  have HT := Lib.hid (there_any q bL bN bD n cL cN cD La No Di armed false f m w h)
  rw [ht] at HT
  clear h ht
  go_enter Try.func8, Try.ntmps8
  go_wp2_with fail
  refine HT.out.mono ?_
  rintro _ w' ⟨rfl, rfl⟩
  go_wp2_with fail
  go_ret2
  exact ⟨rfl, rfl⟩
set_option maxHeartbeats 4000000 in
theorem rread_yes (q bL bN bD n cL cN cD : Nat) (La No : Nat → List Nat) (Di : Nat → Bool) (armed : Int) (f m : Nat) (w : World) (h : DdAt w q bL bN bD n cL cN cD La No Di armed false) (ht : thr n (f : Int) (m : Int) = true) :
    Calls Try.prog 8 #[.pointer (some ⟨q, 0, none⟩), .int .i64 (f : Int), .int .i64 (m : Int)] w fun e w' => e = .returned (.tuple #[.string (strN (secs No f m)), .int .i64 0]) ∧ w = w' := by
  have c4 := h.c4
  have h7 := h.h7
  have c1 := h.c1
  have hfm : f + m ≤ n := by unfold thr at ht; simp at ht; omega
  have HT := Lib.hid (there_any q bL bN bD n cL cN cD La No Di armed false f m w h)
  rw [ht] at HT
  have HR := Lib.hid h.rN
  have HSN := Lib.hid h.sN
  clear h ht
  go_enter Try.func8, Try.ntmps8
  go_wp2_with fail
  refine HT.out.mono ?_
  rintro _ w' ⟨rfl, rfl⟩
  go_wp2_with fail
  go_loopw [9, 8] (fun iv sv wx => ∃ i : Nat, i ≤ m ∧ iv = .int .i64 (i : Int) ∧ sv = .string (strN (secs No f i)) ∧ w = wx) (fun iv _ _ => m - (intOf iv).toNat)
  case atStart => exact ⟨0, by omega, rfl, rfl, rfl⟩
  case round =>
    obtain ⟨i, hi, rfl, rfl, rfl⟩ := hrel
    by_cases h8 : i < m
    · have hin : (i : Int) < (m : Int) := by omega
      have hi0 : (0 : Int) ≤ (i : Int) := by omega
      have hw : wrap64 ((f : Int) + (i : Int)) = (f : Int) + (i : Int) := by unfold wrap64; omega
      have hj : (f : Int) + (i : Int) < (n : Int) := by omega
      have hj0 : (0 : Int) ≤ (f : Int) + (i : Int) := by omega
      have y0 := (HR.out (f + i) (by omega)).1
      have hsz : ¬ 9223372036854775807 < (strN (secs No f i)).size + (strN (No (f + i))).size := by
        rw [strN_size, strN_size, (HSN.out (f + i) (by omega)).1, (secs_len (f := No) (first := f) (m := i) (fun j h1 h2 => HSN.out j (by omega))).1]
        omega
      have hs : strN (secs No f i) ++ strN (No (f + i)) = strN (secs No f (i + 1)) := by rw [strN_append]; rfl
      go_wp2_with fail
      go_roundw
      case rel => exact ⟨i + 1, by omega, by go_num, rfl, trivial⟩
      case measure => (simp [intOf]; omega)
    · have hin : ¬ (i : Int) < (m : Int) := by omega
      obtain rfl : m = i := by omega
      go_wp2_with fail
      go_ret2
      exact ⟨rfl, rfl⟩
end Go.Proofs.Ytodmfljhojdbkaa.dskw
