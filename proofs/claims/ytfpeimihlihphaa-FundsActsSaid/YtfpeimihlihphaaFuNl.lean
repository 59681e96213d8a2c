/- The calls of no book. -/
import Derived.Test.YtfpeimihlihphaaFuL
namespace Go.Proofs.Ytfpeimihlihphaa.fnd
open Go.RowKit mem tre
set_option linter.unusedVariables false

theorem nonek (w : World) : Calls Try.prog 28 #[] w fun e w' => e = .returned (.pointer none) ∧ Only (fun _ => False) w w' := by
  have HO9 := Lib.hid (Only.refl (fun _ => False) w)
  go_enter Try.func28, Try.ntmps28
  go_wp2_with fail
  go_ret
  exact ⟨rfl, HO9.out⟩
theorem get_nil (n : Int) (w : World) : Calls Try.prog 33 #[.pointer none, .int .i64 n] w fun e w' => e = .returned (aggA zA) ∧ Only (fun _ => False) w w' := by
  have HC : Hid (∀ (cs : Array Value) t, ∀ (i : Nat) v, cs[i]? = some v → (w.alloc (.cells cs t)).cell? ⟨w.heap.size, i, none⟩ = some v) := Lib.hid (fun cs t i v h => alloc_cell rfl h)
  have HO : Hid (∀ o, Only (fun _ => False) w (w.alloc o)) := Lib.hid (fun o => (Only.refl _ _).alloc o)
  go_enter Try.func33, Try.ntmps33
  go_wp2_with fail
  have c0 := HC.out #[.int .i64 0, .int .i64 0, .int .i64 0, .int .i64 0, .int .i64 0] 63 0 _ rfl
  have c1 := HC.out #[.int .i64 0, .int .i64 0, .int .i64 0, .int .i64 0, .int .i64 0] 63 1 _ rfl
  have c2 := HC.out #[.int .i64 0, .int .i64 0, .int .i64 0, .int .i64 0, .int .i64 0] 63 2 _ rfl
  have c3 := HC.out #[.int .i64 0, .int .i64 0, .int .i64 0, .int .i64 0, .int .i64 0] 63 3 _ rfl
  have c4 := HC.out #[.int .i64 0, .int .i64 0, .int .i64 0, .int .i64 0, .int .i64 0] 63 4 _ rfl
  refine bodyPost_ret (v := aggA zA) (by simp [results, Try.results33, go_sem, aggA, zA, c0, c1, c2, c3, c4]) rfl ⟨rfl, HO.out _⟩
theorem available_nil (n : Int) (w : World) : Calls Try.prog 32 #[.pointer none, .int .i64 n] w fun e w' => e = .returned (.int .i64 0) ∧ Only (fun _ => False) w w' := by
  have HG := Lib.hid (get_nil n w)
  have HV : Hid (∀ w1, _) := Lib.hid (fun w1 => avail_any zA w1 right_z.1)
  have hz : left zA = 0 := rfl
  rw [hz] at HV
  unfold aggA zA at HG HV
  dsimp only at HG HV
  clear hz
  go_enter Try.func32, Try.ntmps32
  go_wp2_with fail
  refine HG.out.mono ?_
  rintro _ w1 ⟨rfl, ho⟩
  have HO := Lib.hid ho
  clear ho
  go_wp2_with fail
  refine (HV.out _).mono ?_
  rintro _ w2 ⟨rfl, ho⟩
  have HO2 := Lib.hid (HO.out.trans ho)
  clear ho
  go_wp2_with fail
  go_ret
  exact ⟨rfl, HO2.out⟩
theorem room_nil (a : Option Addr) (n c : Nat) (a2 : Option Addr) (n2 c2 : Nat) (w : World) : Calls Try.prog 29 #[.pointer none, .slice a n c, .slice a2 n2 c2] w fun e w' => e = .returned (.tuple #[.int .i64 0, .int .i64 1]) ∧ Only (fun _ => False) w w' := by
  have HO9 : Hid (Only (fun _ => False) w w) := Lib.hid (Only.refl _ _)
  go_enter Try.func29, Try.ntmps29
  go_wp2_with fail
  go_ret2
  exact ⟨rfl, HO9.out⟩
theorem roll_nil (x : Int) (f : Bool) (w : World) : Calls Try.prog 30 #[.pointer none, .int .i64 x, .bool f] w fun e w' => e = .returned (.tuple #[.int .i64 0, .int .i64 1]) ∧ Only (fun _ => False) w w' := by
  have HO9 : Hid (Only (fun _ => False) w w) := Lib.hid (Only.refl _ _)
  go_enter Try.func30, Try.ntmps30
  go_wp2_with fail
  go_ret2
  exact ⟨rfl, HO9.out⟩
theorem set_nil (x at_ ac ae au ah : Int) (w : World) : Calls Try.prog 34 #[.pointer none, .int .i64 x, .agg #[.int .i64 at_, .int .i64 ac, .int .i64 ae, .int .i64 au, .int .i64 ah]] w fun e w' => e = .returned (.int .i64 1) ∧ Only (fun _ => False) w w' := by
  have HO9 : Hid (∀ o, Only (fun _ => False) w (w.alloc o)) := Lib.hid (fun o => (Only.refl _ _).alloc o)
  go_enter Try.func34, Try.ntmps34
  go_wp2_with fail
  go_ret
  exact ⟨rfl, HO9.out _⟩
theorem nodes_nil  (w : World) : Calls Try.prog 35 #[.pointer none] w fun e w' => e = .returned (.slice none 0 0) ∧ Only (fun _ => False) w w' := by
  have HO9 : Hid (Only (fun _ => False) w w) := Lib.hid (Only.refl _ _)
  go_enter Try.func35, Try.ntmps35
  go_wp2_with fail
  go_ret
  exact ⟨rfl, HO9.out⟩
theorem topup_nil (x y : Int) (w : World) : Calls Try.prog 36 #[.pointer none, .int .i64 x, .int .i64 y] w fun e w' => e = .returned (.int .i64 1) ∧ Only (fun _ => False) w w' := by
  have HO9 : Hid (Only (fun _ => False) w w) := Lib.hid (Only.refl _ _)
  go_enter Try.func36, Try.ntmps36
  go_wp2_with fail
  go_ret
  exact ⟨rfl, HO9.out⟩
theorem hold_nil (a : Option Addr) (n c : Nat) (a2 : Option Addr) (n2 c2 : Nat) (y : Int) (w : World) : Calls Try.prog 37 #[.pointer none, .slice a n c, .slice a2 n2 c2, .int .i64 y] w fun e w' => e = .returned (.int .i64 1) ∧ Only (fun _ => False) w w' := by
  have HO9 : Hid (Only (fun _ => False) w w) := Lib.hid (Only.refl _ _)
  go_enter Try.func37, Try.ntmps37
  go_wp2_with fail
  go_ret
  exact ⟨rfl, HO9.out⟩
theorem shift_nil (a : Option Addr) (n c : Nat) (x y z : Int) (w : World) : Calls Try.prog 65 #[.pointer none, .slice a n c, .int .i64 x, .int .i64 y, .int .i64 z] w fun e w' => e = .returned (.int .i64 1) ∧ Only (fun _ => False) w w' := by
  have HO9 : Hid (Only (fun _ => False) w w) := Lib.hid (Only.refl _ _)
  go_enter Try.func65, Try.ntmps65
  go_wp2_with fail
  go_ret
  exact ⟨rfl, HO9.out⟩
theorem release_nil (a : Option Addr) (n c : Nat) (y : Int) (w : World) : Calls Try.prog 38 #[.pointer none, .slice a n c, .int .i64 y] w fun e w' => e = .returned (.int .i64 1) ∧ Only (fun _ => False) w w' := by
  go_enter Try.func38, Try.ntmps38
  go_wp2_with fail
  refine (shift_nil _ _ _ _ _ _ _).mono ?_
  rintro _ w1 ⟨rfl, ho⟩
  have HO9 := Lib.hid ho
  clear ho
  go_wp2_with fail
  go_ret
  exact ⟨rfl, HO9.out⟩
theorem commit_nil (a : Option Addr) (n c : Nat) (y : Int) (w : World) : Calls Try.prog 39 #[.pointer none, .slice a n c, .int .i64 y] w fun e w' => e = .returned (.int .i64 1) ∧ Only (fun _ => False) w w' := by
  go_enter Try.func39, Try.ntmps39
  go_wp2_with fail
  refine (shift_nil _ _ _ _ _ _ _).mono ?_
  rintro _ w1 ⟨rfl, ho⟩
  have HO9 := Lib.hid ho
  clear ho
  go_wp2_with fail
  go_ret
  exact ⟨rfl, HO9.out⟩
theorem refund_nil (a : Option Addr) (n c : Nat) (y : Int) (w : World) : Calls Try.prog 40 #[.pointer none, .slice a n c, .int .i64 y] w fun e w' => e = .returned (.int .i64 1) ∧ Only (fun _ => False) w w' := by
  go_enter Try.func40, Try.ntmps40
  go_wp2_with fail
  refine (shift_nil _ _ _ _ _ _ _).mono ?_
  rintro _ w1 ⟨rfl, ho⟩
  have HO9 := Lib.hid ho
  clear ho
  go_wp2_with fail
  go_ret
  exact ⟨rfl, HO9.out⟩
end Go.Proofs.Ytfpeimihlihphaa.fnd
