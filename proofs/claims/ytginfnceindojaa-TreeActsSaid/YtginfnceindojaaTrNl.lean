/- The calls of no tree. -/
import Derived.Test.YtginfnceindojaaTrZ
namespace Go.Proofs.Ytginfnceindojaa.tre
open Go.RowKit mem
set_option linter.unusedVariables false

theorem none_any (w : World) : Calls Try.prog 24 #[] w fun e w' => e = .returned (.pointer none) ∧ w = w' := by
  go_enter Try.func24, Try.ntmps24
  go_wp2_with fail
  go_ret
  exact ⟨rfl, rfl⟩
theorem get_nil (id : Int) (w : World) : Calls Try.prog 17 #[.pointer none, .int .i64 id] w fun e w' => e = .returned (.tuple #[.agg #[.int .i64 0, .int .i64 0, .int .i64 0, .int .i64 0, .bool false], .int .i64 1]) ∧ Only (fun _ => False) w w' := by
  have HC : Hid (∀ (cs : Array Value) t, ∀ (i : Nat) v, cs[i]? = some v → (w.alloc (.cells cs t)).cell? ⟨w.heap.size, i, none⟩ = some v) := Lib.hid (fun cs t i v h => alloc_cell rfl h)
  have HO : Hid (∀ o, Only (fun _ => False) w (w.alloc o)) := Lib.hid (fun o => (Only.refl _ _).alloc o)
  go_enter Try.func17, Try.ntmps17
  go_wp2_with fail
  have c0 := HC.out #[.int .i64 0, .int .i64 0, .int .i64 0, .int .i64 0, .bool false] 33 0 _ rfl
  have c1 := HC.out #[.int .i64 0, .int .i64 0, .int .i64 0, .int .i64 0, .bool false] 33 1 _ rfl
  have c2 := HC.out #[.int .i64 0, .int .i64 0, .int .i64 0, .int .i64 0, .bool false] 33 2 _ rfl
  have c3 := HC.out #[.int .i64 0, .int .i64 0, .int .i64 0, .int .i64 0, .bool false] 33 3 _ rfl
  have c4 := HC.out #[.int .i64 0, .int .i64 0, .int .i64 0, .int .i64 0, .bool false] 33 4 _ rfl
  refine bodyPost_ret (v := .tuple #[.agg #[.int .i64 0, .int .i64 0, .int .i64 0, .int .i64 0, .bool false], .int .i64 1]) (by simp [results, Try.results17, go_sem, c0, c1, c2, c3, c4]) rfl ⟨rfl, HO.out _⟩
theorem zero_box (w1 : World) : (w1.alloc (.cells #[.int .i64 0, .int .i64 0, .int .i64 0, .int .i64 0, .bool false] 33)).cell? ⟨w1.heap.size, 0, none⟩ = some (.int .i64 0) := alloc_cell rfl rfl
theorem move_nil (id par : Int) (w : World) : Calls Try.prog 14 #[.pointer none, .int .i64 id, .int .i64 par] w fun e w' => e = .returned (.int .i64 1) ∧ Only (fun _ => False) w w' := by
  go_enter Try.func14, Try.ntmps14
  go_wp2_with fail
  refine (get_nil _ _).mono ?_
  rintro _ w1 ⟨rfl, ho⟩
  have HO9 : Hid (∀ o, Only (fun _ => False) w (w1.alloc o)) := Lib.hid (fun o => ho.alloc o)
  clear ho
  go_wp2_with fail
  go_ret
  exact ⟨rfl, HO9.out _⟩
theorem close_nil (id : Int) (w : World) : Calls Try.prog 15 #[.pointer none, .int .i64 id] w fun e w' => e = .returned (.int .i64 1) ∧ Only (fun _ => False) w w' := by
  go_enter Try.func15, Try.ntmps15
  go_wp2_with fail
  refine (get_nil _ _).mono ?_
  rintro _ w1 ⟨rfl, ho⟩
  have HO9 : Hid (∀ o, Only (fun _ => False) w (w1.alloc o)) := Lib.hid (fun o => ho.alloc o)
  clear ho
  go_wp2_with fail
  go_ret
  exact ⟨rfl, HO9.out _⟩
theorem limit_nil (id lim : Int) (w : World) : Calls Try.prog 19 #[.pointer none, .int .i64 id, .int .i64 lim] w fun e w' => e = .returned (.int .i64 1) ∧ Only (fun _ => False) w w' := by
  go_enter Try.func19, Try.ntmps19
  go_wp2_with fail
  refine (get_nil _ _).mono ?_
  rintro _ w1 ⟨rfl, ho⟩
  have HO9 : Hid (∀ o, Only (fun _ => False) w (w1.alloc o)) := Lib.hid (fun o => ho.alloc o)
  clear ho
  go_wp2_with fail
  go_ret
  exact ⟨rfl, HO9.out _⟩
theorem path_nil (id : Int) (w : World) : Calls Try.prog 20 #[.pointer none, .int .i64 id] w fun e w' => e = .returned (.tuple #[.slice none 0 0, .int .i64 1]) ∧ Only (fun _ => False) w w' := by
  go_enter Try.func20, Try.ntmps20
  go_wp2_with fail
  refine (get_nil _ _).mono ?_
  rintro _ w1 ⟨rfl, ho⟩
  have HO9 : Hid (∀ o, Only (fun _ => False) w (w1.alloc o)) := Lib.hid (fun o => ho.alloc o)
  clear ho
  go_wp2_with fail
  go_ret2
  exact ⟨rfl, HO9.out _⟩
theorem below_nil (id : Int) (w : World) : Calls Try.prog 21 #[.pointer none, .int .i64 id] w fun e w' => e = .returned (.tuple #[.slice none 0 0, .int .i64 1]) ∧ Only (fun _ => False) w w' := by
  go_enter Try.func21, Try.ntmps21
  go_wp2_with fail
  refine (get_nil _ _).mono ?_
  rintro _ w1 ⟨rfl, ho⟩
  have HO9 : Hid (∀ o, Only (fun _ => False) w (w1.alloc o)) := Lib.hid (fun o => ho.alloc o)
  clear ho
  go_wp2_with fail
  go_ret2
  exact ⟨rfl, HO9.out _⟩
theorem put_nil (ni np nk nl : Int) (nc : Bool) (w : World) : Calls Try.prog 18 #[.pointer none, .agg #[.int .i64 ni, .int .i64 np, .int .i64 nk, .int .i64 nl, .bool nc]] w fun e w' => e = .returned (.int .i64 1) ∧ Only (fun _ => False) w w' := by
  have HO9 : Hid (∀ o, Only (fun _ => False) w (w.alloc o)) := Lib.hid (fun o => (Only.refl _ _).alloc o)
  go_enter Try.func18, Try.ntmps18
  go_wp2_with fail
  go_ret
  exact ⟨rfl, HO9.out _⟩
theorem create_nil (ni np nk nl : Int) (w : World) : Calls Try.prog 13 #[.pointer none, .int .i64 ni, .int .i64 np, .int .i64 nk, .int .i64 nl] w fun e w' => e = .returned (.int .i64 1) ∧ Only (fun _ => False) w w' := by
  go_enter Try.func13, Try.ntmps13
  go_wp2_with fail
  refine (put_nil _ _ _ _ _ _).mono ?_
  rintro _ w1 ⟨rfl, ho⟩
  have HO := Lib.hid ho
  go_wp2_with fail
  go_ret
  exact ⟨rfl, HO.out⟩
theorem ids_nil (w : World) : Calls Try.prog 16 #[.pointer none] w fun e w' => e = .returned (.slice none 0 0) ∧ Only (fun _ => False) w w' := by
  go_enter Try.func16, Try.ntmps16
  go_wp2_with fail
  go_ret
  exact ⟨rfl, Only.refl _ _⟩
end Go.Proofs.Ytginfnceindojaa.tre
