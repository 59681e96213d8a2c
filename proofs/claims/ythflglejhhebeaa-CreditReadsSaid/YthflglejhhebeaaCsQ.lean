/- Sessions with grants: the calls of no table. -/
import Derived.Test.YthflglejhhebeaaCsP
namespace Go.Proofs.Ythflglejhhebeaa.cs
open Go.RowKit mem rwg
set_option linter.unusedVariables false

theorem nonek (w : World) : Calls Try.prog 6 #[] w fun e w' => e = .returned (.pointer none) ∧ Only (fun _ => False) w w' := by
  have HO9 := Lib.hid (Only.refl (fun _ => False) w)
  go_enter Try.func6, Try.ntmps6
  go_wp2_with fail
  go_ret
  exact ⟨rfl, HO9.out⟩
theorem find_nil (n : Int) (w : World) : Calls Try.prog 24 #[.pointer none, .int .i64 n] w fun e w' => e = .returned (.tuple #[.int .i64 0, .int .i64 1]) ∧ Only (fun _ => False) w w' := by
  have HO9 : Hid (∀ o, Only (fun _ => False) w (w.alloc o)) := Lib.hid (fun o => (Only.refl _ _).alloc o)
  go_enter Try.func24, Try.ntmps24
  go_wp2_with fail
  go_ret2
  exact ⟨rfl, HO9.out _⟩
theorem end_nil (n : Int) (w : World) : Calls Try.prog 12 #[.pointer none, .int .i64 n] w fun e w' => e = .returned (.int .i64 1) ∧ Only (fun _ => False) w w' := by
  go_enter Try.func12, Try.ntmps12
  go_wp2_with fail
  refine (find_nil _ _).mono ?_
  rintro _ w1 ⟨rfl, ho⟩
  have HO9 := Lib.hid ho
  clear ho
  go_wp2_with fail
  go_ret
  exact ⟨rfl, HO9.out⟩
theorem step_nil (n m : Int) (w : World) : Calls Try.prog 13 #[.pointer none, .int .i64 n, .int .i64 m] w fun e w' => e = .returned (.int .i64 1) ∧ Only (fun _ => False) w w' := by
  go_enter Try.func13, Try.ntmps13
  go_wp2_with fail
  refine (find_nil _ _).mono ?_
  rintro _ w1 ⟨rfl, ho⟩
  have HO9 := Lib.hid ho
  clear ho
  go_wp2_with fail
  go_ret
  exact ⟨rfl, HO9.out⟩
theorem ids_nil (w : World) : Calls Try.prog 14 #[.pointer none] w fun e w' => e = .returned (.slice none 0 0) ∧ Only (fun _ => False) w w' := by
  have HO9 : Hid (Only (fun _ => False) w w) := Lib.hid (Only.refl _ _)
  go_enter Try.func14, Try.ntmps14
  go_wp2_with fail
  go_ret
  exact ⟨rfl, HO9.out⟩
theorem last_nil (w : World) : Calls Try.prog 15 #[.pointer none] w fun e w' => e = .returned (.int .i64 0) ∧ Only (fun _ => False) w w' := by
  have HO9 : Hid (Only (fun _ => False) w w) := Lib.hid (Only.refl _ _)
  go_enter Try.func15, Try.ntmps15
  go_wp2_with fail
  go_ret
  exact ⟨rfl, HO9.out⟩
theorem held_nil (n : Int) (w : World) : Calls Try.prog 16 #[.pointer none, .int .i64 n] w fun e w' => e = .returned (.int .i64 0) ∧ Only (fun _ => False) w w' := by
  have HO9 : Hid (Only (fun _ => False) w w) := Lib.hid (Only.refl _ _)
  go_enter Try.func16, Try.ntmps16
  go_wp2_with fail
  go_ret
  exact ⟨rfl, HO9.out⟩
theorem write_nil (w : World) : Calls Try.prog 8 #[.pointer none] w fun e w' => e = .returned (.tuple #[.slice none 0 0, .int .i64 1]) ∧ Only (fun _ => False) w w' := by
  have HO9 : Hid (Only (fun _ => False) w w) := Lib.hid (Only.refl _ _)
  go_enter Try.func8, Try.ntmps8
  go_wp2_with fail
  go_ret2
  exact ⟨rfl, HO9.out⟩
def ZS : Value := .agg #[.int .i64 0, .int .i64 0, .int .i64 0, .int .i64 0, .slice none 0 0]
theorem rightB_z : rightB ⟨0, 0, 0, 0, []⟩ = false := by decide
theorem issess_z (w : World) : Calls Try.prog 29 #[.agg #[.int .i64 0, .int .i64 0, .int .i64 0, .int .i64 0, .slice none 0 0]] w fun e w' => e = .returned (.bool false) ∧ Only (fun _ => False) w w' := by
  have h := issess_any 0 0 0 0 none 0 0 [] w ⟨rfl, .inl rfl⟩ ⟨Nat.le_refl _, Nat.zero_le _, fun _ => rfl⟩
  rw [rightB_z] at h
  exact h
set_option maxHeartbeats 4000000 in
theorem add_nil (w : World) : Calls Try.prog 10 #[.pointer none, ZS] w fun e w' => e = .returned (.int .i64 1) ∧ Only (fun _ => False) w w' := by
  have HO9 : Hid (∀ o, Only (fun _ => False) w (w.alloc o)) := Lib.hid (fun o => (Only.refl _ _).alloc o)
  unfold ZS
  go_enter Try.func10, Try.ntmps10
  go_wp2_with fail
  go_ret
  exact ⟨rfl, HO9.out _⟩
set_option maxHeartbeats 4000000 in
theorem set_nil (w : World) : Calls Try.prog 11 #[.pointer none, ZS] w fun e w' => e = .returned (.int .i64 1) ∧ Only (fun _ => False) w w' := by
  obtain ⟨w1, hw⟩ : ∃ x, x = w.alloc (.cells #[.int .i64 0, .int .i64 0, .int .i64 0, .int .i64 0, .slice none 0 0] 25) := ⟨_, rfl⟩
  obtain ⟨q, hq⟩ : ∃ x, x = w.heap.size := ⟨_, rfl⟩
  obtain ⟨c0, c1, c2, c3, c4, oo⟩ := sbox hw hq
  have HOO := Lib.hid oo
  have HI := Lib.hid (issess_z w1)
  unfold ZS
  clear oo
  go_enter Try.func11, Try.ntmps11
  go_upto_region 1 with fail
  simp only [← hw, ← hq]
  clear hw hq
  go_wp2_with fail
  refine HI.out.mono ?_
  rintro _ w2 ⟨rfl, ho⟩
  have HO9 := Lib.hid (HOO.out.trans ho)
  clear ho
  go_wp2_with fail
  go_ret
  exact ⟨rfl, HO9.out⟩
set_option maxHeartbeats 4000000 in
theorem get_nil (n : Int) (w : World) : Calls Try.prog 7 #[.pointer none, .int .i64 n] w fun e w' => e = .returned (.tuple #[ZS, .int .i64 1]) ∧ Only (fun _ => False) w w' := by
  obtain ⟨w1, hw⟩ : ∃ x, x = w.alloc (.cells #[.int .i64 0, .int .i64 0, .int .i64 0, .int .i64 0, .slice none 0 0] 25) := ⟨_, rfl⟩
  obtain ⟨q, hq⟩ : ∃ x, x = w.heap.size := ⟨_, rfl⟩
  have HBX := Lib.hid (sbox hw hq)
  have hf1 : ∀ j, w1.frozen? ⟨q, j, none⟩ = false := fun j => by rw [hw]; exact sfrozen hq j
  have HF1 := Lib.hid hf1
  have hql : q < w1.heap.size := World.block_lt_of_cell? w1 _ HBX.out.1
  have HQ : Hid (q < w1.heap.size ∧ w.heap.size ≤ q) := Lib.hid ⟨hql, by omega⟩
  have HF := Lib.hid (find_nil n w1)
  unfold ZS
  clear hf1 hql
  go_enter Try.func7, Try.ntmps7
  go_upto_region 1 with fail
  simp only [← hw, ← hq]
  clear hw hq
  go_wp2_with fail
  refine HF.out.mono ?_
  rintro _ w2 ⟨rfl, ho⟩
  have HO2 := Lib.hid (HBX.out.2.2.2.2.2.trans ho)
  have z0 := ho.cell' HBX.out.1 (fun f => f)
  have z1 := ho.cell' HBX.out.2.1 (fun f => f)
  have z2 := ho.cell' HBX.out.2.2.1 (fun f => f)
  have z3 := ho.cell' HBX.out.2.2.2.1 (fun f => f)
  have z4 := ho.cell' HBX.out.2.2.2.2.1 (fun f => f)
  have hf : ∀ j, w2.frozen? ⟨q, j, none⟩ = false := fun j => (ho.frozen (p := ⟨q, j, none⟩) HQ.out.1 (fun f => f)).trans (HF1.out j)
  clear ho HF
  go_wp2_with fail
  have z := putsR_cell q [.int .i64 0, .int .i64 0, .int .i64 0, .int .i64 0, .slice none 0 0] 0 w2 (fun k hk => by
    have hk : k < 5 := hk
    rcases (by omega : k = 0 ∨ k = 1 ∨ k = 2 ∨ k = 3 ∨ k = 4) with rfl | rfl | rfl | rfl | rfl
    · exact ⟨_, z0⟩
    · exact ⟨_, z1⟩
    · exact ⟨_, z2⟩
    · exact ⟨_, z3⟩
    · exact ⟨_, z4⟩)
  have x0 := z 0 _ rfl
  have x1 := z 1 _ rfl
  have x2 := z 2 _ rfl
  have x3 := z 3 _ rfl
  have x4 := z 4 _ rfl
  simp only [putsR, Nat.zero_add] at x0 x1 x2 x3 x4
  have hoW := putsR_only q [.int .i64 0, .int .i64 0, .int .i64 0, .int .i64 0, .slice none 0 0] 0 w2
  refine bodyPost_ret (v := .tuple #[.agg #[.int .i64 0, .int .i64 0, .int .i64 0, .int .i64 0, .slice none 0 0], .int .i64 1]) (by simp [results, Try.results7, go_sem, x0, x1, x2, x3, x4]) rfl ?_
  exact ⟨rfl, HO2.out.then hoW (fun x hx e => by have e : x = q := e; have := HQ.out.2; omega)⟩
end Go.Proofs.Ythflglejhhebeaa.cs
