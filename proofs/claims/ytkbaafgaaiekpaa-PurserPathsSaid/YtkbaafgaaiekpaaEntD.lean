/- Entries: the two sides of a leg. -/
import Derived.Test.YtkbaafgaaiekpaaEntC
import Derived.BigRegion
namespace Go.Proofs.Ytkbaafgaaiekpaa.entw
open Go.RowKit mem entm
set_option linter.unusedVariables false

def accV (l : Lg) : Value := .agg #[.int .i64 l.k, .int .i64 l.n, .int .i64 l.g]
def Sides (kind n g : Int) (w : World) (e : Ending) (w' : World) : Prop :=
  e = .returned (.tuple #[accV (debL kind 0 n g), accV (creL kind 0 n g)]) ∧ Only (fun _ => False) w w'

set_option maxHeartbeats 1000000 in
theorem sides_1 (n g : Int) (w : World) : Calls Try.prog 83 #[.int .i64 1, .int .i64 n, .int .i64 g] w (Sides 1 n g w) := by
  have HO : Hid (∀ a b c d e, Only (fun _ => False) w (((((w.alloc a).alloc b).alloc c).alloc d).alloc e)) := Lib.hid (fun a b c d e => (((((Only.refl _ w).alloc a).alloc b).alloc c).alloc d).alloc e)
  go_enter Try.func83, Try.ntmps83
  go_wp2_with fail
  go_region
  go_wp2_with fail
  refine bodyPost_ret (v := .tuple #[.agg #[.int .i64 1, .int .i64 0, .int .i64 0], .agg #[.int .i64 2, .int .i64 n, .int .i64 0]]) (by simp [results, Try.results83, go_sem]) rfl ⟨rfl, (HO.out _ _ _ _ _).drew⟩

set_option maxHeartbeats 1000000 in
theorem sides_2 (n g : Int) (w : World) : Calls Try.prog 83 #[.int .i64 2, .int .i64 n, .int .i64 g] w (Sides 2 n g w) := by
  have HO : Hid (∀ a b c d e, Only (fun _ => False) w (((((w.alloc a).alloc b).alloc c).alloc d).alloc e)) := Lib.hid (fun a b c d e => (((((Only.refl _ w).alloc a).alloc b).alloc c).alloc d).alloc e)
  go_enter Try.func83, Try.ntmps83
  go_wp2_with fail
  go_region
  go_wp2_with fail
  refine bodyPost_ret (v := .tuple #[.agg #[.int .i64 2, .int .i64 n, .int .i64 0], .agg #[.int .i64 3, .int .i64 n, .int .i64 0]]) (by simp [results, Try.results83, go_sem]) rfl ⟨rfl, (HO.out _ _ _ _ _).drew⟩

set_option maxHeartbeats 1000000 in
theorem sides_3 (n g : Int) (w : World) : Calls Try.prog 83 #[.int .i64 3, .int .i64 n, .int .i64 g] w (Sides 3 n g w) := by
  have HO : Hid (∀ a b c d e, Only (fun _ => False) w (((((w.alloc a).alloc b).alloc c).alloc d).alloc e)) := Lib.hid (fun a b c d e => (((((Only.refl _ w).alloc a).alloc b).alloc c).alloc d).alloc e)
  go_enter Try.func83, Try.ntmps83
  go_wp2_with fail
  go_region
  go_wp2_with fail
  refine bodyPost_ret (v := .tuple #[.agg #[.int .i64 3, .int .i64 n, .int .i64 0], .agg #[.int .i64 2, .int .i64 n, .int .i64 0]]) (by simp [results, Try.results83, go_sem]) rfl ⟨rfl, (HO.out _ _ _ _ _).drew⟩

set_option maxHeartbeats 1000000 in
theorem sides_4 (n g : Int) (w : World) : Calls Try.prog 83 #[.int .i64 4, .int .i64 n, .int .i64 g] w (Sides 4 n g w) := by
  have HO : Hid (∀ a b c d e, Only (fun _ => False) w (((((w.alloc a).alloc b).alloc c).alloc d).alloc e)) := Lib.hid (fun a b c d e => (((((Only.refl _ w).alloc a).alloc b).alloc c).alloc d).alloc e)
  go_enter Try.func83, Try.ntmps83
  go_wp2_with fail
  go_region
  go_wp2_with fail
  refine bodyPost_ret (v := .tuple #[.agg #[.int .i64 3, .int .i64 n, .int .i64 0], .agg #[.int .i64 4, .int .i64 n, .int .i64 g]]) (by simp [results, Try.results83, go_sem]) rfl ⟨rfl, (HO.out _ _ _ _ _).drew⟩

set_option maxHeartbeats 1000000 in
theorem sides_5 (n g : Int) (w : World) : Calls Try.prog 83 #[.int .i64 5, .int .i64 n, .int .i64 g] w (Sides 5 n g w) := by
  have HO : Hid (∀ a b c d e, Only (fun _ => False) w (((((w.alloc a).alloc b).alloc c).alloc d).alloc e)) := Lib.hid (fun a b c d e => (((((Only.refl _ w).alloc a).alloc b).alloc c).alloc d).alloc e)
  go_enter Try.func83, Try.ntmps83
  go_wp2_with fail
  refine bodyPost_ret (v := .tuple #[.agg #[.int .i64 2, .int .i64 n, .int .i64 0], .agg #[.int .i64 5, .int .i64 n, .int .i64 0]]) (by simp [results, Try.results83, go_sem]) rfl ⟨rfl, (HO.out _ _ _ _ _)⟩

set_option maxHeartbeats 1000000 in
theorem sides_6 (n g : Int) (w : World) : Calls Try.prog 83 #[.int .i64 6, .int .i64 n, .int .i64 g] w (Sides 6 n g w) := by
  have HO : Hid (∀ a b c d e, Only (fun _ => False) w (((((w.alloc a).alloc b).alloc c).alloc d).alloc e)) := Lib.hid (fun a b c d e => (((((Only.refl _ w).alloc a).alloc b).alloc c).alloc d).alloc e)
  go_enter Try.func83, Try.ntmps83
  go_wp2_with fail
  go_region
  go_wp2_with fail
  refine bodyPost_ret (v := .tuple #[.agg #[.int .i64 4, .int .i64 n, .int .i64 g], .agg #[.int .i64 2, .int .i64 n, .int .i64 0]]) (by simp [results, Try.results83, go_sem]) rfl ⟨rfl, (HO.out _ _ _ _ _).drew⟩

theorem sides_any (kind n g : Int) (hk : kindB kind = true) (w : World) : Calls Try.prog 83 #[.int .i64 kind, .int .i64 n, .int .i64 g] w (Sides kind n g w) := by
  unfold kindB at hk
  simp at hk
  have : kind = 1 ∨ kind = 2 ∨ kind = 3 ∨ kind = 4 ∨ kind = 5 ∨ kind = 6 := by omega
  rcases this with rfl | rfl | rfl | rfl | rfl | rfl
  · exact sides_1 n g w
  · exact sides_2 n g w
  · exact sides_3 n g w
  · exact sides_4 n g w
  · exact sides_5 n g w
  · exact sides_6 n g w
end Go.Proofs.Ytkbaafgaaiekpaa.entw
