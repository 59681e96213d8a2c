/- Rhythms: is one right? The document's answer likewise. -/
import Derived.Test.YtlldecklngcklaaMem
import Derived.Test.YtlldecklngcklaaRhyM
import Derived.WalkLawsBesides
namespace Go.Proofs.Ytlldecklngcklaa.rhyw
open Go.RowKit mem fltm rhym
set_option linter.unusedVariables false

theorem alloc_new (W : World) (cs : Array Value) (t : TypeId) (g i : Nat) (v : Value) (hg : g = W.heap.size) (h : cs[i]? = some v) : (W.alloc (.cells cs t)).cell? ⟨g, i, none⟩ = some v := by
  subst hg
  rw [Go.Joins.cell_of_block (cs := cs) (t := t) (fr := (0, 0)) (by rw [heap_alloc, if_pos rfl]), h]

set_option maxRecDepth 100000 in
theorem isright_any (a b c d : Int) (w : World) : Calls Try.prog 112 #[.agg #[.int .i64 a, .int .i64 b, .int .i64 c, .int .i64 d]] w fun e w' => e = .returned (.bool (rightB a b c d)) ∧ Only (fun _ => False) w w' := by
  have i0 : ∀ w : World, (Instr.index 108 (.agg #[.int .i64 a, .int .i64 b, .int .i64 c, .int .i64 d]) (.int .i64 0)).run Try.prog w = .ok (.int .i64 a) w := fun _ => by kernel_rfl
  have i1 : ∀ w : World, (Instr.index 108 (.agg #[.int .i64 a, .int .i64 b, .int .i64 c, .int .i64 d]) (.int .i64 1)).run Try.prog w = .ok (.int .i64 b) w := fun _ => by kernel_rfl
  have i2 : ∀ w : World, (Instr.index 108 (.agg #[.int .i64 a, .int .i64 b, .int .i64 c, .int .i64 d]) (.int .i64 2)).run Try.prog w = .ok (.int .i64 c) w := fun _ => by kernel_rfl
  have i3 : ∀ w : World, (Instr.index 108 (.agg #[.int .i64 a, .int .i64 b, .int .i64 c, .int .i64 d]) (.int .i64 3)).run Try.prog w = .ok (.int .i64 d) w := fun _ => by kernel_rfl
  have HO : Hid (∀ o, Only (fun _ => False) w (w.alloc o)) := Lib.hid (fun o => (Only.refl _ w).alloc o)
  go_enter Try.func112, Try.ntmps112
  go_wp2_with fail
  go_loop [7] (fun i => ∃ k : Nat, k ≤ 4 ∧ i = .int .i64 k ∧ Hid ((1 ≤ k → Q1 a) ∧ (2 ≤ k → Q1 b) ∧ (3 ≤ k → Q1 c) ∧ (4 ≤ k → Q1 d))) (fun i => match i with | .int _ n => 4 - n.toNat | _ => 0)
  case atStart => exact ⟨0, by omega, rfl, Lib.hid ⟨fun h => by omega, fun h => by omega, fun h => by omega, fun h => by omega⟩⟩
  case round =>
    obtain ⟨k, hk, rfl, HP⟩ := hrel
    have hk5 : k = 0 ∨ k = 1 ∨ k = 2 ∨ k = 3 ∨ k = 4 := by omega
    rcases hk5 with rfl | rfl | rfl | rfl | rfl
    · by_cases hq : Q1 a
      · have h1 := hq.1
        have h2 := hq.2
        replace hq := Lib.hid hq
        go_wp2_with fail
        go_round
        case rel => exact ⟨1, by omega, by go_num, Lib.hid ⟨fun _ => hq.out, fun h => by omega, fun h => by omega, fun h => by omega⟩⟩
        case measure => simp
      · have HN := Lib.hid (right_no (a := a) (b := b) (c := c) (d := d) (fun h => hq h.1))
        by_cases h1 : a < 0
        · clear hq
          go_wp2_with fail
          go_ret
          exact ⟨by rw [HN.out]; rfl, HO.out _⟩
        · have h2 : 1125899906842624 < a := by unfold Q1 at hq; omega
          have h3 : 0 ≤ a := by omega
          clear hq h1
          go_wp2_with fail
          go_ret
          exact ⟨by rw [HN.out]; rfl, HO.out _⟩
    · by_cases hq : Q1 b
      · have h1 := hq.1
        have h2 := hq.2
        replace hq := Lib.hid hq
        go_wp2_with fail
        go_round
        case rel => exact ⟨2, by omega, by go_num, Lib.hid ⟨fun _ => HP.out.1 (by omega), fun _ => hq.out, fun h => by omega, fun h => by omega⟩⟩
        case measure => simp
      · have HN := Lib.hid (right_no (a := a) (b := b) (c := c) (d := d) (fun h => hq h.2.1))
        by_cases h1 : b < 0
        · clear hq
          go_wp2_with fail
          go_ret
          exact ⟨by rw [HN.out]; rfl, HO.out _⟩
        · have h2 : 1125899906842624 < b := by unfold Q1 at hq; omega
          have h3 : 0 ≤ b := by omega
          clear hq h1
          go_wp2_with fail
          go_ret
          exact ⟨by rw [HN.out]; rfl, HO.out _⟩
    · by_cases hq : Q1 c
      · have h1 := hq.1
        have h2 := hq.2
        replace hq := Lib.hid hq
        go_wp2_with fail
        go_round
        case rel => exact ⟨3, by omega, by go_num, Lib.hid ⟨fun _ => HP.out.1 (by omega), fun _ => HP.out.2.1 (by omega), fun _ => hq.out, fun h => by omega⟩⟩
        case measure => simp
      · have HN := Lib.hid (right_no (a := a) (b := b) (c := c) (d := d) (fun h => hq h.2.2.1))
        by_cases h1 : c < 0
        · clear hq
          go_wp2_with fail
          go_ret
          exact ⟨by rw [HN.out]; rfl, HO.out _⟩
        · have h2 : 1125899906842624 < c := by unfold Q1 at hq; omega
          have h3 : 0 ≤ c := by omega
          clear hq h1
          go_wp2_with fail
          go_ret
          exact ⟨by rw [HN.out]; rfl, HO.out _⟩
    · by_cases hq : Q1 d
      · have h1 := hq.1
        have h2 := hq.2
        replace hq := Lib.hid hq
        go_wp2_with fail
        go_round
        case rel => exact ⟨4, by omega, by go_num, Lib.hid ⟨fun _ => HP.out.1 (by omega), fun _ => HP.out.2.1 (by omega), fun _ => HP.out.2.2.1 (by omega), fun _ => hq.out⟩⟩
        case measure => simp
      · have HN := Lib.hid (right_no (a := a) (b := b) (c := c) (d := d) (fun h => hq h.2.2.2))
        by_cases h1 : d < 0
        · clear hq
          go_wp2_with fail
          go_ret
          exact ⟨by rw [HN.out]; rfl, HO.out _⟩
        · have h2 : 1125899906842624 < d := by unfold Q1 at hq; omega
          have h3 : 0 ≤ d := by omega
          clear hq h1
          go_wp2_with fail
          go_ret
          exact ⟨by rw [HN.out]; rfl, HO.out _⟩
    · have HN := Lib.hid (right_yes (a := a) (b := b) (c := c) (d := d) ⟨HP.out.1 (by omega), HP.out.2.1 (by omega), HP.out.2.2.1 (by omega), HP.out.2.2.2 (by omega)⟩)
      go_wp2_with fail
      go_ret
      exact ⟨by rw [HN.out]; rfl, HO.out _⟩
set_option maxRecDepth 100000 in
theorem rright_any (a b c d : Int) (w : World) : Calls Try.prog 61 #[.agg #[.int .i64 a, .int .i64 b, .int .i64 c, .int .i64 d]] w fun e w' => e = .returned (.bool (rightB a b c d)) ∧ Only (fun _ => False) w w' := by
  have i0 : (w.alloc (.cells #[.int .i64 a, .int .i64 b, .int .i64 c, .int .i64 d] 108)).cell? ⟨w.heap.size, 0, none⟩ = some (.int .i64 a) := alloc_new _ _ _ _ _ _ rfl rfl
  have i1 : (w.alloc (.cells #[.int .i64 a, .int .i64 b, .int .i64 c, .int .i64 d] 108)).cell? ⟨w.heap.size, 1, none⟩ = some (.int .i64 b) := alloc_new _ _ _ _ _ _ rfl rfl
  have i2 : (w.alloc (.cells #[.int .i64 a, .int .i64 b, .int .i64 c, .int .i64 d] 108)).cell? ⟨w.heap.size, 2, none⟩ = some (.int .i64 c) := alloc_new _ _ _ _ _ _ rfl rfl
  have i3 : (w.alloc (.cells #[.int .i64 a, .int .i64 b, .int .i64 c, .int .i64 d] 108)).cell? ⟨w.heap.size, 3, none⟩ = some (.int .i64 d) := alloc_new _ _ _ _ _ _ rfl rfl
  have HO : Hid (∀ o, Only (fun _ => False) w (w.alloc o)) := Lib.hid (fun o => (Only.refl _ w).alloc o)
  go_enter Try.func61, Try.ntmps61
  go_wp2_with fail
  go_loop [3] (fun i => ∃ k : Nat, k ≤ 4 ∧ i = .int .i64 k ∧ Hid ((1 ≤ k → Q1 a) ∧ (2 ≤ k → Q1 b) ∧ (3 ≤ k → Q1 c) ∧ (4 ≤ k → Q1 d))) (fun i => match i with | .int _ n => 4 - n.toNat | _ => 0)
  case atStart => exact ⟨0, by omega, rfl, Lib.hid ⟨fun h => by omega, fun h => by omega, fun h => by omega, fun h => by omega⟩⟩
  case round =>
    obtain ⟨k, hk, rfl, HP⟩ := hrel
    have hk5 : k = 0 ∨ k = 1 ∨ k = 2 ∨ k = 3 ∨ k = 4 := by omega
    rcases hk5 with rfl | rfl | rfl | rfl | rfl
    · by_cases hq : Q1 a
      · have h1 := hq.1
        have h2 := hq.2
        replace hq := Lib.hid hq
        go_wp2_with fail
        go_round
        case rel => exact ⟨1, by omega, by go_num, Lib.hid ⟨fun _ => hq.out, fun h => by omega, fun h => by omega, fun h => by omega⟩⟩
        case measure => simp
      · have HN := Lib.hid (right_no (a := a) (b := b) (c := c) (d := d) (fun h => hq h.1))
        by_cases h1 : a < 0
        · clear hq
          go_wp2_with fail
          go_ret
          exact ⟨by rw [HN.out]; rfl, HO.out _⟩
        · have h2 : 1125899906842624 < a := by unfold Q1 at hq; omega
          have h3 : 0 ≤ a := by omega
          clear hq h1
          go_wp2_with fail
          go_ret
          exact ⟨by rw [HN.out]; rfl, HO.out _⟩
    · by_cases hq : Q1 b
      · have h1 := hq.1
        have h2 := hq.2
        replace hq := Lib.hid hq
        go_wp2_with fail
        go_round
        case rel => exact ⟨2, by omega, by go_num, Lib.hid ⟨fun _ => HP.out.1 (by omega), fun _ => hq.out, fun h => by omega, fun h => by omega⟩⟩
        case measure => simp
      · have HN := Lib.hid (right_no (a := a) (b := b) (c := c) (d := d) (fun h => hq h.2.1))
        by_cases h1 : b < 0
        · clear hq
          go_wp2_with fail
          go_ret
          exact ⟨by rw [HN.out]; rfl, HO.out _⟩
        · have h2 : 1125899906842624 < b := by unfold Q1 at hq; omega
          have h3 : 0 ≤ b := by omega
          clear hq h1
          go_wp2_with fail
          go_ret
          exact ⟨by rw [HN.out]; rfl, HO.out _⟩
    · by_cases hq : Q1 c
      · have h1 := hq.1
        have h2 := hq.2
        replace hq := Lib.hid hq
        go_wp2_with fail
        go_round
        case rel => exact ⟨3, by omega, by go_num, Lib.hid ⟨fun _ => HP.out.1 (by omega), fun _ => HP.out.2.1 (by omega), fun _ => hq.out, fun h => by omega⟩⟩
        case measure => simp
      · have HN := Lib.hid (right_no (a := a) (b := b) (c := c) (d := d) (fun h => hq h.2.2.1))
        by_cases h1 : c < 0
        · clear hq
          go_wp2_with fail
          go_ret
          exact ⟨by rw [HN.out]; rfl, HO.out _⟩
        · have h2 : 1125899906842624 < c := by unfold Q1 at hq; omega
          have h3 : 0 ≤ c := by omega
          clear hq h1
          go_wp2_with fail
          go_ret
          exact ⟨by rw [HN.out]; rfl, HO.out _⟩
    · by_cases hq : Q1 d
      · have h1 := hq.1
        have h2 := hq.2
        replace hq := Lib.hid hq
        go_wp2_with fail
        go_round
        case rel => exact ⟨4, by omega, by go_num, Lib.hid ⟨fun _ => HP.out.1 (by omega), fun _ => HP.out.2.1 (by omega), fun _ => HP.out.2.2.1 (by omega), fun _ => hq.out⟩⟩
        case measure => simp
      · have HN := Lib.hid (right_no (a := a) (b := b) (c := c) (d := d) (fun h => hq h.2.2.2))
        by_cases h1 : d < 0
        · clear hq
          go_wp2_with fail
          go_ret
          exact ⟨by rw [HN.out]; rfl, HO.out _⟩
        · have h2 : 1125899906842624 < d := by unfold Q1 at hq; omega
          have h3 : 0 ≤ d := by omega
          clear hq h1
          go_wp2_with fail
          go_ret
          exact ⟨by rw [HN.out]; rfl, HO.out _⟩
    · have HN := Lib.hid (right_yes (a := a) (b := b) (c := c) (d := d) ⟨HP.out.1 (by omega), HP.out.2.1 (by omega), HP.out.2.2.1 (by omega), HP.out.2.2.2 (by omega)⟩)
      go_wp2_with fail
      go_ret
      exact ⟨by rw [HN.out]; rfl, HO.out _⟩
end Go.Proofs.Ytlldecklngcklaa.rhyw
