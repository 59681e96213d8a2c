/- Lines: how many blocks, and what they cost: the program's. -/
import Derived.Test.YtdfghdccbpnohaaTirL
import Derived.Test.YtdfghdccbpnohaaTirU
import Derived.Test.YtdfghdccbpnohaaRowI
import Derived.Test.YtdfghdccbpnohaaSumAT
import Derived.Deep.OwnRows
namespace Go.Proofs.Ytdfghdccbpnohaa.tirw
open Go.RowKit mem tirm intm bigm bigw
set_option linter.unusedVariables false

theorem getN_mem (ls : List Ln) (k : Nat) (h : k < ls.length) : ls.getD k default ∈ ls := by
  have : ls.getD k default = ls[k] := by simp [List.getD, h]
  rw [this]; exact List.getElem_mem h
theorem range_map {β : Type} (f : Ln → β) (ls : List Ln) : (List.range ls.length).map (fun j => f (ls.getD j default)) = ls.map f := by
  apply List.ext_getElem
  · simp
  · intro i h1 h2
    simp at h1
    simp [List.getD, h1]
/-- each field an int -/
def LnsI (ls : List Ln) : Prop := ∀ x ∈ ls, InI x.t ∧ InI x.b ∧ InI x.p
/-- blocks are told: with which sum, and whether it is one -/
def BlocksAt (ls : List Ln) (w : World) (e : Ending) (w' : World) : Prop :=
  e = .returned (.tuple #[.int .i64 (intOr (sumB ls)), .bool (isInt (sumB ls))]) ∧ Only (fun _ => False) w w'

set_option maxRecDepth 100000 in
set_option maxHeartbeats 1000000 in
theorem blocks_any (a : Option Addr) (len cap : Nat) (ls : List Ln) (w : World) (h : ReadsN w a len ls) (hin : LnsI ls) (hlen : len ≤ 1000000) :
    Calls Try.prog 9 #[.slice a len cap] w (BlocksAt ls w) := by
  have hmk := run_make_row' (P := Try.prog) 36 3 (.int .i64 0) 8 Try.underlying36 info_i64 rfl .i64 .i64 len (by omega) (by omega)
  have H := Lib.hid h
  have HIN := Lib.hid hin
  have HL : Hid (ls.length = len) := Lib.hid h.1
  have HM := Lib.hid (made_row w len)
  clear h hin
  go_enter Try.func9, Try.ntmps9
  go_wp2_with fail
  clear hmk
  go_loopw [12] (fun i wr => ∃ k : Nat, k ≤ len ∧ i = .int .i64 k ∧ Hid (RowI wr w.heap.size len (mixf (fun j => (ls.getD j default).b) (fun _ => 0) k)) ∧ Hid (Only (fun _ => False) w wr)) (fun i _ => len - (intOf i).toNat)
  case atStart => exact ⟨0, by omega, rfl, Lib.hid HM.out.start, Lib.hid ((Only.refl _ w).alloc _)⟩
  case round =>
    obtain ⟨k, hk, rfl, HRW, HO⟩ := hrel
    by_cases h8 : k < len
    · obtain ⟨b, off, rfl, hcell⟩ := H.out.2.resolve_left (by omega)
      obtain ⟨hc0, hc1, hc2⟩ := hcell k h8
      have c0 := HO.out.cell' hc0 (fun f => f)
      have c1 := HO.out.cell' hc1 (fun f => f)
      have c2 := HO.out.cell' hc2 (fun f => f)
      clear hcell hc0 hc1 hc2
      have HN := Lib.hid (fun o => (HRW.out.only (S := fun _ => False) ((Only.refl _ wr).alloc o) (fun f => f)).next h8)
      have HW := Lib.hid (fun o v => (HO.out.alloc o).setCell (p := ⟨w.heap.size, k, none⟩) (.inr (Nat.le_refl _)) v)
      have HC := Lib.hid (fun o => (HRW.out.only (S := fun _ => False) ((Only.refl _ wr).alloc o) (fun f => f)) k h8)
      generalize ls.getD k default = x at *
      obtain ⟨xt, xb, xp⟩ := x
      dsimp only at c0 c1 c2 HN
      have q := HC.out (.cells #[.int .i64 xt, .int .i64 xb, .int .i64 xp] 32)
      obtain ⟨q0, z0⟩ := q
      go_wp2_with fail
      go_roundw
      case rel => exact ⟨k + 1, by omega, by go_num, Lib.hid (HN.out _), Lib.hid (HW.out _ _)⟩
      case measure => simp [intOf]; omega
    · obtain rfl : k = len := by omega
      have hr := HRW.out.whole.reads (by unfold maxLen; omega) (fun j hj => (HIN.out _ (getN_mem ls j (by rw [HL.out]; exact hj))).2.1)
      have e : (List.range k).map (fun j => (ls.getD j default).b) = ls.map Ln.b := by rw [← HL.out]; exact range_map Ln.b ls
      rw [e] at hr
      have HR := Lib.hid hr
      clear hr e
      go_wp2_with fail
      refine (asum_any _ _ _ (ls.map Ln.b) _ HR.out).mono ?_
      rintro _ _ ⟨rfl, rfl⟩
      rw [← sumB_map]
      have HS : Hid (BlocksAt ls w (.returned (.tuple #[.int .i64 (intOr (sumB ls)), .bool (isInt (sumB ls))])) wr) := Lib.hid ⟨rfl, HO.out⟩
      generalize intOr (sumB ls) = q1 at *
      generalize isInt (sumB ls) = q2 at *
      go_wp2_with fail
      go_ret2
      exact HS.out

/-- what lines cost, if that can be told -/
def costOk (ls : List Ln) : Bool := (ls.all fun x => isInt (x.b * x.p)) && isInt (costB ls)
def costN (ls : List Ln) : Int := if costOk ls then costB ls else 0
def CostAt (ls : List Ln) (w : World) (e : Ending) (w' : World) : Prop :=
  e = .returned (.tuple #[.int .i64 (costN ls), .bool (costOk ls)]) ∧ Only (fun _ => False) w w'
theorem costB_map (ls : List Ln) : costB ls = (ls.map fun x => x.b * x.p).sum := by
  induction ls with
  | nil => rfl
  | cons x r ih => rw [List.map_cons, List.sum_cons, ← ih]; rfl
theorem cost_no {ls : List Ln} {x : Ln} (hx : x ∈ ls) (h : isInt (x.b * x.p) = false) : costN ls = 0 ∧ costOk ls = false := by
  have e : costOk ls = false := by
    unfold costOk
    rw [Bool.and_eq_false_iff]
    left
    rw [List.all_eq_false]
    exact ⟨x, hx, by rw [h]; simp⟩
  unfold costN
  rw [e]
  exact ⟨rfl, rfl⟩
theorem cost_all {ls : List Ln} (h : ∀ x ∈ ls, isInt (x.b * x.p) = true) : costN ls = intOr (costB ls) ∧ costOk ls = isInt (costB ls) := by
  have e : costOk ls = isInt (costB ls) := by
    unfold costOk
    rw [List.all_eq_true.2 h, Bool.true_and]
  unfold costN intOr
  rw [e]
  exact ⟨rfl, rfl⟩

end Go.Proofs.Ytdfghdccbpnohaa.tirw
