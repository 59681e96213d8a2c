/- Tariffs: in which tier a block is. -/
import Derived.Test.YtonacdjaimokeaaTirL
namespace Go.Proofs.Ytonacdjaimokeaa.tirw
open Go.RowKit mem tirm intm
set_option linter.unusedVariables false

theorem lit_any (u p n : Int) (q : Nat) (w : World) (hq : w.cell? ⟨q, 0, none⟩ = some (.int .i64 n)) :
    Calls Try.prog 103 #[.agg #[.int .i64 u, .int .i64 p], .pointer (some ⟨q, 0, none⟩)] w fun e w' => e = .returned (.bool (decide (u = 0 ∨ n ≤ u))) ∧ Only (fun _ => False) w w' := by
  have HO : Hid (∀ o, Only (fun _ => False) w (w.alloc o)) := Lib.hid (fun o => (Only.refl _ w).alloc o)
  have hq2 : ∀ o, (w.alloc o).cell? ⟨q, 0, none⟩ = some (.int .i64 n) := fun o => (HO.out o).cell' hq (fun f => f)
  by_cases h0 : u = 0
  · rw [decide_eq_true (.inl h0)]
    subst h0
    go_enter Try.func103, Try.ntmps103
    go_wp2_with fail
    go_ret
    exact ⟨rfl, HO.out _⟩
  · by_cases h1 : n ≤ u
    · rw [decide_eq_true (.inr h1)]
      go_enter Try.func103, Try.ntmps103
      go_wp2_with fail
      go_ret
      exact ⟨rfl, HO.out _⟩
    · rw [decide_eq_false (by omega)]
      have h2 : (u == 0) = false := by simpa using h0
      go_enter Try.func103, Try.ntmps103
      go_wp2_with fail
      go_ret
      exact ⟨rfl, HO.out _⟩

theorem idx_step {ts : List Tr} {k : Nat} (n : Int) (h : k < ts.length) : idxF n k (ts.drop k) = if (ts.getD k default).u = 0 ∨ n ≤ (ts.getD k default).u then (k : Int) else idxF n ((k + 1 : Nat) : Int) (ts.drop (k + 1)) := by
  rw [drop_getT ts k h]
  rfl

set_option maxRecDepth 100000 in
theorem indexf_any (a : Option Addr) (len cap : Nat) (ts : List Tr) (n : Int) (q : Nat) (w : World) (h : ReadsT w a len ts) (hq : w.cell? ⟨q, 0, none⟩ = some (.int .i64 n)) :
    Calls Try.prog 102 #[.slice a len cap, .func (.func 103) #[] #[.pointer (some ⟨q, 0, none⟩)]] w fun e w' => e = .returned (.int .i64 (idxF n 0 ts)) ∧ Only (fun _ => False) w w' := by
  have hm := h.2.1
  have H := Lib.hid h
  have HL : Hid (ts.length = len) := Lib.hid h.1
  have HQ := Lib.hid hq
  clear h hq
  go_enter Try.func102, Try.ntmps102
  go_wp2_with fail
  go_loopw [8] (fun i wr => ∃ k : Nat, k ≤ len ∧ i = .int .i64 k ∧ Hid (idxF n k (ts.drop k) = idxF n 0 ts) ∧ Hid (Only (fun _ => False) w wr)) (fun i _ => len - (intOf i).toNat)
  case atStart => exact ⟨0, by omega, rfl, Lib.hid rfl, Lib.hid (Only.refl _ _)⟩
  case round =>
    obtain ⟨k, hk, rfl, HP, HW⟩ := hrel
    by_cases h8 : k < len
    · obtain ⟨b, off, rfl, hcell⟩ := H.out.2.2.2.resolve_left (by omega)
      obtain ⟨hc0, hc1⟩ := hcell k h8
      have c0 := HW.out.cell' hc0 (fun f => f)
      have c1 := HW.out.cell' hc1 (fun f => f)
      have hst := HP.out
      rw [idx_step n (by rw [HL.out]; exact h8)] at hst
      generalize ts.getD k default = x at *
      obtain ⟨u, p⟩ := x
      dsimp only at c0 c1 hst
      have HST := Lib.hid hst
      clear hcell hc0 hc1 hst
      go_wp2_with fail
      refine (lit_any u p n q wr (HW.out.cell' HQ.out (fun f => f))).mono ?_
      rintro _ w1 ⟨rfl, h1⟩
      have HW1 := Lib.hid (HW.out.trans h1)
      clear h1
      by_cases h2 : u = 0 ∨ n ≤ u
      · rw [decide_eq_true h2]
        have HR : Hid (idxF n 0 ts = k) := Lib.hid (by rw [← HST.out, if_pos h2])
        clear h2
        go_wp2_with fail
        go_ret
        exact ⟨by rw [HR.out]; rfl, HW1.out⟩
      · rw [decide_eq_false h2]
        have HR := HST.out
        rw [if_neg h2] at HR
        replace HR := Lib.hid HR
        clear h2
        go_wp2_with fail
        go_round
        case rel => exact ⟨k + 1, by omega, by go_num, HR, HW1⟩
        case measure => simp [intOf]; omega
    · obtain rfl : k = len := by omega
      have HR : Hid (idxF n 0 ts = -1) := Lib.hid (by rw [← HP.out, List.drop_eq_nil_of_le (by rw [HL.out]; omega)]; rfl)
      go_wp2_with fail
      go_ret
      exact ⟨by rw [HR.out]; rfl, HW.out⟩

set_option maxRecDepth 100000 in
theorem index_any (a : Option Addr) (len cap : Nat) (ts : List Tr) (n : Int) (w : World) (h : ReadsT w a len ts) :
    Calls Try.prog 80 #[.slice a len cap, .int .i64 n] w fun e w' => e = .returned (.int .i64 (idxF n 0 ts)) ∧ Only (fun _ => False) w w' := by
  have HO : Hid (∀ o, Only (fun _ => False) w (w.alloc o)) := Lib.hid (fun o => (Only.refl _ w).alloc o)
  have H := Lib.hid h
  have HC := Lib.hid (indexf_any a len cap ts n w.heap.size (w.alloc (.cells #[.int .i64 n] 3)) (h.only (HO.out _) (fun _ _ f => f)) (alloc_new _ _ _ _ _ _ rfl rfl))
  clear h
  go_enter Try.func80, Try.ntmps80
  go_wp2_with fail
  refine HC.out.mono ?_
  rintro _ w1 ⟨rfl, h1⟩
  have HF := Lib.hid ((HO.out _).trans h1)
  clear h1
  go_wp2_with fail
  go_ret
  exact ⟨rfl, HF.out⟩
end Go.Proofs.Ytonacdjaimokeaa.tirw
