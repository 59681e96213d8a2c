/- Tariffs: a split of nothing, or out of bounds; the document's tier of a block. -/
import Derived.Test.YtonacdjaimokeaaTirG
namespace Go.Proofs.Ytonacdjaimokeaa.tirw
open Go.RowKit mem tirm intm
set_option linter.unusedVariables false

set_option maxRecDepth 100000 in
set_option maxHeartbeats 2000000 in
theorem split_out (G M B : Int) (a : Option Addr) (len cap : Nat) (ts : List Tr) (p n : Int) (w : World) (h : ReadsT w a len ts) (hc : tchk G M B ts = 0) (hb : p < 0 ∨ 1099511627776 < p ∨ n < 0 ∨ 1073741824 < n) :
    Calls Try.prog 54 #[.agg #[.int .i64 G, .int .i64 M, .int .i64 B, .slice a len cap], .int .i64 p, .int .i64 n] w fun e w' => e = .returned (.tuple #[.slice none 0 0, .int .i64 1]) ∧ Only (fun _ => False) w w' := by
  have HO : Hid (∀ o, Only (fun _ => False) w (w.alloc o)) := Lib.hid (fun o => (Only.refl _ w).alloc o)
  have HC := Lib.hid (fun w' (ho : Only (fun _ => False) w w') => tcheck_any G M B a len cap ts w' (h.only ho (fun _ _ f => f)))
  rw [hc] at HC
  have hb2 : p < 0 ∨ (0 ≤ p ∧ 1099511627776 < p) ∨ (0 ≤ p ∧ p ≤ 1099511627776 ∧ n < 0) ∨ (0 ≤ p ∧ p ≤ 1099511627776 ∧ 0 ≤ n ∧ 1073741824 < n) := by omega
  clear h hc hb
  rcases hb2 with k1 | ⟨k1, k2⟩ | ⟨k1, k2, k3⟩ | ⟨k1, k2, k3, k4⟩
  all_goals (go_enter Try.func54, Try.ntmps54; go_wp2_with fail; refine (HC.out _ (HO.out _)).mono ?_; rintro _ w1 ⟨rfl, h3⟩; have HF := Lib.hid ((HO.out _).trans h3); clear h3; go_wp2_with fail; go_ret2; exact ⟨rfl, HF.out⟩)
set_option maxRecDepth 100000 in
set_option maxHeartbeats 2000000 in
theorem split_zero (G M B : Int) (a : Option Addr) (len cap : Nat) (ts : List Tr) (p : Int) (w : World) (h : ReadsT w a len ts) (hc : tchk G M B ts = 0) (h1 : 0 ≤ p) (h2 : p ≤ 1099511627776) :
    Calls Try.prog 54 #[.agg #[.int .i64 G, .int .i64 M, .int .i64 B, .slice a len cap], .int .i64 p, .int .i64 0] w fun e w' => e = .returned (.tuple #[.slice none 0 0, .int .i64 0]) ∧ Only (fun _ => False) w w' := by
  have HO : Hid (∀ o, Only (fun _ => False) w (w.alloc o)) := Lib.hid (fun o => (Only.refl _ w).alloc o)
  have HC := Lib.hid (fun w' (ho : Only (fun _ => False) w w') => tcheck_any G M B a len cap ts w' (h.only ho (fun _ _ f => f)))
  rw [hc] at HC
  clear h hc
  go_enter Try.func54, Try.ntmps54
  go_wp2_with fail
  refine (HC.out _ (HO.out _)).mono ?_
  rintro _ w1 ⟨rfl, h3⟩
  have HF := Lib.hid ((HO.out _).trans h3)
  clear h3
  go_wp2_with fail
  go_ret2
  exact ⟨rfl, HF.out⟩
set_option maxRecDepth 100000 in
set_option maxHeartbeats 2000000 in
theorem rsplit_no (G M B : Int) (a : Option Addr) (len cap : Nat) (ts : List Tr) (p n : Int) (w : World) (h : ReadsT w a len ts) (hc : tchk G M B ts ≠ 0) :
    Calls Try.prog 57 #[.agg #[.int .i64 G, .int .i64 M, .int .i64 B, .slice a len cap], .int .i64 p, .int .i64 n] w fun e w' => e = .returned (.tuple #[.slice none 0 0, .int .i64 1]) ∧ Only (fun _ => False) w w' := by
  have HO : Hid (∀ o, Only (fun _ => False) w (w.alloc o)) := Lib.hid (fun o => (Only.refl _ w).alloc o)
  have HC := Lib.hid (fun w' (ho : Only (fun _ => False) w w') => rtcheck_any G M B a len cap ts w' (h.only ho (fun _ _ f => f)))
  have h2 : (tchk G M B ts != 0) = true := by simpa using hc
  clear h hc
  generalize tchk G M B ts = c at *
  go_enter Try.func57, Try.ntmps57
  go_wp2_with fail
  refine (HC.out _ (HO.out _)).mono ?_
  rintro _ w1 ⟨rfl, h3⟩
  have HF := Lib.hid ((HO.out _).trans h3)
  clear h3
  go_wp2_with fail
  go_ret2
  exact ⟨rfl, HF.out⟩
set_option maxRecDepth 100000 in
set_option maxHeartbeats 2000000 in
theorem rsplit_out (G M B : Int) (a : Option Addr) (len cap : Nat) (ts : List Tr) (p n : Int) (w : World) (h : ReadsT w a len ts) (hc : tchk G M B ts = 0) (hb : p < 0 ∨ 1099511627776 < p ∨ n < 0 ∨ 1073741824 < n) :
    Calls Try.prog 57 #[.agg #[.int .i64 G, .int .i64 M, .int .i64 B, .slice a len cap], .int .i64 p, .int .i64 n] w fun e w' => e = .returned (.tuple #[.slice none 0 0, .int .i64 1]) ∧ Only (fun _ => False) w w' := by
  have HO : Hid (∀ o, Only (fun _ => False) w (w.alloc o)) := Lib.hid (fun o => (Only.refl _ w).alloc o)
  have HC := Lib.hid (fun w' (ho : Only (fun _ => False) w w') => rtcheck_any G M B a len cap ts w' (h.only ho (fun _ _ f => f)))
  rw [hc] at HC
  have hb2 : p < 0 ∨ (0 ≤ p ∧ 1099511627776 < p) ∨ (0 ≤ p ∧ p ≤ 1099511627776 ∧ n < 0) ∨ (0 ≤ p ∧ p ≤ 1099511627776 ∧ 0 ≤ n ∧ 1073741824 < n) := by omega
  clear h hc hb
  rcases hb2 with k1 | ⟨k1, k2⟩ | ⟨k1, k2, k3⟩ | ⟨k1, k2, k3, k4⟩
  all_goals (go_enter Try.func57, Try.ntmps57; go_wp2_with fail; refine (HC.out _ (HO.out _)).mono ?_; rintro _ w1 ⟨rfl, h3⟩; have HF := Lib.hid ((HO.out _).trans h3); clear h3; go_wp2_with fail; go_ret2; exact ⟨rfl, HF.out⟩)
set_option maxRecDepth 100000 in
set_option maxHeartbeats 2000000 in
theorem rsplit_zero (G M B : Int) (a : Option Addr) (len cap : Nat) (ts : List Tr) (p : Int) (w : World) (h : ReadsT w a len ts) (hc : tchk G M B ts = 0) (h1 : 0 ≤ p) (h2 : p ≤ 1099511627776) :
    Calls Try.prog 57 #[.agg #[.int .i64 G, .int .i64 M, .int .i64 B, .slice a len cap], .int .i64 p, .int .i64 0] w fun e w' => e = .returned (.tuple #[.slice none 0 0, .int .i64 0]) ∧ Only (fun _ => False) w w' := by
  have HO : Hid (∀ o, Only (fun _ => False) w (w.alloc o)) := Lib.hid (fun o => (Only.refl _ w).alloc o)
  have HC := Lib.hid (fun w' (ho : Only (fun _ => False) w w') => rtcheck_any G M B a len cap ts w' (h.only ho (fun _ _ f => f)))
  rw [hc] at HC
  clear h hc
  go_enter Try.func57, Try.ntmps57
  go_wp2_with fail
  refine (HC.out _ (HO.out _)).mono ?_
  rintro _ w1 ⟨rfl, h3⟩
  have HF := Lib.hid ((HO.out _).trans h3)
  clear h3
  go_wp2_with fail
  go_ret2
  exact ⟨rfl, HF.out⟩
set_option maxRecDepth 100000 in
theorem rIndex_no (G M B : Int) (a : Option Addr) (len cap : Nat) (ts : List Tr) (n : Int) (w : World) (h : ReadsT w a len ts) (hn : n < 1 ∨ tchk G M B ts ≠ 0) :
    Calls Try.prog 83 #[.agg #[.int .i64 G, .int .i64 M, .int .i64 B, .slice a len cap], .int .i64 n] w fun e w' => e = .returned (.int .i64 (-1)) ∧ Only (fun _ => False) w w' := by
  have HO : Hid (∀ o, Only (fun _ => False) w (w.alloc o)) := Lib.hid (fun o => (Only.refl _ w).alloc o)
  have HC := Lib.hid (fun w' (ho : Only (fun _ => False) w w') => rtcheck_any G M B a len cap ts w' (h.only ho (fun _ _ f => f)))
  clear h
  generalize tchk G M B ts = c at *
  by_cases h1 : c = 0
  · have h2 : n < 1 := by omega
    subst h1
    clear hn
    go_enter Try.func83, Try.ntmps83
    go_wp2_with fail
    refine (HC.out _ (HO.out _)).mono ?_
    rintro _ w1 ⟨rfl, h3⟩
    have HF := Lib.hid ((HO.out _).trans h3)
    clear h3
    go_wp2_with fail
    go_ret
    exact ⟨rfl, HF.out⟩
  · have h2 : (c != 0) = true := by simpa using h1
    clear hn h1
    go_enter Try.func83, Try.ntmps83
    go_wp2_with fail
    refine (HC.out _ (HO.out _)).mono ?_
    rintro _ w1 ⟨rfl, h3⟩
    have HF := Lib.hid ((HO.out _).trans h3)
    clear h3
    go_wp2_with fail
    go_ret
    exact ⟨rfl, HF.out⟩
set_option maxRecDepth 100000 in
set_option maxHeartbeats 2000000 in
theorem rIndex_yes (G M B : Int) (a : Option Addr) (len cap : Nat) (ts : List Tr) (n : Int) (w : World) (h : ReadsT w a len ts) (hn : 1 ≤ n) (hc : tchk G M B ts = 0) :
    Calls Try.prog 83 #[.agg #[.int .i64 G, .int .i64 M, .int .i64 B, .slice a len cap], .int .i64 n] w fun e w' => e = .returned (.int .i64 (idxF n 0 ts)) ∧ Only (fun _ => False) w w' := by
  have HC := Lib.hid (fun w' (ho : Only (fun _ => False) w w') => rtcheck_any G M B a len cap ts w' (h.only ho (fun _ _ f => f)))
  rw [hc] at HC
  have hm := h.2.1
  have H := Lib.hid h
  have HL : Hid (ts.length = len) := Lib.hid h.1
  obtain ⟨_, _, _, hl0, _⟩ := (tchk_ok G M B ts).1 hc
  obtain ⟨b, off, rfl, hcell⟩ := h.2.2.2.resolve_left (by have := h.1; omega)
  have HCE := Lib.hid hcell
  have hlen : len ≤ 6 := by have := HL.out; omega
  obtain ⟨w0, hw0⟩ : ∃ w0, w0 = w.alloc (.cells #[.int .i64 G, .int .i64 M, .int .i64 B, .slice (some ⟨b, off, none⟩) len cap] 24) := ⟨_, rfl⟩
  have HO0 : Hid (Only (fun _ => False) w w0) := Lib.hid (by rw [hw0]; exact (Only.refl _ w).alloc _)
  have HBX : Hid (w0.cell? ⟨w.heap.size, 3, none⟩ = some (.slice (some ⟨b, off, none⟩) len cap)) := Lib.hid (by rw [hw0]; exact alloc_new _ _ _ _ _ _ rfl rfl)
  clear h hc hcell hl0
  go_enter Try.func83, Try.ntmps83
  go_wp2_with fail
  rw [← hw0]
  clear hw0
  refine (HC.out _ HO0.out).mono ?_
  rintro _ w1 ⟨rfl, h3⟩
  have H1 := Lib.hid h3
  clear h3
  go_wp2_with fail
  go_loopw [5] (fun i wr => ∃ k : Nat, k ≤ len ∧ i = .int .i64 k ∧ Hid (idxF n k (ts.drop k) = idxF n 0 ts) ∧ Hid (Only (fun _ => False) w0 wr)) (fun i _ => len - (intOf i).toNat)
  case atStart => exact ⟨0, by omega, rfl, Lib.hid rfl, H1⟩
  case round =>
    obtain ⟨k, hk, rfl, HP, HW⟩ := hrel
    have hb := HW.out.cell' HBX.out (fun f => f)
    by_cases h8 : k < len
    · obtain ⟨hc0, hc1⟩ := HCE.out k h8
      have c0 := (HO0.out.trans HW.out).cell' hc0 (fun f => f)
      have hst := HP.out
      rw [idx_step n (by rw [HL.out]; exact h8)] at hst
      generalize ts.getD k default = x at *
      obtain ⟨u, p⟩ := x
      dsimp only at c0 hst
      have HST := Lib.hid hst
      clear hc0 hc1 hst
      by_cases h2 : u = 0
      · have HR : Hid (idxF n 0 ts = k) := Lib.hid (by rw [← HST.out, if_pos (.inl h2)])
        subst h2
        go_wp2_with fail
        go_ret
        exact ⟨by rw [HR.out]; rfl, HO0.out.trans HW.out⟩
      · by_cases h3 : n ≤ u
        · have HR : Hid (idxF n 0 ts = k) := Lib.hid (by rw [← HST.out, if_pos (.inr h3)])
          go_wp2_with fail
          go_ret
          exact ⟨by rw [HR.out]; rfl, HO0.out.trans HW.out⟩
        · have HR := HST.out
          rw [if_neg (by omega)] at HR
          replace HR := Lib.hid HR
          go_wp2_with fail
          go_round
          case rel => exact ⟨k + 1, by omega, by go_num, HR, HW⟩
          case measure => simp [intOf]; omega
    · obtain rfl : k = len := by omega
      have HR : Hid (idxF n 0 ts = -1) := Lib.hid (by rw [← HP.out, List.drop_eq_nil_of_le (by rw [HL.out]; omega)]; rfl)
      go_wp2_with fail
      go_ret
      exact ⟨by rw [HR.out]; rfl, HO0.out.trans HW.out⟩
end Go.Proofs.Ytonacdjaimokeaa.tirw
