/- Tariffs: a split of nothing, or out of bounds; the document's tier of a block. -/
import Derived.Test.YtghajamcjcflaaaTirG
namespace Go.Proofs.Ytghajamcjcflaaa.tirw
open Go.RowKit mem tirm intm
set_option linter.unusedVariables false

set_option maxRecDepth 100000 in
set_option maxHeartbeats 2000000 in
theorem split_out (G M B : Int) (a : Option Addr) (len cap : Nat) (ts : List Tr) (p n : Int) (w : World) (h : ReadsT w a len ts) (hc : tchk G M B ts = 0) (hb : p < 0 ∨ 1099511627776 < p ∨ n < 0 ∨ 1073741824 < n) :
    Calls Try.prog 35 #[.agg #[.int .i64 G, .int .i64 M, .int .i64 B, .slice a len cap], .int .i64 p, .int .i64 n] w fun e w' => e = .returned (.tuple #[.slice none 0 0, .int .i64 1]) ∧ Only (fun _ => False) w w' := by
  have HO : Hid (∀ o, Only (fun _ => False) w (w.alloc o)) := Lib.hid (fun o => (Only.refl _ w).alloc o)
  have HC := Lib.hid (fun w' (ho : Only (fun _ => False) w w') => tcheck_any G M B a len cap ts w' (h.only ho (fun _ _ f => f)))
  rw [hc] at HC
  have hb2 : p < 0 ∨ (0 ≤ p ∧ 1099511627776 < p) ∨ (0 ≤ p ∧ p ≤ 1099511627776 ∧ n < 0) ∨ (0 ≤ p ∧ p ≤ 1099511627776 ∧ 0 ≤ n ∧ 1073741824 < n) := by omega
  clear h hc hb
  rcases hb2 with k1 | ⟨k1, k2⟩ | ⟨k1, k2, k3⟩ | ⟨k1, k2, k3, k4⟩
  all_goals (go_enter Try.func35, Try.ntmps35; go_wp2_with fail; refine (HC.out _ (HO.out _)).mono ?_; rintro _ w1 ⟨rfl, h3⟩; have HF := Lib.hid ((HO.out _).trans h3); clear h3; go_wp2_with fail; go_ret2; exact ⟨rfl, HF.out⟩)
set_option maxRecDepth 100000 in
set_option maxHeartbeats 2000000 in
theorem split_zero (G M B : Int) (a : Option Addr) (len cap : Nat) (ts : List Tr) (p : Int) (w : World) (h : ReadsT w a len ts) (hc : tchk G M B ts = 0) (h1 : 0 ≤ p) (h2 : p ≤ 1099511627776) :
    Calls Try.prog 35 #[.agg #[.int .i64 G, .int .i64 M, .int .i64 B, .slice a len cap], .int .i64 p, .int .i64 0] w fun e w' => e = .returned (.tuple #[.slice none 0 0, .int .i64 0]) ∧ Only (fun _ => False) w w' := by
  have HO : Hid (∀ o, Only (fun _ => False) w (w.alloc o)) := Lib.hid (fun o => (Only.refl _ w).alloc o)
  have HC := Lib.hid (fun w' (ho : Only (fun _ => False) w w') => tcheck_any G M B a len cap ts w' (h.only ho (fun _ _ f => f)))
  rw [hc] at HC
  clear h hc
  go_enter Try.func35, Try.ntmps35
  go_wp2_with fail
  refine (HC.out _ (HO.out _)).mono ?_
  rintro _ w1 ⟨rfl, h3⟩
  have HF := Lib.hid ((HO.out _).trans h3)
  clear h3
  go_wp2_with fail
  go_ret2
  exact ⟨rfl, HF.out⟩
end Go.Proofs.Ytghajamcjcflaaa.tirw
