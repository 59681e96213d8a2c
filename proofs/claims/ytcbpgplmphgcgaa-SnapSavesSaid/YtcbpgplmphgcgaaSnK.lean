/- The law's fixed image; no longer than some. -/
import Derived.Test.YtcbpgplmphgcgaaSnJ
import Derived.Laws.Strings
namespace Go.Proofs.Ytcbpgplmphgcgaa.snw
open Go.RowKit mem snm crcm dskw
set_option linter.unusedVariables false

def zF : Nat → List Nat := fun _ => zeros
theorem zeros_len : zeros.length = 64 := by simp [zeros]
theorem gOfB_zeros : gOfB zeros = 0 := by decide
theorem gOfB_zF (a m : Nat) (hm : 1 ≤ m) : gOfB (secs zF a m) = 0 := by
  have h := take_secs (f := zF) (a := a) (m := m) zeros_len hm
  have e : (secs zF a m).take 64 = zeros.take 64 := by rw [h, List.take_of_length_le (by rw [zeros_len]; omega)]; rfl
  rw [gOfB_first e]
  exact gOfB_zeros
theorem parse_zF (a m odd : Nat) (hm : 1 ≤ m) : parse (secs zF a m) odd = (0, []) := parse_none _ _ (by rw [gOfB_zF a m hm]; omega)
theorem slotL_none (L : Nat → List Nat) (first size odd : Nat) : slotL L (fun _ => none) first size odd = parse (secs L (first + odd * size) size) odd := by unfold slotL; rw [cur_none]
theorem wrOff0 (m : Nat) : wrOff 0 m = false := by unfold wrOff; exact decide_eq_false (by omega)
theorem cutJ0 (m : Nat) : cutJ 0 m = 0 := by unfold cutJ; rw [if_neg (by omega)]
/-- what a Save leaves, where the power doesn't go off -/
theorem Saved.zero {p bl bm n : Nat} {L : Nat → List Nat} {at_ gen : Nat} {im : List Nat} {w : World} {e : Ending} {w' : World} (h : Saved p bl bm n L 0 at_ gen im w e w') : e = .returned (.int .i64 0) ∧ DAft p bl bm n w w' (saveF L at_ gen im) (fun _ => none) 0 false := by
  rcases h with ⟨h1, -⟩ | ⟨-, h2, -⟩ | ⟨-, -, h3, h4⟩
  · rw [wrOff0] at h1; cases h1
  · rw [cutJ0, wrOff0] at h2; cases h2
  · rw [cutJ0, cutJ0] at h4; exact ⟨h3, h4⟩
theorem abc_reads (w : World) (t : TypeId) : Reads (w.alloc (.cells #[.int .u8 97, .int .u8 98, .int .u8 99] t)) (some ⟨w.heap.size, 0, none⟩) 3 [97, 98, 99] := by
  refine ⟨rfl, by unfold maxLen; omega, by intro c hc; simp at hc; omega, .inr ⟨_, _, rfl, fun i hi => ?_⟩⟩
  rw [Go.Joins.cell_of_block (cs := #[.int .u8 97, .int .u8 98, .int .u8 99]) (t := t) (fr := (0, 0)) (by rw [heap_alloc, if_pos rfl])]
  rcases (by omega : i = 0 ∨ i = 1 ∨ i = 2) with rfl | rfl | rfl <;> rfl
set_option maxRecDepth 100000 in
set_option maxHeartbeats 4000000 in
theorem tame_any (a : Option Addr) (len cap : Nat) (l : List Nat) (w : World) (h : Bytes w a len cap l) : Calls Try.prog 35 #[.slice a len cap] w fun e w' => ∃ v, e = .returned v ∧ OwnB w' v (l.take 500) ∧ Only (fun _ => False) w w' ∧ ∀ k, v.ownBlock = some k → w.heap.size ≤ k := by
  obtain ⟨i0, hi, hz0, hz1, hz2⟩ := info_parts info_u8
  have hm := h.2.2.1
  have h1 := h.2.1
  unfold maxLen at hm
  have hll := h.1.1
  by_cases h0 : len = 0
  · subst h0
    obtain rfl : l = [] := List.eq_nil_of_length_eq_zero hll
    rw [List.take_nil]
    clear h hm hll
    have hc0 : (0 : Int) ≤ cap := by omega
    have hB0 : OwnB (w.alloc (.cells #[] 5)) (.slice (some ⟨w.heap.size, 0, none⟩) 0 0) [] := ⟨World.ownsRow_lit w #[] 0 (Nat.zero_le _) (by decide) rfl, by intro c hc; simp at hc, by simp [maxLen]⟩
    rcases a with _ | x
    all_goals
     go_enter Try.func35, Try.ntmps35
     go_wp2_with fail
     go_ret
     exact ⟨_, rfl, hB0, (Only.refl _ _).alloc _, fun k e => by simp [Value.ownBlock] at e; omega⟩
  obtain ⟨x, rfl⟩ : ∃ x, a = some x := by
    rcases a with _ | x
    · have := h.2.2.2 rfl; omega
    · exact ⟨x, rfl⟩
  by_cases hc : len ≤ 500
  · rw [List.take_of_length_le (by omega : l.length ≤ 500)]
    have HLL := Lib.hid h.1.1
    have HBB := Lib.hid h.1.2.2.1
    have HR := Lib.hid h.1
    have hc0 : (len : Int) ≤ cap := by omega
    have hlt : ¬ ((500 : Int) < len) := by omega
    have hlt2 : ((len : Int) ≤ 500) := by omega
    have hnz : ¬ (len : Int) = 0 := by omega
    clear h hll
    go_enter Try.func35, Try.ntmps35
    go_wp2_with (first | (at_builtin; refine append_mine rfl _ _ 47 rfl 5 i0 (.int .u8 0) 1 1 Try.underlying47 hi hz0 hz1 hz2 rfl (by decide) _ _ _ rfl (World.ownsRow_lit w #[] 0 (Nat.zero_le _) (by decide) rfl) x _ _ (bv l) rfl ?c1 ?c2 ?c3 ?c4 ?c5 ?_) | fail)
    case c1 => rw [bv_length, HLL.out]
    case c2 => exact news_of_reads (HR.out.only ((Only.refl (fun _ => False) w).alloc _) (fun _ _ f => f))
    case c3 => exact bv_one _
    case c4 => unfold maxLen; omega
    case c5 => omega
    intro v' w1 hown hgrow hk
    have hO : Only (fun _ => False) w w1 := by
      have h1 := (Only.refl (fun k => some w.heap.size = some k) w).alloc (.cells #[] 5)
      have h2 := h1.then (Only.of_grown hgrow) (fun i hi' hh => hh)
      exact h2.mono (fun k hk' e => by simp at e; omega)
    have hB : OwnB w1 v' l := ⟨by rw [HLL.out]; simpa using hown, HBB.out, by rw [HLL.out]; unfold maxLen; omega⟩
    have hK : ∀ k, v'.ownBlock = some k → w.heap.size ≤ k := fun k e => by
      rcases hk k e with h1 | h1
      · simp [Value.ownBlock] at h1; omega
      · omega
    clear hown hgrow hk
    go_wp2
    go_ret
    exact ⟨_, rfl, hB, hO, hK⟩
  · have HLL : Hid ((l.take 500).length = 500) := Lib.hid (by rw [List.length_take]; omega)
    have HR := Lib.hid (h.1.take 500 (by omega))
    have HBB := Lib.hid HR.out.2.2.1
    have hc0 : (500 : Int) ≤ cap := by omega
    have hlt : ((500 : Int) < len) := by omega
    have hlt2 : ¬ ((len : Int) ≤ 500) := by omega
    clear h hll
    generalize l.take 500 = lk at *
    go_enter Try.func35, Try.ntmps35
    go_wp2_with (first | (at_builtin; refine append_mine rfl _ _ 47 rfl 5 i0 (.int .u8 0) 1 1 Try.underlying47 hi hz0 hz1 hz2 rfl (by decide) _ _ _ rfl (World.ownsRow_lit w #[] 0 (Nat.zero_le _) (by decide) rfl) x _ _ (bv lk) rfl ?c1 ?c2 ?c3 ?c4 ?c5 ?_) | fail)
    case c1 => rw [bv_length, HLL.out]
    case c2 => exact news_of_reads (HR.out.only ((Only.refl (fun _ => False) w).alloc _) (fun _ _ f => f))
    case c3 => exact bv_one _
    case c4 => unfold maxLen; omega
    intro v' w1 hown hgrow hk
    have hO : Only (fun _ => False) w w1 := by
      have h1 := (Only.refl (fun k => some w.heap.size = some k) w).alloc (.cells #[] 5)
      have h2 := h1.then (Only.of_grown hgrow) (fun i hi' hh => hh)
      exact h2.mono (fun k hk' e => by simp at e; omega)
    have hB : OwnB w1 v' lk := ⟨by rw [HLL.out]; simpa using hown, HBB.out, by rw [HLL.out]; unfold maxLen; omega⟩
    have hK : ∀ k, v'.ownBlock = some k → w.heap.size ≤ k := fun k e => by
      rcases hk k e with h1 | h1
      · simp [Value.ownBlock] at h1; omega
      · omega
    clear hown hgrow hk
    go_wp2
    go_ret
    exact ⟨_, rfl, hB, hO, hK⟩
end Go.Proofs.Ytcbpgplmphgcgaa.snw
