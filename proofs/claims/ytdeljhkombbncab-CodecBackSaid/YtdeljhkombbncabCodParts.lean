/- The parts of the statements: their kind, their text, and what write does. -/
import Derived.Test.YtdeljhkombbncabCodPart
namespace Go.Proofs.Ytdeljhkombbncab.codw
open Go.RowKit mem codm
set_option linter.unusedVariables false

/-- a part as a value -/
def partV (k n : Int) (y : Bool) (a : Option Addr) (len cap : Nat) : Value := .agg #[.int .i64 k, .int .i64 n, .bool y, .slice a len cap]

theorem kind_arith (k : Int) : wrap64 ((IntKind.u64.wrap k).tmod 4) = k % 4 := by
  have h0 := wrap_u64_nonneg k
  rw [Int.tmod_eq_emod_of_nonneg h0, IntKind.wrap_u64, IntWalk.wrap64_in _ (by omega)]
  omega

theorem kind_any (k n : Int) (y : Bool) (a : Option Addr) (len cap : Nat) (w : World) :
    Calls Try.prog 16 #[.agg #[.int .i64 k, .int .i64 n, .bool y, .slice a len cap]] w fun en w' => en = .returned (.int .i64 (k % 4)) ∧ Only (fun _ => False) w w' := by
  have hk := Lib.hid (kind_arith k)
  go_enter Try.func16, Try.ntmps16
  go_wp2
  go_ret
  rw [← hk.out]
  exact ⟨rfl, (Only.refl _ w).alloc _⟩

theorem own_lit (w : World) (g : Nat) (t : TypeId) (hg : g = w.heap.size) : (w.alloc (.cells #[] t)).ownsRow 0 t 1 (.slice (some ⟨g, 0, none⟩) 0 0) 0 [] := by
  subst hg; exact World.ownsRow_lit w #[] 0 (Nat.zero_le _) (by decide) rfl

/-- an append to an empty row of the call's own -/
theorem app_empty {w w2 : World} {g : Nat} {v2 : Value} {r : List Nat} (hown : w2.ownsRow 0 5 1 v2 r.length (bv r)) (hgrow : w.grownBy w2 (some g))
    (hk : ∀ k, v2.ownBlock = some k → some g = some k ∨ w.heap.size ≤ k) (hr : ∀ c ∈ r, c < 256) (hm : r.length ≤ maxLen) :
    OwnB w2 v2 r ∧ Only (fun k => g = k) w w2 ∧ (∀ k, v2.ownBlock = some k → g = k ∨ w.heap.size ≤ k) := by
  refine ⟨⟨hown, hr, hm⟩, (Only.of_grown hgrow).mono (fun k _ h => by simpa using h), fun k h => by simpa using hk k h⟩

set_option maxRecDepth 100000 in
set_option maxHeartbeats 1000000 in
theorem text_any (k n : Int) (y : Bool) (a : Option Addr) (len cap : Nat) (l : List Nat) (w : World) (h : Bytes w a len cap l) :
    Calls Try.prog 23 #[.agg #[.int .i64 k, .int .i64 n, .bool y, .slice a len cap]] w fun en w' => ∃ g c, en = .returned (.slice (some ⟨g, 0, none⟩) (l.take 300).length c) ∧ OwnB w' (.slice (some ⟨g, 0, none⟩) (l.take 300).length c) (l.take 300) ∧ Only (fun _ => False) w w' ∧ w.heap.size ≤ g ∧ g < w'.heap.size ∧ (l.take 300).length ≤ c ∧ c ≤ maxLen := by
  obtain ⟨hr, hlc, hcm, hnone⟩ := h
  obtain ⟨i0, hi, hz0, hz1, hz2⟩ := info_parts info_u8
  unfold maxLen at hcm
  rcases a with _ | x
  · have := hnone rfl
    obtain rfl : cap = 0 := this
    obtain rfl : len = 0 := by omega
    obtain rfl : l = [] := List.eq_nil_of_length_eq_zero hr.1
    clear hnone hr
    go_enter Try.func23, Try.ntmps23
    go_wp2
    go_ret
    refine ⟨_, 0, rfl, ⟨?_, by simp, by unfold maxLen; simp⟩, ((Only.refl _ w).alloc _).alloc _, ?_, ?_, by simp, by unfold maxLen; omega⟩
    · exact own_lit _ _ _ (by rw [size_alloc])
    · omega
    · rw [size_alloc, size_alloc]; omega
  · rcases Nat.lt_or_ge 300 len with hlen | hlen
    all_goals
      obtain ⟨m, hm, hm3, hml⟩ : ∃ m, m = min len 300 ∧ m ≤ 300 ∧ m ≤ len := ⟨_, rfl, by omega, by omega⟩
      have HR : Hid (Reads w (some x) m (l.take 300)) := Lib.hid (by
        have h1 := hr.take m hml
        have h2 : l.take m = l.take 300 := by
          rw [hm]
          have := hr.1
          rcases Nat.le_total len 300 with h | h
          · rw [Nat.min_eq_left h, List.take_of_length_le (by omega), List.take_of_length_le (by omega)]
          · rw [Nat.min_eq_right h]
        rw [h2] at h1; exact h1)
      obtain ⟨l', hl'⟩ : ∃ l', l.take 300 = l' := ⟨_, rfl⟩
      rw [hl'] at HR ⊢
      clear hr hnone hl'
      first | (rw [Nat.min_eq_right (by omega : 300 ≤ len)] at hm; subst hm) | (rw [Nat.min_eq_left (by omega : len ≤ 300)] at hm; subst hm)
      have HLL := Lib.hid HR.out.1
      have HLB := Lib.hid HR.out.2.2.1
      go_enter Try.func23, Try.ntmps23
      go_wp2_with (first | (at_builtin; refine append_mine2 rfl _ _ 22 rfl 5 i0 (.int .u8 0) 1 1 Try.underlying22 hi hz0 hz1 hz2 rfl (by decide) (.slice (some ⟨w.heap.size + 1, 0, none⟩) 0 0) 0 [] rfl (own_lit _ _ _ (by rw [size_alloc])) x _ _ (bv l') rfl ?k2 ?k3 ?k4 ?k5 ?k6 ?_))
      case k2 => rw [bv_length, HLL.out, Nat.mul_one]
      case k3 => exact news_of_reads (HR.out.only (((Only.refl (fun _ => False) w).alloc _).alloc _) (fun _ _ f => f))
      case k4 => exact bv_one _
      case k5 => unfold maxLen; omega
      case k6 => omega
      intro v2 w2 hown hgrow hk hnn
      have HA := Lib.hid (app_empty (r := l') (by rw [HLL.out]; exact hown) hgrow (by simpa [Value.ownBlock] using hk) HLB.out (by rw [HLL.out]; unfold maxLen; omega))
      have hne : v2 ≠ .slice none 0 0 := fun f => by have := hnn f; cases this
      obtain ⟨g2, c2, hv2, hg2, hc2, hm2⟩ : ∃ g c, v2 = .slice (some ⟨g, 0, none⟩) l'.length c ∧ g < w2.heap.size ∧ l'.length ≤ c ∧ c ≤ maxLen := by
        rcases HA.out.1.forms with ⟨h1, _⟩ | h1
        · exact absurd h1 hne
        · exact h1
      rw [HLL.out] at hv2 hc2
      rw [hv2] at HA ⊢
      clear hv2 hown hgrow hk hnn hne
      have hO : Hid (Only (fun _ => False) w w2) := Lib.hid ((((Only.refl (fun _ => False) w).alloc _).alloc _).then HA.out.2.1 (fun i hi' e => by simp at e; omega))
      have hG : Hid (w.heap.size ≤ g2) := Lib.hid (by
        rcases HA.out.2.2 g2 rfl with h1 | h1
        · simp at h1; omega
        · rw [size_alloc, size_alloc] at h1; omega)
      go_wp2
      go_ret
      rw [HLL.out]
      exact ⟨g2, c2, rfl, HA.out.1, hO.out, hG.out, hg2, hc2, hm2⟩
end Go.Proofs.Ytdeljhkombbncab.codw
