/- The program's own Sum: what it answers. -/
import Derived.Test.YthflglejhhebeaaMemI
import Derived.Test.YthflglejhhebeaaPairs0
import Derived.Laws.Externs
namespace Go.Proofs.Ythflglejhhebeaa.bigw
open Go.RowKit mem bigm intm
set_option linter.unusedVariables false

theorem add64 (x y c : Int) (hx : 0 ≤ x) (hy : 0 ≤ y) (hc0 : 0 ≤ c) (hc : c ≤ 1) (w : World) : (callFunc 70 #[.int .u64 x, .int .u64 y, .int .u64 c]).run Try.prog w =
    .ok (.value (.tuple #[.int .u64 ((x + y + c) % 18446744073709551616), .int .u64 ((x + y + c) / 18446744073709551616)])) w := by
  rw [run_callFunc_extern Try.func70 (by kernel_rfl) (by kernel_rfl) (by kernel_rfl) (e := add64Entry) (by kernel_rfl), run_add64 x y c hx hy hc0 hc]
  rfl
theorem add64_0 (x y : Int) (hx : 0 ≤ x) (hy : 0 ≤ y) (w : World) : (callFunc 70 #[.int .u64 x, .int .u64 y, .int .u64 0]).run Try.prog w =
    .ok (.value (.tuple #[.int .u64 ((x + y) % 18446744073709551616), .int .u64 ((x + y) / 18446744073709551616)])) w := by
  simpa using add64 x y 0 hx hy (Int.le_refl 0) (by decide) w

/-- the upper word of a number -/
def up (n : Int) : Int := if n < 0 then 18446744073709551615 else 0

set_option maxRecDepth 100000 in
theorem sign_any (n : Int) (hn : -9223372036854775808 ≤ n ∧ n ≤ 9223372036854775807) (w : World) :
    Calls Try.prog 71 #[.int .i64 n] w fun e w' => e = .returned (.int .u64 (up n)) ∧ w = w' := by
  have hu : up n = (n / 9223372036854775808) % 18446744073709551616 := by unfold up; split <;> omega
  rw [hu]
  go_enter Try.func71, Try.ntmps71
  go_wp2
  go_ret
  exact ⟨rfl, rfl⟩

theorem u64_wrap (n : Int) : IntKind.u64.wrap n = n % 18446744073709551616 := by rfl

theorem sum_le : ∀ (l : List Int), (∀ c ∈ l, -9223372036854775808 ≤ c ∧ c ≤ 9223372036854775807) → -9223372036854775808 * (l.length : Int) ≤ l.sum ∧ l.sum ≤ 9223372036854775808 * (l.length : Int) := by
  intro l
  induction l with
  | nil => intro _; simp
  | cons c l ih =>
    intro h
    have h1 := ih (fun d hd => h d (by simp [hd]))
    have h2 := h c (by simp)
    rw [List.sum_cons, List.length_cons]
    omega

theorem sum_take_succ (l : List Int) (k : Nat) (h : k < l.length) : (l.take (k + 1)).sum = (l.take k).sum + l.getD k 0 := by
  rw [List.take_succ_eq_append_getElem h, List.sum_append]
  simp [List.getD, h]

/-- the two words of a sum on the way -/
def Two (hi lo s : Int) : Prop := 0 ≤ hi ∧ hi < 18446744073709551616 ∧ 0 ≤ lo ∧ lo < 18446744073709551616 ∧ ∃ m : Int, hi * 18446744073709551616 + lo = s + 340282366920938463463374607431768211456 * m

theorem two_step {hi lo s n : Int} (h : Two hi lo s) (hn : -9223372036854775808 ≤ n ∧ n ≤ 9223372036854775807) :
    Two ((hi + up n + (lo + n % 18446744073709551616) / 18446744073709551616) % 18446744073709551616) ((lo + n % 18446744073709551616) % 18446744073709551616) (s + n) := by
  obtain ⟨h1, h2, h3, h4, m, hm⟩ := h
  obtain ⟨q, hq⟩ : ∃ q, (hi + up n + (lo + n % 18446744073709551616) / 18446744073709551616) / 18446744073709551616 = q := ⟨_, rfl⟩
  refine ⟨by omega, by omega, by omega, by omega, m + (if n < 0 then 1 else 0) - q, ?_⟩
  unfold up at hq ⊢
  split <;> simp_all only [if_true, if_false] <;> omega

theorem two_end {hi lo s : Int} (h : Two hi lo s) (hs : -85070591730234615865843651857942052864 ≤ s ∧ s ≤ 85070591730234615865843651857942052864) :
    isInt s = decide (hi = up (wrap64 lo)) ∧ (hi = up (wrap64 lo) → wrap64 lo = s) := by
  obtain ⟨h1, h2, h3, h4, m, hm⟩ := h
  have hw : wrap64 lo = if lo < 9223372036854775808 then lo else lo - 18446744073709551616 := by
    unfold wrap64; split <;> omega
  rw [hw]
  have hiff : (hi = up (if lo < 9223372036854775808 then lo else lo - 18446744073709551616)) ↔ (-9223372036854775808 ≤ s ∧ s ≤ 9223372036854775807) := by
    unfold up; split <;> split <;> omega
  refine ⟨?_, ?_⟩
  · rw [Bool.eq_iff_iff, isInt_iff, decide_eq_true_eq]; exact hiff.symm
  · intro he
    have hb := hiff.1 he
    unfold up at he
    split at he <;> split at he <;> split <;> omega

set_option maxRecDepth 100000 in
set_option maxHeartbeats 1000000 in
theorem asum_any (a : Option Addr) (len cap : Nat) (l : List Int) (w : World) (h : ReadsI w a len l) :
    Calls Try.prog 61 #[.slice a len cap] w fun e w' => e = .returned (.tuple #[.int .i64 (intOr l.sum), .bool (isInt l.sum)]) ∧ w = w' := by
  obtain ⟨hl, hm, hr, hc⟩ := h
  unfold maxLen at hm
  have HL := Lib.hid hl
  have HR := Lib.hid hr
  clear hl hr
  have HB : Hid (-85070591730234615865843651857942052864 ≤ l.sum ∧ l.sum ≤ 85070591730234615865843651857942052864) := Lib.hid (by
    have := sum_le l HR.out
    rw [HL.out] at this
    omega)
  go_enter Try.func61, Try.ntmps61
  go_wp2_with fail
  go_loop [4, 5, 12] (fun hv lv i => ∃ (k : Nat) (hi lo : Int), k ≤ len ∧ i = .int .i64 k ∧ hv = .int .u64 hi ∧ lv = .int .u64 lo ∧ Hid (Two hi lo (l.take k).sum)) (fun _ _ i => len - (intOf i).toNat)
  case atStart => exact ⟨0, 0, 0, by omega, rfl, rfl, rfl, Lib.hid ⟨by omega, by omega, by omega, by omega, 0, by simp⟩⟩
  case round =>
    obtain ⟨k, hi, lo, hk, rfl, rfl, rfl, HT⟩ := hrel
    by_cases h8 : k < len
    · obtain ⟨b, off, rfl, hcell⟩ := hc.resolve_left (by omega)
      have hcl := hcell k h8
      have HS : Hid ((l.take (k + 1)).sum = (l.take k).sum + l.getD k 0) := Lib.hid (sum_take_succ l k (by rw [HL.out]; exact h8))
      have hn := in_getD l HR.out k
      have HN := Lib.hid (two_step HT.out hn)
      rw [← u64_wrap] at HN
      have HX := Lib.hid hn
      rw [← HS.out] at HN
      clear HS hcell hc
      generalize l.getD k 0 = n at *
      have q1 : 0 ≤ lo := HT.out.2.2.1
      have q2 : 0 ≤ IntKind.u64.wrap n := by rw [u64_wrap]; omega
      have q3 : 0 ≤ hi := HT.out.1
      have q4 : 0 ≤ up n := by unfold up; split <;> omega
      have q5 : 0 ≤ (lo + IntKind.u64.wrap n) / 18446744073709551616 := by rw [u64_wrap]; omega
      have q6 : (lo + IntKind.u64.wrap n) / 18446744073709551616 ≤ 1 := by rw [u64_wrap]; have := HT.out.2.2.2.1; omega
      clear hn
      go_wp2_with (simp only [add64_0 lo _ q1 q2])
      refine (sign_any n HX.out _).mono ?_
      rintro e1 w1 ⟨rfl, rfl⟩
      go_wp2_with (simp only [add64 hi (up n) _ q3 q4 q5 q6])
      go_round
      case rel => exact ⟨k + 1, _, _, by omega, by go_num, rfl, rfl, HN⟩
      case measure => simp [intOf]; omega
    · obtain rfl : k = len := by omega
      have HT2 := Lib.hid (two_end (by have := HT.out; rw [List.take_of_length_le (by rw [HL.out]; omega)] at this; exact this) HB.out)
      have HW := Lib.hid (wrap64_in lo)
      clear hc hm
      go_wp2_with fail
      refine (sign_any (wrap64 lo) HW.out _).mono ?_
      rintro e1 w1 ⟨rfl, rfl⟩
      generalize hu : up (wrap64 lo) = u at *
      have hd : isInt l.sum = decide (hi = u) := HT2.out.1
      by_cases he : hi = u
      · have e1 : isInt l.sum = true := by rw [hd, he]; simp
        have e2 : intOr l.sum = wrap64 lo := by unfold intOr; rw [e1, HT2.out.2 he]; rfl
        subst he
        clear hd HT2 HT
        go_wp2_with fail
        rw [e1, e2]
        go_ret2
        exact ⟨rfl, rfl⟩
      · have e1 : isInt l.sum = false := by rw [hd]; simp [he]
        have e2 : intOr l.sum = 0 := by unfold intOr; rw [e1]; rfl
        clear hd HT2 HT
        go_wp2_with fail
        rw [e1, e2]
        go_ret2
        exact ⟨rfl, rfl⟩
end Go.Proofs.Ythflglejhhebeaa.bigw
