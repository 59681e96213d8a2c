/- RhythmAdds's walk, of every rhythm, time and count. -/
import Derived.Test.YtlldecklngcklaaRhyJ
import Derived.Test.YtlldecklngcklaaRhyK
import Derived.Test.YtlldecklngcklaaRhyL
import Derived.Test.YtlldecklngcklaaRhyN
namespace Go.Proofs.Ytlldecklngcklaa.rhyw
open Go.RowKit mem fltm rhym
set_option linter.unusedVariables false

def AddsOK (a b c d t u n : Int) : Prop := ∀ w : World, Calls Try.prog 12 #[.agg #[.int .i64 a, .int .i64 b, .int .i64 c, .int .i64 d], .agg #[.int .i64 t, .int .i64 u], .int .i64 n] w fun e w' => e = .returned (.bool true) ∧ Only (fun _ => False) w w'

theorem adds_2 (a b c d t u n : Int) (ht : 0 ≤ t) (hu : u < 4) : AddsOK a b c d t u n := by
  cases hr : rightB a b c d with
  | false => exact adds_rf_2 a b c d t u n ht hu hr
  | true =>
    have HQ := Lib.hid (right_of hr)
    by_cases hk : 3 < t
    · exact adds_hi_2 a b c d t u n ht hu hr hk
    · by_cases hn : n < 0
      · exact adds_lo_2 a b c d t u n ht hu hr (by omega) hn
      · have h4 : t = 0 ∨ t = 1 ∨ t = 2 ∨ t = 3 := by omega
        rcases h4 with rfl | rfl | rfl | rfl
        · by_cases h : n ≤ 1125899906842624 - a
          · exact adds_ok_2_0 a b c d u n hu HQ hr (by omega) h
          · exact adds_over_2_0 a b c d u n hu HQ hr (by omega) (by omega)
        · by_cases h : n ≤ 1125899906842624 - b
          · exact adds_ok_2_1 a b c d u n hu HQ hr (by omega) h
          · exact adds_over_2_1 a b c d u n hu HQ hr (by omega) (by omega)
        · by_cases h : n ≤ 1125899906842624 - c
          · exact adds_ok_2_2 a b c d u n hu HQ hr (by omega) h
          · exact adds_over_2_2 a b c d u n hu HQ hr (by omega) (by omega)
        · by_cases h : n ≤ 1125899906842624 - d
          · exact adds_ok_2_3 a b c d u n hu HQ hr (by omega) h
          · exact adds_over_2_3 a b c d u n hu HQ hr (by omega) (by omega)
theorem adds_3 (a b c d t u n : Int) (ht : 0 ≤ t) (hu : 4 ≤ u) (hu2 : 1073741824 < u) : AddsOK a b c d t u n := by
  cases hr : rightB a b c d with
  | false => exact adds_rf_3 a b c d t u n ht hu hu2 hr
  | true =>
    have HQ := Lib.hid (right_of hr)
    by_cases hk : 3 < t
    · exact adds_hi_3 a b c d t u n ht hu hu2 hr hk
    · by_cases hn : n < 0
      · exact adds_lo_3 a b c d t u n ht hu hu2 hr (by omega) hn
      · have h4 : t = 0 ∨ t = 1 ∨ t = 2 ∨ t = 3 := by omega
        rcases h4 with rfl | rfl | rfl | rfl
        · by_cases h : n ≤ 1125899906842624 - a
          · exact adds_ok_3_0 a b c d u n hu hu2 HQ hr (by omega) h
          · exact adds_over_3_0 a b c d u n hu hu2 HQ hr (by omega) (by omega)
        · by_cases h : n ≤ 1125899906842624 - b
          · exact adds_ok_3_1 a b c d u n hu hu2 HQ hr (by omega) h
          · exact adds_over_3_1 a b c d u n hu hu2 HQ hr (by omega) (by omega)
        · by_cases h : n ≤ 1125899906842624 - c
          · exact adds_ok_3_2 a b c d u n hu hu2 HQ hr (by omega) h
          · exact adds_over_3_2 a b c d u n hu hu2 HQ hr (by omega) (by omega)
        · by_cases h : n ≤ 1125899906842624 - d
          · exact adds_ok_3_3 a b c d u n hu hu2 HQ hr (by omega) h
          · exact adds_over_3_3 a b c d u n hu hu2 HQ hr (by omega) (by omega)
theorem adds_b (a b c d t u n : Int) (ht : 0 ≤ t) (hm : t ≤ 9223372036854775807) (hu : 4 ≤ u) (hu2 : u ≤ 1073741824) : AddsOK a b c d t u n := by
  have e1 : 0 ≤ t % u ∧ t % u < u := ⟨Int.emod_nonneg _ (by omega), Int.emod_lt_of_pos _ (by omega)⟩
  have e5 : t % u * 4 / u < 4 := Int.ediv_lt_of_lt_mul (by omega) (by omega)
  have e6 : 0 ≤ t % u * 4 / u := Int.ediv_nonneg (by omega) (by omega)
  have h4 : t % u * 4 / u = 0 ∨ t % u * 4 / u = 1 ∨ t % u * 4 / u = 2 ∨ t % u * 4 / u = 3 := by omega
  cases hr : rightB a b c d with
  | false =>
    rcases h4 with hk | hk | hk | hk
    · exact adds_b_rf_0 a b c d t u n ht hm hu hu2 hk hr
    · exact adds_b_rf_1 a b c d t u n ht hm hu hu2 hk hr
    · exact adds_b_rf_2 a b c d t u n ht hm hu hu2 hk hr
    · exact adds_b_rf_3 a b c d t u n ht hm hu hu2 hk hr
  | true =>
    have HQ := Lib.hid (right_of hr)
    by_cases hn : n < 0
    · rcases h4 with hk | hk | hk | hk
      · exact adds_b_lo_0 a b c d t u n ht hm hu hu2 hk hr hn
      · exact adds_b_lo_1 a b c d t u n ht hm hu hu2 hk hr hn
      · exact adds_b_lo_2 a b c d t u n ht hm hu hu2 hk hr hn
      · exact adds_b_lo_3 a b c d t u n ht hm hu hu2 hk hr hn
    · rcases h4 with hk | hk | hk | hk
      · by_cases h : n ≤ 1125899906842624 - a
        · exact adds_b_ok_0 a b c d t u n ht hm hu hu2 hk HQ hr (by omega) h
        · exact adds_b_over_0 a b c d t u n ht hm hu hu2 hk HQ hr (by omega) (by omega)
      · by_cases h : n ≤ 1125899906842624 - b
        · exact adds_b_ok_1 a b c d t u n ht hm hu hu2 hk HQ hr (by omega) h
        · exact adds_b_over_1 a b c d t u n ht hm hu hu2 hk HQ hr (by omega) (by omega)
      · by_cases h : n ≤ 1125899906842624 - c
        · exact adds_b_ok_2 a b c d t u n ht hm hu hu2 hk HQ hr (by omega) h
        · exact adds_b_over_2 a b c d t u n ht hm hu hu2 hk HQ hr (by omega) (by omega)
      · by_cases h : n ≤ 1125899906842624 - d
        · exact adds_b_ok_3 a b c d t u n ht hm hu hu2 hk HQ hr (by omega) h
        · exact adds_b_over_3 a b c d t u n ht hm hu hu2 hk HQ hr (by omega) (by omega)
theorem adds_any (a b c d t u n : Int) (hm : t ≤ 9223372036854775807) : AddsOK a b c d t u n := by
  by_cases ht : t < 0
  · cases hr : rightB a b c d with
    | false => exact adds_rf_1 a b c d t u n ht hr
    | true => exact adds_rt_1 a b c d t u n ht hr
  · by_cases hu : u < 4
    · exact adds_2 a b c d t u n (by omega) hu
    · by_cases hu2 : 1073741824 < u
      · exact adds_3 a b c d t u n (by omega) (by omega) hu2
      · exact adds_b a b c d t u n (by omega) hm (by omega) (by omega)
theorem adds_walk (a b c d t u n : Int) (hm : t ≤ 9223372036854775807) (w : World) : Calls Try.prog 12 #[.agg #[.int .i64 a, .int .i64 b, .int .i64 c, .int .i64 d], .agg #[.int .i64 t, .int .i64 u], .int .i64 n] w fun e w' => e = .returned (.bool true) ∧ Below w.heap.size w w' :=
  (adds_any a b c d t u n hm w).mono fun _ _ ⟨h1, h2⟩ => ⟨h1, h2.none⟩
end Go.Proofs.Ytlldecklngcklaa.rhyw
