/- What codec reads as a group's number. -/
import Derived.Test.YtcbpgplmphgcgaaMem
import Derived.Test.YtcbpgplmphgcgaaCodMath
import Derived.ScopeJumps
import Derived.WalkMore
import Derived.Outline
namespace Go.Proofs.Ytcbpgplmphgcgaa.codw
open Go.RowKit mem codm
set_option linter.unusedVariables false

theorem or_step {i c acc : Nat} (hi : i ≤ 9) (hc : c < 256) (ha : acc < 128 ^ i) (h : acc + c % 128 * 128 ^ i < 18446744073709551616) :
    bits .or .u64 (acc : Int) (IntKind.u64.wrap ((c : Int) % 128 * 2 ^ (7 * i))) = ((acc + c % 128 * 128 ^ i : Nat) : Int) := by
  have e : (c : Int) % 128 * 2 ^ (7 * i) = ((c % 128 * 128 ^ i : Nat) : Int) := by
    rw [show (128 : Nat) ^ i = 2 ^ (7 * i) by rw [Nat.pow_mul]]
    rw [Int.natCast_mul, Int.natCast_emod, Int.natCast_pow]; rfl
  rw [e, IntKind.wrap_u64, Int.emod_eq_of_lt (by omega) (by omega), u64_or_nat _ _ (by omega) (by omega)]
  have h2 := Nat.shiftLeft_add_eq_or_of_lt (b := acc) (i := 7 * i) (by rw [show (2 : Nat) ^ (7 * i) = 128 ^ i by rw [Nat.pow_mul]]; exact ha) (c % 128)
  rw [Nat.shiftLeft_eq, show (2 : Nat) ^ (7 * i) = 128 ^ i by rw [Nat.pow_mul]] at h2
  rw [Nat.or_comm, ← h2]
  congr 1
  omega

theorem or_zero {c : Nat} (hc : c < 256) : bits .or .u64 0 ((c : Int) % 128) = ((c % 128 : Nat) : Int) := by
  have h := u64_or_nat 0 (c % 128) (by omega) (by omega)
  rw [Nat.zero_or] at h
  rw [← h]; rfl

/-- what holds at each jump back to the label -/
def Round (M len : Nat) (cap : Nat) (a : Option Addr) (l : List Nat) (w : World) (a' : Act) (w' : World) : Prop :=
  ∃ (i acc : Nat) (u9 u10 u11 u12 u13 u14 u15 u16 u17 u18 u19 u20 u21 u22 u23 u24 u25 u26 u27 u28 u29 u30 u31 u32 u33 u34 u35 u36 u37 u38 u39 u40 u41 u42 u43 u44 : Value), a' = { tmps := #[.slice a len cap, .int .i64 (M : Int), undef, undef, .int .u64 0, .int .i64 0, .int .i64 0, .int .u64 (acc : Int), .int .i64 (i : Int), u9, u10, u11, u12, u13, u14, u15, u16, u17, u18, u19, u20, u21, u22, u23, u24, u25, u26, u27, u28, u29, u30, u31, u32, u33, u34, u35, u36, u37, u38, u39, u40, u41, u42, u43, u44, undef, undef, undef, undef, undef, undef, undef, undef], defers := [] } ∧ w' = w ∧ i ≤ len ∧ i ≤ M ∧ dec M l 0 0 = dec M (l.drop i) i acc ∧ acc < 128 ^ i ∧ 1 ≤ i

set_option maxRecDepth 100000 in
set_option maxHeartbeats 4000000 in
theorem groups_any (M : Nat) (hM : 9 ≤ M ∧ M ≤ 10) (a : Option Addr) (len cap : Nat) (l : List Nat) (w : World) (h : Reads w a len l) :
    Calls Try.prog 117 #[.slice a len cap, .int .i64 (M : Int)] w fun e w' =>
      e = .returned (.tuple #[.int .u64 ((dec M l 0 0).1 : Int), .int .i64 ((dec M l 0 0).2.1 : Int), .int .i64 ((dec M l 0 0).2.2 : Int)]) ∧ w = w' := by
  obtain ⟨hl, hm, hb, hc⟩ := h
  unfold maxLen at hm
  have HL := Lib.hid hl
  have HC := Lib.hid hc
  have HB := Lib.hid hb
  clear hl hc hb
  go_enter Try.func117, Try.ntmps117
  go_wp2
  refine wp_scope_jumps 0 (Round M len cap a l w) (fun a' _ => len - (intOf (a'.tmps.getD 8 undef)).toNat) rfl ?_ ?_
  · go_wp2
    go_step3
    by_cases hend : 0 = len
    · have hR : Hid (dec M l 0 0 = (0, 0, 3)) := Lib.hid (by rw [List.eq_nil_of_length_eq_zero (by rw [HL.out]; omega : l.length = 0), dec_nil])
      have ht : ((0 : Int) == (len : Int)) = true := by rw [beq_iff_eq]; omega
      go_wp2
      simp only [Exit.jump]
      go_ret3
      rw [hR.out]
      exact ⟨rfl, rfl⟩
    · have ht : ((0 : Int) == (len : Int)) = false := by rw [beq_eq_false_iff_ne]; omega
      obtain ⟨b, off, rfl, hcell⟩ := HC.out.resolve_left (by omega)
      have hcl := hcell 0 (by omega)
      rw [Nat.add_zero] at hcl
      have hclt := getD_lt l HB.out 0
      have hdrop : l.drop 0 = l.getD 0 0 :: l.drop (0 + 1) := by
        have h2 : 0 < l.length := by rw [HL.out]; omega
        rw [List.drop_eq_getElem_cons h2]; simp [List.getD, h2]
      obtain ⟨c, hcc⟩ : ∃ c, l.getD 0 0 = c := ⟨_, rfl⟩
      rw [hcc] at hcl hclt hdrop
      have HDR : Hid (dec M l 0 0 = dec M (c :: l.drop (0 + 1)) 0 0) := Lib.hid (by rw [← hdrop]; rfl)
      have HA : Hid (0 < 128 ^ 0) := Lib.hid (by omega)
      clear hcell hdrop hcc HC
      have hiM2 : ¬ 0 = M := by omega
      have hb1 : ((0 : Int) == (M : Int)) = false := by rw [beq_eq_false_iff_ne]; omega
      have h9 : ¬ (0 = 9 ∧ 1 < c % 128) := by omega
      have hi9 : 0 ≤ 9 := by omega
      have hfar : ¬ (0 = M ∨ (0 = 9 ∧ 1 < c % 128)) := by omega
      have hiM3 : 0 + 1 ≤ M := by omega
      have hx := acc_step (c := c) hi9 HA.out (by omega)
      have hal := acc_lt c HA.out
      have hor := or_zero hclt
      rw [Nat.zero_add, Nat.pow_zero, Nat.mul_one] at hx hal
      obtain ⟨X, HX⟩ : ∃ X, Hid (c % 128 = X) := ⟨_, Lib.hid rfl⟩
      rw [HX.out] at hx hor hal
      have hx64 := hx.1
      have HAL := Lib.hid hal
      clear hx hal HA
      have HF := Lib.hid hfar
      have H9 := Lib.hid h9
      clear hfar hiM2 h9
      by_cases hge : 128 ≤ c
      · have hR : Hid (dec M l 0 0 = dec M (l.drop (0 + 1)) (0 + 1) X) := Lib.hid (by rw [HDR.out, dec_more HF.out hge]; simp only [Nat.zero_add, Nat.pow_zero, Nat.mul_one, HX.out])
        clear HDR HF H9
        go_wp2_with fail
        go_step3
        refine ⟨rfl, 0 + 1, X, _, _, _, _, _, _, _, _, _, _, _, _, _, _, _, _, _, _, _, _, _, _, _, _, _, _, _, _, _, _, _, _, _, _, _, _, rfl, rfl, by omega, by omega, hR.out, HAL.out, by omega⟩
      · by_cases hz : c % 128 = 0 ∧ 0 < 0
        · have hR : Hid (dec M l 0 0 = (0, 0, 2)) := Lib.hid (by rw [HDR.out, dec_zero HF.out hge hz])
          exfalso; omega
        · have hR : Hid (dec M l 0 0 = (X, 0 + 1, 0)) := Lib.hid (by rw [HDR.out, dec_last HF.out hge hz]; simp only [Nat.zero_add, Nat.pow_zero, Nat.mul_one, HX.out])
          by_cases hz3 : c % 128 = 0
          · have hz2 : ((c : Int) % 128 == 0) = true := by rw [beq_iff_eq]; omega
            clear HDR HF H9 hz hz3
            go_wp2_with fail
            simp only [Exit.jump]
            go_ret3
            rw [hR.out]
            exact ⟨rfl, rfl⟩
          · have hz2 : ((c : Int) % 128 == 0) = false := by rw [beq_eq_false_iff_ne]; omega
            clear HDR HF H9 hz hz3
            go_wp2_with fail
            simp only [Exit.jump]
            go_ret3
            rw [hR.out]
            exact ⟨rfl, rfl⟩
  · rintro a' w' ⟨i, acc, u9, u10, u11, u12, u13, u14, u15, u16, u17, u18, u19, u20, u21, u22, u23, u24, u25, u26, u27, u28, u29, u30, u31, u32, u33, u34, u35, u36, u37, u38, u39, u40, u41, u42, u43, u44, rfl, rfl, hil, hiM, hD1, hD2, hi1⟩
    have HD := Lib.hid (And.intro hD1 hD2)
    clear hD1 hD2
    by_cases hend : i = len
    · have hR : Hid (dec M l 0 0 = (0, 0, 3)) := Lib.hid (by rw [HD.out.1, List.drop_eq_nil_of_le (by rw [HL.out]; omega), dec_nil])
      have ht : ((i : Int) == (len : Int)) = true := by rw [beq_iff_eq]; omega
      clear HD
      go_wp2
      simp only [Exit.jump]
      go_ret3
      rw [hR.out]
      exact ⟨rfl, rfl⟩
    · have ht : ((i : Int) == (len : Int)) = false := by rw [beq_eq_false_iff_ne]; omega
      obtain ⟨b, off, rfl, hcell⟩ := HC.out.resolve_left (by omega)
      have hcl := hcell i (by omega)
      have hclt := getD_lt l HB.out i
      have hdrop : l.drop i = l.getD i 0 :: l.drop (i + 1) := by
        have h2 : i < l.length := by rw [HL.out]; omega
        rw [List.drop_eq_getElem_cons h2]; simp [List.getD, h2]
      obtain ⟨c, hcc⟩ : ∃ c, l.getD i 0 = c := ⟨_, rfl⟩
      rw [hcc] at hcl hclt hdrop
      have HDR : Hid (dec M l 0 0 = dec M (c :: l.drop (i + 1)) i acc) := Lib.hid (by rw [HD.out.1, hdrop])
      have HA := Lib.hid HD.out.2
      clear hcell hdrop hcc HC HD
      by_cases hiM2 : i = M
      · have hR : Hid (dec M l 0 0 = (0, 0, 2)) := Lib.hid (by rw [HDR.out, dec_far (.inl hiM2)])
        have hb1 : ((i : Int) == (M : Int)) = true := by rw [beq_iff_eq]; omega
        clear hiM2 HDR
        go_wp2
        simp only [Exit.jump]
        go_ret3
        rw [hR.out]
        exact ⟨rfl, rfl⟩
      have hb1 : ((i : Int) == (M : Int)) = false := by rw [beq_eq_false_iff_ne]; omega
      by_cases h9 : i = 9 ∧ 1 < c % 128
      · have hR : Hid (dec M l 0 0 = (0, 0, 2)) := Lib.hid (by rw [HDR.out, dec_far (.inr h9)])
        have hb2 : ((i : Int) == 9) = true := by rw [beq_iff_eq]; omega
        have hb3 : decide ((1 : Int) < (c : Int) % 128) = true := by simp; omega
        clear h9 HDR
        go_wp2
        simp only [Exit.jump]
        go_ret3
        rw [hR.out]
        exact ⟨rfl, rfl⟩
      have hi9 : i ≤ 9 := by omega
      have hfar : ¬ (i = M ∨ (i = 9 ∧ 1 < c % 128)) := by omega
      have hiM3 : i + 1 ≤ M := by omega
      have hx := acc_step (c := c) hi9 HA.out (by omega)
      have hal := acc_lt c HA.out
      have hor := or_step hi9 hclt HA.out hx.1
      obtain ⟨X, HX⟩ : ∃ X, Hid (acc + c % 128 * 128 ^ i = X) := ⟨_, Lib.hid rfl⟩
      rw [HX.out] at hx hor hal
      have hx64 := hx.1
      have HAL := Lib.hid hal
      clear hx hal HA
      have HF := Lib.hid hfar
      have H9 := Lib.hid h9
      clear hfar hiM2 h9
      by_cases h99 : i = 9
      · have hb2 : ((i : Int) == 9) = true := by rw [beq_iff_eq]; omega
        have hb3 : decide ((1 : Int) < (c : Int) % 128) = false := by have := H9.out; simp; omega
        clear h99
        by_cases hge : 128 ≤ c
        · have hR : Hid (dec M l 0 0 = dec M (l.drop (i + 1)) (i + 1) X) := Lib.hid (by rw [HDR.out, dec_more HF.out hge, HX.out])
          clear HDR HF H9
          go_wp2_with fail
          go_step3
          refine ⟨rfl, ⟨i + 1, X, _, _, _, _, _, _, _, _, _, _, _, _, _, _, _, _, _, _, _, _, _, _, _, _, _, _, _, _, _, _, _, _, _, _, _, _, rfl, rfl, by omega, by omega, hR.out, HAL.out, by omega⟩, by simp [intOf]; omega⟩
        · by_cases hz : c % 128 = 0 ∧ 0 < i
          · have hR : Hid (dec M l 0 0 = (0, 0, 2)) := Lib.hid (by rw [HDR.out, dec_zero HF.out hge hz])
            have hz1 : ((c : Int) % 128 == 0) = true := by rw [beq_iff_eq]; omega
            have hz2 : (i : Int) + 1 > 1 := by omega
            clear HDR HF H9 hz
            go_wp2_with fail
            simp only [Exit.jump]
            go_ret3
            rw [hR.out]
            exact ⟨rfl, rfl⟩
          · have hR : Hid (dec M l 0 0 = (X, i + 1, 0)) := Lib.hid (by rw [HDR.out, dec_last HF.out hge hz, HX.out])
            rcases (by omega : ¬ c % 128 = 0 ∨ ¬ 0 < i) with hz1 | hz1
            · have hz2 : ((c : Int) % 128 == 0) = false := by rw [beq_eq_false_iff_ne]; omega
              clear HDR HF H9 hz hz1
              go_wp2_with fail
              simp only [Exit.jump]
              go_ret3
              rw [hR.out]
              exact ⟨rfl, rfl⟩
            · exfalso; omega
      · have hb2 : ((i : Int) == 9) = false := by rw [beq_eq_false_iff_ne]; omega
        clear h99
        by_cases hge : 128 ≤ c
        · have hR : Hid (dec M l 0 0 = dec M (l.drop (i + 1)) (i + 1) X) := Lib.hid (by rw [HDR.out, dec_more HF.out hge, HX.out])
          clear HDR HF H9
          go_wp2_with fail
          go_step3
          refine ⟨rfl, ⟨i + 1, X, _, _, _, _, _, _, _, _, _, _, _, _, _, _, _, _, _, _, _, _, _, _, _, _, _, _, _, _, _, _, _, _, _, _, _, _, rfl, rfl, by omega, by omega, hR.out, HAL.out, by omega⟩, by simp [intOf]; omega⟩
        · by_cases hz : c % 128 = 0 ∧ 0 < i
          · have hR : Hid (dec M l 0 0 = (0, 0, 2)) := Lib.hid (by rw [HDR.out, dec_zero HF.out hge hz])
            have hz1 : ((c : Int) % 128 == 0) = true := by rw [beq_iff_eq]; omega
            have hz2 : (i : Int) + 1 > 1 := by omega
            clear HDR HF H9 hz
            go_wp2_with fail
            simp only [Exit.jump]
            go_ret3
            rw [hR.out]
            exact ⟨rfl, rfl⟩
          · have hR : Hid (dec M l 0 0 = (X, i + 1, 0)) := Lib.hid (by rw [HDR.out, dec_last HF.out hge hz, HX.out])
            rcases (by omega : ¬ c % 128 = 0 ∨ ¬ 0 < i) with hz1 | hz1
            · have hz2 : ((c : Int) % 128 == 0) = false := by rw [beq_eq_false_iff_ne]; omega
              clear HDR HF H9 hz hz1
              go_wp2_with fail
              simp only [Exit.jump]
              go_ret3
              rw [hR.out]
              exact ⟨rfl, rfl⟩
            · exfalso; omega
end Go.Proofs.Ytcbpgplmphgcgaa.codw
