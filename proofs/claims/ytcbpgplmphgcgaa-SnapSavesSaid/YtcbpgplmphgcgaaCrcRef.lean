/- The document's Sum of a text, bit by bit: what it answers. -/
import Derived.Test.YtcbpgplmphgcgaaCrcRow
import Derived.Test.YtcbpgplmphgcgaaMem
namespace Go.Proofs.Ytcbpgplmphgcgaa.crcw
open Go.RowKit
open crcm
set_option linter.unusedVariables false

/-- a text of bytes -/
def strN (l : List Nat) : ByteArray := ⟨(l.map UInt8.ofNat).toArray⟩

/-- one bit of a text goes in -/
def bitin (y d : Nat) : Nat := if (y + d) % 2 = 1 then (y / 2) ^^^ 3988292384 else y / 2

theorem bitin_lt {y : Nat} (d : Nat) (h : y < 4294967296) : bitin y d < 4294967296 := by
  unfold bitin; split
  · exact xor_lt (by omega) (by omega)
  · omega

theorem xor_mod2 (y d : Nat) : (y ^^^ d) % 2 = (y + d) % 2 := by
  have h := Nat.xor_mod_two_pow (a := y) (b := d) (n := 1)
  rw [Nat.pow_one] at h
  rw [h]
  rcases Nat.mod_two_eq_zero_or_one y with h1 | h1 <;> rcases Nat.mod_two_eq_zero_or_one d with h2 | h2 <;> rw [h1, h2] <;> simp <;> omega

theorem xor_div2 (y d : Nat) : (y ^^^ d) / 2 = (y / 2) ^^^ (d / 2) := by
  have h := Nat.xor_div_two_pow (a := y) (b := d) (n := 1)
  rw [Nat.pow_one] at h
  exact h

theorem xor_swap (a p b : Nat) : a ^^^ p ^^^ b = a ^^^ b ^^^ p := by
  rw [Nat.xor_assoc, Nat.xor_comm p b, ← Nat.xor_assoc]

theorem bitin_step (y d : Nat) : bitin y d ^^^ (d / 2) = bit1 (y ^^^ d) := by
  unfold bitin bit1
  rw [xor_mod2, xor_div2]
  split
  · generalize 3988292384 = p
    exact xor_swap _ _ _
  · rfl

theorem bitin_poly {y d : Nat} (hy : y < 4294967296) (h : (y + d) % 2 = 1) : bits .xor .u32 ((y : Int) / 2) 3988292384 = ((bitin y d : Nat) : Int) := by
  have := u32_xor_nat (y / 2) 3988292384 (by omega) (by omega)
  unfold bitin; rw [if_pos h, ← this]; rfl
theorem bitin_half {y d : Nat} (h : ¬ (y + d) % 2 = 1) : (y : Int) / 2 = ((bitin y d : Nat) : Int) := by
  unfold bitin; rw [if_neg h]; rfl

theorem bit_in {y c j : Nat} (hy : y < 4294967296) (hd : c / 2 ^ j < 256) :
    bits BinOp.xor IntKind.u32 (bits BinOp.and IntKind.u32 (y : Int) 1) (bits BinOp.and IntKind.u8 ((c : Int) / 2 ^ j) 1 % 4294967296) = (((y + c / 2 ^ j) % 2 : Nat) : Int) := by
  have e1 : bits BinOp.and IntKind.u32 (y : Int) 1 = ((y % 2 : Nat) : Int) := by
    have := u32_and_nat y 1 hy (by omega)
    rw [show ((1 : Nat) : Int) = 1 from rfl] at this
    rw [this, Nat.and_one_is_mod]
  have e0 : (c : Int) / 2 ^ j = ((c / 2 ^ j : Nat) : Int) := by rw [Int.natCast_ediv, Int.natCast_pow]; rfl
  have e2 : bits BinOp.and IntKind.u8 ((c : Int) / 2 ^ j) 1 = (((c / 2 ^ j) % 2 : Nat) : Int) := by
    have := u8_and_nat (c / 2 ^ j) 1 hd (by omega)
    rw [show ((1 : Nat) : Int) = 1 from rfl] at this
    rw [e0, this, Nat.and_one_is_mod]
  rw [e1, e2]
  generalize c / 2 ^ j = d
  have e3 : (((d % 2 : Nat) : Int) % 4294967296) = ((d % 2 : Nat) : Int) := by omega
  rw [e3]
  have e4 := u32_xor_nat (y % 2) (d % 2) (by omega) (by omega)
  rw [e4]
  have e5 : (y % 2) ^^^ (d % 2) = (y + d) % 2 := by
    rcases Nat.mod_two_eq_zero_or_one y with h1 | h1 <;> rcases Nat.mod_two_eq_zero_or_one d with h2 | h2 <;> rw [h1, h2] <;> simp <;> omega
  rw [e5]

set_option maxRecDepth 100000 in
theorem rsum_text (l : List Nat) (w : World) (hl : l.length ≤ 1000000) (hb : ∀ c ∈ l, c < 256) :
    Calls Try.prog 57 #[.string (strN l)] w fun e w' => e = .returned (.int .u32 ((more 0 l : Nat) : Int)) ∧ w = w' := by
  have HLB := Lib.hid hb
  obtain ⟨S, HS⟩ : ∃ S, Hid (strN l = S) := ⟨_, Lib.hid rfl⟩
  have hsz : Hid (S.size = l.length) := Lib.hid (by rw [← HS.out]; simp [strN, ByteArray.size])
  have hget : Hid (∀ i, (h : i < S.size) → (S[i]'h).toNat = l.getD i 0) := Lib.hid (by
    have e := HS.out
    subst e
    intro i h
    have hi : i < l.length := by simpa [strN, ByteArray.size] using h
    show (((l.map UInt8.ofNat).toArray)[i]'(by simpa using hi)).toNat = _
    have hc := getD_lt l HLB.out i
    have e2 : l.getD i 0 = l[i] := by simp [List.getD, hi]
    rw [e2] at hc ⊢
    simp
    omega)
  rw [HS.out]
  have hsz2 := hsz.out
  go_enter Try.func57, Try.ntmps57
  go_wp2_with fail
  go_loop [3, 4] (fun v i => ∃ k m : Nat, k ≤ l.length ∧ i = .int .i64 k ∧ v = .int .u32 (m : Int) ∧ Hid (run 4294967295 (l.take k) = m) ∧ m < 4294967296) (fun _ i => l.length - (intOf i).toNat)
  case atStart => exact ⟨0, 4294967295, by omega, rfl, rfl, Lib.hid rfl, by omega⟩
  case round =>
    obtain ⟨k, m, hk, rfl, rfl, hrn, hlt⟩ := hrel
    by_cases h8 : k < l.length
    · have hlt2 := getD_lt l HLB.out k
      have h9 : k < S.size := by rw [hsz2]; exact h8
      have hgk := hget.out k h9
      have hrs : Hid (run 4294967295 (l.take (k + 1)) = byte1 m (l.getD k 0)) := Lib.hid (by rw [run_take_succ 4294967295 l k h8, hrn.out])
      generalize l.getD k 0 = c at hgk hlt2 hrs
      go_wp2_with fail
      go_loop [3, 5] (fun v i => ∃ j y : Nat, j ≤ 8 ∧ i = .int .i64 j ∧ v = .int .u32 (y : Int) ∧ Hid (y ^^^ (c / 2 ^ j) = bitk j (m ^^^ c)) ∧ y < 4294967296) (fun _ i => 8 - (intOf i).toNat)
      case atStart => exact ⟨0, m, by omega, rfl, rfl, Lib.hid (by rw [Nat.pow_zero, Nat.div_one]; rfl), hlt⟩
      case round =>
        obtain ⟨j, y, hj, rfl, rfl, hm, hlty⟩ := hrel
        by_cases hj8 : j < 8
        · have hs2 : Hid (bitin y (c / 2 ^ j) ^^^ (c / 2 ^ (j + 1)) = bitk (j + 1) (m ^^^ c)) := Lib.hid (by
            show _ = bit1 (bitk j (m ^^^ c))
            rw [← hm.out, ← bitin_step, Nat.pow_succ, Nat.div_div_eq_div_mul])
          have hb2 := bitin_lt (c / 2 ^ j) hlty
          have hd : c / 2 ^ j < 256 := Nat.lt_of_le_of_lt (Nat.div_le_self _ _) hlt2
          by_cases ho : (y + c / 2 ^ j) % 2 = 1
          · have h1 : bits BinOp.xor IntKind.u32 (bits BinOp.and IntKind.u32 (y : Int) 1) (bits BinOp.and IntKind.u8 ((c : Int) / 2 ^ j) 1 % 4294967296) = 1 := by
              rw [bit_in hlty hd, ho]; rfl
            have h2 := bitin_poly hlty ho
            clear ho hd
            go_wp2_with fail
            go_round
            case rel => exact ⟨j + 1, bitin y (c / 2 ^ j), by omega, by go_num, rfl, hs2, hb2⟩
            case measure => simp [intOf]; omega
          · have h1 : bits BinOp.xor IntKind.u32 (bits BinOp.and IntKind.u32 (y : Int) 1) (bits BinOp.and IntKind.u8 ((c : Int) / 2 ^ j) 1 % 4294967296) = 0 := by
              rw [bit_in hlty hd, show (y + c / 2 ^ j) % 2 = 0 by omega]; rfl
            have h2 := bitin_half ho
            clear ho hd
            go_wp2_with fail
            go_round
            case rel => exact ⟨j + 1, bitin y (c / 2 ^ j), by omega, by go_num, rfl, hs2, hb2⟩
            case measure => simp [intOf]; omega
        · obtain rfl : j = 8 := by omega
          have hrs2 : Hid (run 4294967295 (l.take (k + 1)) = y) := Lib.hid (by
            have h := hm.out
            rw [show c / 2 ^ 8 = 0 by omega, Nat.xor_zero] at h
            rw [hrs.out, h]; rfl)
          go_wp2_with fail
          go_round
          case rel => exact ⟨k + 1, y, by omega, by go_num, rfl, hrs2, hlty⟩
          case measure => simp [intOf]; omega
    · obtain rfl : k = l.length := by omega
      have hfin : Hid (more 0 l = turn m) := Lib.hid (by unfold more; rw [← hrn.out, List.take_of_length_le (Nat.le_refl _)]; rfl)
      have htc := turn_cast hlt
      go_wp2_with fail
      go_ret
      rw [hfin.out]
      exact ⟨rfl, rfl⟩
end Go.Proofs.Ytcbpgplmphgcgaa.crcw
