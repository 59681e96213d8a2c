/- What crc's own functions answer, as plain mathematics: a byte's step. -/
import Derived.Test.YtcbpgplmphgcgaaRows
import Derived.Test.YtcbpgplmphgcgaaCrcMath
import Derived.WalkKit
import Derived.WalkSpells
import Derived.Below
import Derived.Lib.Hide
namespace Go.Proofs.Ytcbpgplmphgcgaa.crcw
open Go.RowKit
open crcm

set_option maxHeartbeats 400000 in
theorem step_any (n : Nat) (hn : n < 4294967296) (w : World) :
    Calls Try.prog 94 #[.int .u32 (n : Int)] w fun e w' => e = .returned (.int .u32 ((bitk 8 n : Nat) : Int)) ∧ w = w' := by
  go_enter Try.func94, Try.ntmps94
  go_wp2
  go_loop [0, 4] (fun v i => ∃ k m : Nat, k ≤ 8 ∧ i = .int .i64 k ∧ v = .int .u32 (m : Int) ∧ Hid (bitk k n = m) ∧ m < 4294967296) (fun _ i => 8 - (intOf i).toNat)
  case atStart => exact ⟨0, n, by omega, rfl, rfl, Lib.hid rfl, hn⟩
  case round =>
    obtain ⟨k, m, hk, rfl, rfl, hm, hlt⟩ := hrel
    have hs : Hid (bitk (k + 1) n = bit1 m) := Lib.hid (by show bit1 (bitk k n) = bit1 m; rw [hm.out])
    have hb := bit1_lt hlt
    by_cases h8 : k < 8
    · by_cases ho : m % 2 = 1
      · have h1 := and1_of_odd hlt ho
        have h2 := xor_poly hlt ho
        clear ho
        go_wp2
        go_round
        case rel => exact ⟨k + 1, bit1 m, by omega, by go_num, rfl, hs, hb⟩
        case measure => simp [intOf]; omega
      · have h1 := and1_of_even hlt ho
        have h2 := half_of_even ho
        clear ho
        go_wp2
        go_round
        case rel => exact ⟨k + 1, bit1 m, by omega, by go_num, rfl, hs, hb⟩
        case measure => simp [intOf]; omega
    · obtain rfl : k = 8 := by omega
      go_wp2
      go_ret
      have he := hm.out
      rw [he]
      exact ⟨rfl, rfl⟩
end Go.Proofs.Ytcbpgplmphgcgaa.crcw
