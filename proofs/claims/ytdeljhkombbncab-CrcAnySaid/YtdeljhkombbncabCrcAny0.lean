/- CrcAny's walk. -/
import Derived.Test.YtdeljhkombbncabCrcRow
namespace Go.Proofs.Ytdeljhkombbncab.crcw
open Go.RowKit
open crcm

set_option maxRecDepth 100000 in
set_option maxHeartbeats 1000000 in
theorem any_walk (s : Nat) (hs : s < 4294967296) (a : Option Addr) (len cap : Nat) (l : List Nat) (w : World) (h : Bytes w a len cap l) :
    Calls Try.prog 5 #[.int .u32 (s : Int), .slice a len cap] w fun e w' => e = .returned (.bool true) ∧ Below w.heap.size w w' := by
  obtain ⟨hr, hlc, hcm, hn⟩ := h
  unfold maxLen at hcm
  have ht := turn_lt hs
  have htc := turn_cast hs
  have hts : Hid (turn s = turn s) := Lib.hid rfl
  rcases Nat.lt_or_ge 300 len with hlen | hlen
  · have HR := Lib.hid (hr.take 300 (by omega))
    generalize l.take 300 = l' at HR
    have HL := Lib.hid HR.out.1
    clear hr hn
    go_enter Try.func5, Try.ntmps5
    go_wp2_with fail
    clear htc
    go_loop [5, 6] (fun v i => ∃ k m : Nat, k ≤ l'.length ∧ i = .int .i64 k ∧ v = .int .u32 (m : Int) ∧ Hid (run (turn s) (l'.take k) = m) ∧ m < 4294967296) (fun _ i => l'.length - (intOf i).toNat)
    case atStart => exact ⟨0, turn s, by omega, rfl, rfl, Lib.hid rfl, ht⟩
    case round =>
      obtain ⟨k, m, hk, rfl, rfl, hrn, hlt⟩ := hrel
      have hk2 := hk
      rw [HL.out] at hk2
      by_cases h8 : k < l'.length
      · have h9 := h8
        rw [HL.out] at h9
        obtain ⟨_, _, hb, hc⟩ := HR.out
        obtain ⟨b, off, rfl, hcell⟩ := hc.resolve_left (by omega)
        have hcl := hcell k h9
        have hlt2 := getD_lt l' hb k
        have hrs : Hid (run (turn s) (l'.take (k + 1)) = byte1 m (l'.getD k 0)) := Lib.hid (by rw [run_take_succ (turn s) l' k h8, hrn.out])
        generalize l'.getD k 0 = c at hcl hlt2 hrs
        clear hcell hc hb
        have hx := xor_cast hlt (show c < 4294967296 by omega)
        have hxl : m ^^^ c < 4294967296 := xor_lt hlt (by omega)
        generalize hxd : m ^^^ c = x at hx hxl
        have Hx : Hid (byte1 m c = bitk 8 x) := Lib.hid (by rw [← hxd]; rfl)
        clear hxd
        go_wp2_with fail
        go_loop [5, 7] (fun v i => ∃ j y : Nat, j ≤ 8 ∧ i = .int .i64 j ∧ v = .int .u32 (y : Int) ∧ Hid (bitk j x = y) ∧ y < 4294967296) (fun _ i => 8 - (intOf i).toNat)
        case atStart => exact ⟨0, x, by omega, rfl, rfl, Lib.hid rfl, hxl⟩
        case round =>
          obtain ⟨j, y, hj, rfl, rfl, hm, hlty⟩ := hrel
          clear hx
          have hs2 : Hid (bitk (j + 1) x = bit1 y) := Lib.hid (by show bit1 (bitk j x) = bit1 y; rw [hm.out])
          have hb2 := bit1_lt hlty
          by_cases hj8 : j < 8
          · by_cases ho : y % 2 = 1
            · have h1 := and1_of_odd hlty ho
              have h2 := xor_poly hlty ho
              clear ho
              go_wp2_with fail
              go_round
              case rel => exact ⟨j + 1, bit1 y, by omega, by go_num, rfl, hs2, hb2⟩
              case measure => simp [intOf]; omega
            · have h1 := and1_of_even hlty ho
              have h2 := half_of_even ho
              clear ho
              go_wp2_with fail
              go_round
              case rel => exact ⟨j + 1, bit1 y, by omega, by go_num, rfl, hs2, hb2⟩
              case measure => simp [intOf]; omega
          · obtain rfl : j = 8 := by omega
            have hrs2 : Hid (run (turn s) (l'.take (k + 1)) = y) := Lib.hid (by rw [hrs.out, Hx.out, hm.out])
            clear hs2 hb2
            go_wp2_with fail
            go_round
            case rel => exact ⟨k + 1, y, by omega, by go_num, rfl, hrs2, hlty⟩
            case measure => simp [intOf]; omega
      · obtain rfl : k = l'.length := by omega
        have hfin : Hid (more s l' = turn m) := Lib.hid (by unfold more; rw [← hrn.out, List.take_of_length_le (Nat.le_refl _)])
        have htc := turn_cast hlt
        have HL2 := HL.out
        go_wp2_with fail
        refine (sums_any _).mono ?_
        rintro e w1 ⟨rfl, hb1⟩
        have HR1 := Lib.hid (HR.out.below hb1)
        clear HL2
        go_wp2_with fail
        refine (more_any s hs a 300 cap l' _ HR1.out).mono ?_
        rintro e w2 ⟨rfl, rfl⟩
        rw [hfin.out]
        go_wp2
        go_ret
        exact ⟨rfl, hb1⟩
  · have HR := Lib.hid hr
    obtain ⟨l', rfl⟩ : ∃ l', l' = l := ⟨_, rfl⟩
    have HL := Lib.hid HR.out.1
    clear hr hn
    go_enter Try.func5, Try.ntmps5
    go_wp2_with fail
    clear htc
    go_loop [5, 6] (fun v i => ∃ k m : Nat, k ≤ l'.length ∧ i = .int .i64 k ∧ v = .int .u32 (m : Int) ∧ Hid (run (turn s) (l'.take k) = m) ∧ m < 4294967296) (fun _ i => l'.length - (intOf i).toNat)
    case atStart => exact ⟨0, turn s, by omega, rfl, rfl, Lib.hid rfl, ht⟩
    case round =>
      obtain ⟨k, m, hk, rfl, rfl, hrn, hlt⟩ := hrel
      have hk2 := hk
      rw [HL.out] at hk2
      by_cases h8 : k < l'.length
      · have h9 := h8
        rw [HL.out] at h9
        obtain ⟨_, _, hb, hc⟩ := HR.out
        obtain ⟨b, off, rfl, hcell⟩ := hc.resolve_left (by omega)
        have hcl := hcell k h9
        have hlt2 := getD_lt l' hb k
        have hrs : Hid (run (turn s) (l'.take (k + 1)) = byte1 m (l'.getD k 0)) := Lib.hid (by rw [run_take_succ (turn s) l' k h8, hrn.out])
        generalize l'.getD k 0 = c at hcl hlt2 hrs
        clear hcell hc hb
        have hx := xor_cast hlt (show c < 4294967296 by omega)
        have hxl : m ^^^ c < 4294967296 := xor_lt hlt (by omega)
        generalize hxd : m ^^^ c = x at hx hxl
        have Hx : Hid (byte1 m c = bitk 8 x) := Lib.hid (by rw [← hxd]; rfl)
        clear hxd
        go_wp2_with fail
        go_loop [5, 7] (fun v i => ∃ j y : Nat, j ≤ 8 ∧ i = .int .i64 j ∧ v = .int .u32 (y : Int) ∧ Hid (bitk j x = y) ∧ y < 4294967296) (fun _ i => 8 - (intOf i).toNat)
        case atStart => exact ⟨0, x, by omega, rfl, rfl, Lib.hid rfl, hxl⟩
        case round =>
          obtain ⟨j, y, hj, rfl, rfl, hm, hlty⟩ := hrel
          clear hx
          have hs2 : Hid (bitk (j + 1) x = bit1 y) := Lib.hid (by show bit1 (bitk j x) = bit1 y; rw [hm.out])
          have hb2 := bit1_lt hlty
          by_cases hj8 : j < 8
          · by_cases ho : y % 2 = 1
            · have h1 := and1_of_odd hlty ho
              have h2 := xor_poly hlty ho
              clear ho
              go_wp2_with fail
              go_round
              case rel => exact ⟨j + 1, bit1 y, by omega, by go_num, rfl, hs2, hb2⟩
              case measure => simp [intOf]; omega
            · have h1 := and1_of_even hlty ho
              have h2 := half_of_even ho
              clear ho
              go_wp2_with fail
              go_round
              case rel => exact ⟨j + 1, bit1 y, by omega, by go_num, rfl, hs2, hb2⟩
              case measure => simp [intOf]; omega
          · obtain rfl : j = 8 := by omega
            have hrs2 : Hid (run (turn s) (l'.take (k + 1)) = y) := Lib.hid (by rw [hrs.out, Hx.out, hm.out])
            clear hs2 hb2
            go_wp2_with fail
            go_round
            case rel => exact ⟨k + 1, y, by omega, by go_num, rfl, hrs2, hlty⟩
            case measure => simp [intOf]; omega
      · obtain rfl : k = l'.length := by omega
        have hfin : Hid (more s l' = turn m) := Lib.hid (by unfold more; rw [← hrn.out, List.take_of_length_le (Nat.le_refl _)])
        have htc := turn_cast hlt
        have HL2 := HL.out
        go_wp2_with fail
        refine (sums_any _).mono ?_
        rintro e w1 ⟨rfl, hb1⟩
        have HR1 := Lib.hid (HR.out.below hb1)
        clear HL2
        go_wp2_with fail
        refine (more_any s hs a len cap l' _ HR1.out).mono ?_
        rintro e w2 ⟨rfl, rfl⟩
        rw [hfin.out]
        go_wp2
        go_ret
        exact ⟨rfl, hb1⟩
end Go.Proofs.Ytdeljhkombbncab.crcw
