/- What crc's More answers: the sum goes on over the bytes that the slice has. -/
import Derived.Test.YtcbpgplmphgcgaaCrcStep
namespace Go.Proofs.Ytcbpgplmphgcgaa.crcw
open Go.RowKit
open crcm

/-- a slice's bytes, as numbers, in a world -/
def Reads (w : World) (a : Option Addr) (len : Nat) (l : List Nat) : Prop :=
  l.length = len ∧ len ≤ maxLen ∧ (∀ c ∈ l, c < 256) ∧
  (len = 0 ∨ ∃ b off, a = some ⟨b, off, none⟩ ∧ ∀ i, i < len → w.cell? ⟨b, off + i, none⟩ = some (.int .u8 ((l.getD i 0 : Nat) : Int)))

theorem run_take_succ (n : Nat) (l : List Nat) (k : Nat) (h : k < l.length) : run n (l.take (k + 1)) = byte1 (run n (l.take k)) (l.getD k 0) := by
  rw [List.take_succ_eq_append_getElem h, run_snoc]
  simp [List.getD, h]

theorem getD_lt (l : List Nat) (h : ∀ c ∈ l, c < 256) (k : Nat) : l.getD k 0 < 256 := by
  by_cases hk : k < l.length
  · have : l.getD k 0 = l[k] := by simp [List.getD, hk]
    rw [this]; exact h _ (List.getElem_mem hk)
  · have : l.getD k 0 = 0 := by simp [List.getD, List.getElem?_eq_none (by omega : l.length ≤ k)]
    omega

set_option maxHeartbeats 400000 in
theorem more_any (s : Nat) (hs : s < 4294967296) (a : Option Addr) (len cap : Nat) (l : List Nat) (w : World) (h : Reads w a len l) :
    Calls Try.prog 83 #[.int .u32 (s : Int), .slice a len cap] w fun e w' => e = .returned (.int .u32 ((more s l : Nat) : Int)) ∧ w = w' := by
  obtain ⟨hl, hm, hb, hc⟩ := h
  unfold maxLen at hm
  have ht := turn_lt hs
  have htc := turn_cast hs
  have hst : Hid (turn s = turn s) := Lib.hid rfl
  generalize hts : turn s = t at ht htc hst
  have hfin : Hid (more s l = turn (run t l)) := Lib.hid (by unfold more; rw [hts])
  clear hts hst
  have HL := Lib.hid hl
  clear hl
  go_enter Try.func83, Try.ntmps83
  go_wp2
  clear htc
  go_loop [5, 12] (fun v i => ∃ k m : Nat, k ≤ len ∧ i = .int .i64 k ∧ v = .int .u32 (m : Int) ∧ Hid (run t (l.take k) = m) ∧ m < 4294967296) (fun _ i => len - (intOf i).toNat)
  case atStart => exact ⟨0, t, by omega, rfl, rfl, Lib.hid rfl, ht⟩
  case round =>
    obtain ⟨k, m, hk, rfl, rfl, hr, hlt⟩ := hrel
    by_cases h8 : k < len
    · obtain ⟨b, off, rfl, hcell⟩ := hc.resolve_left (by omega)
      have hcl := hcell k h8
      have hlt2 := getD_lt l hb k
      have hrs : Hid (run t (l.take (k + 1)) = byte1 m (l.getD k 0)) := Lib.hid (by rw [run_take_succ t l k (by rw [HL.out]; exact h8), hr.out])
      generalize l.getD k 0 = c at hcl hlt2 hrs
      clear hcell hc
      have hx := xor_cast hlt (show c < 4294967296 by omega)
      have hxl : m ^^^ c < 4294967296 := xor_lt hlt (by omega)
      have hbl := byte1_lt hlt hlt2
      go_wp2_with (go_at_call 94; refine (step_any (m ^^^ c) hxl _).mono ?_; rintro e w' ⟨rfl, rfl⟩)
      go_round
      case rel => exact ⟨k + 1, byte1 m c, by omega, by go_num, rfl, hrs, hbl⟩
      case measure => simp [intOf]; omega
    · obtain rfl : k = len := by omega
      have hr2 : Hid (more s l = turn m) := Lib.hid (by rw [hfin.out, ← hr.out, List.take_of_length_le (by rw [HL.out]; omega)])
      have htc := turn_cast hlt
      go_wp2
      go_ret
      rw [hr2.out]
      exact ⟨rfl, rfl⟩
end Go.Proofs.Ytcbpgplmphgcgaa.crcw
