/- What crc's Sum answers: the sum of its parts, one behind the other. -/
import Derived.Test.YtcbpgplmphgcgaaCrcMore
namespace Go.Proofs.Ytcbpgplmphgcgaa.crcw
open Go.RowKit
open crcm

/-- a slice of slices of bytes, in a world -/
def Parts (w : World) (a : Option Addr) (n : Nat) (ls : List (List Nat)) : Prop :=
  ls.length = n ∧ n ≤ maxLen ∧
  (n = 0 ∨ ∃ b off, a = some ⟨b, off, none⟩ ∧ ∀ i, i < n → ∃ a' len cap, w.cell? ⟨b, off + i, none⟩ = some (.slice a' len cap) ∧ Reads w a' len (ls.getD i []))

def sumP (ls : List (List Nat)) : Nat := ls.foldl more 0

theorem sumP_flat : ∀ (s : Nat) (ls : List (List Nat)), ls.foldl more s = more s ls.flatten := by
  intro s ls
  induction ls generalizing s with
  | nil => rw [List.flatten_nil, more_nil]; rfl
  | cons l ls ih => rw [List.foldl_cons, ih, List.flatten_cons, more_append]

theorem sum_flat (ls : List (List Nat)) : sumP ls = more 0 ls.flatten := sumP_flat 0 ls

theorem fold_take_succ (ls : List (List Nat)) (k : Nat) (h : k < ls.length) : (ls.take (k + 1)).foldl more 0 = more ((ls.take k).foldl more 0) (ls.getD k []) := by
  rw [List.take_succ_eq_append_getElem h, List.foldl_append]
  simp [List.getD, h]

set_option maxHeartbeats 400000 in
theorem sum_any (a : Option Addr) (n cap : Nat) (ls : List (List Nat)) (w : World) (h : Parts w a n ls) :
    Calls Try.prog 69 #[.slice a n cap] w fun e w' => e = .returned (.int .u32 ((sumP ls : Nat) : Int)) ∧ w = w' := by
  obtain ⟨hl, hm, hc⟩ := h
  unfold maxLen at hm
  have HL := Lib.hid hl
  clear hl
  go_enter Try.func69, Try.ntmps69
  go_wp2
  go_loop [3, 8] (fun v i => ∃ k m : Nat, k ≤ n ∧ i = .int .i64 k ∧ v = .int .u32 (m : Int) ∧ Hid ((ls.take k).foldl more 0 = m) ∧ m < 4294967296) (fun _ i => n - (intOf i).toNat)
  case atStart => exact ⟨0, 0, by omega, rfl, rfl, Lib.hid rfl, by omega⟩
  case round =>
    obtain ⟨k, m, hk, rfl, rfl, hr, hlt⟩ := hrel
    by_cases h8 : k < n
    · obtain ⟨b, off, rfl, hcell⟩ := hc.resolve_left (by omega)
      obtain ⟨a', len', cap', hcl, hread⟩ := hcell k h8
      have hrs : Hid ((ls.take (k + 1)).foldl more 0 = more m (ls.getD k [])) := Lib.hid (by rw [fold_take_succ ls k (by rw [HL.out]; exact h8), hr.out])
      generalize ls.getD k [] = c at hread hrs
      clear hcell hc
      have hml : more m c < 4294967296 := more_lt hlt hread.2.2.1
      have HR := Lib.hid hread
      clear hread
      go_wp2_with (go_at_call 83; refine (more_any m hlt a' len' cap' c _ HR.out).mono ?_; rintro e w' ⟨rfl, rfl⟩)
      go_round
      case rel => exact ⟨k + 1, more m c, by omega, by go_num, rfl, hrs, hml⟩
      case measure => simp [intOf]; omega
    · obtain rfl : k = n := by omega
      have hr2 : Hid (sumP ls = m) := Lib.hid (by rw [← hr.out, List.take_of_length_le (by rw [HL.out]; omega)]; rfl)
      go_wp2
      go_ret
      rw [hr2.out]
      exact ⟨rfl, rfl⟩
end Go.Proofs.Ytcbpgplmphgcgaa.crcw
