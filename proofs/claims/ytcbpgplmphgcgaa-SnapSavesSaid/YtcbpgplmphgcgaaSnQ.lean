/- What the document's functions answer: Room, Body, number, Head. -/
import Derived.Test.YtcbpgplmphgcgaaSnN
import Derived.Test.YtcbpgplmphgcgaaCrcRef
import Derived.Laws.BitsAll
namespace Go.Proofs.Ytcbpgplmphgcgaa.snw
open Go.RowKit mem snm crcm dskw
set_option linter.unusedVariables false

theorem strN_append (l r : List Nat) : strN l ++ strN r = strN (l ++ r) := by
  have h : (strN l ++ strN r).data = (strN (l ++ r)).data := by simp [strN]
  exact congrArg ByteArray.mk h
theorem strN_size (l : List Nat) : (strN l).size = l.length := by simp [strN, ByteArray.size]
theorem one_any (n : Int) (w : World) (h0 : 0 ≤ n) (h1 : n < 256) :
    Calls Try.prog 77 #[.int .i64 n] w fun en w' => en = .returned (.string (strN [n.toNat])) ∧ Only (fun _ => False) w w' := by
  obtain ⟨c, rfl⟩ := Int.eq_ofNat_of_zero_le h0
  have hr : Reads (w.alloc (.cells #[.int .u8 (c : Int)] 5)) (some ⟨w.heap.size, 0, none⟩) 1 [c] :=
    ⟨rfl, by unfold maxLen; omega, by intro d hd; simp at hd; omega, .inr ⟨_, _, rfl, fun i hi => by
      obtain rfl : i = 0 := by omega
      simp⟩⟩
  have hcv := conv_reads hr 1
  rw [Int.toNat_natCast]
  go_enter Try.func77, Try.ntmps77
  go_wp2
  go_ret
  exact ⟨rfl, (Only.refl _ w).alloc _⟩
theorem rroom_any (size : Int) (w : World) : Calls Try.prog 41 #[.int .i64 size] w fun e w' => e = .returned (.int .i64 (roomL size)) ∧ w = w' := by
  have HR : Hid (roomL size = if size < 1 ∨ 8192 < size then 0 else 64 * (size - 1)) := Lib.hid rfl
  generalize roomL size = R at *
  by_cases h1 : size < 1
  · rw [if_pos (.inl h1)] at HR
    rw [HR.out]
    go_enter Try.func41, Try.ntmps41
    go_wp2
    go_ret
    exact ⟨rfl, rfl⟩
  · by_cases h2 : 8192 < size
    · rw [if_pos (.inr h2)] at HR
      rw [HR.out]
      go_enter Try.func41, Try.ntmps41
      go_wp2
      go_ret
      exact ⟨rfl, rfl⟩
    · rw [if_neg (by omega)] at HR
      rw [HR.out]
      have hw1 : IntKind.i64.wrap (size - 1) = size - 1 := by rw [IntKind.wrap_i64]; omega
      have hw2 : IntKind.i64.wrap (64 * (size - 1)) = 64 * (size - 1) := by rw [IntKind.wrap_i64]; omega
      go_enter Try.func41, Try.ntmps41
      go_wp2
      go_ret
      exact ⟨rfl, rfl⟩
theorem and_255 (z : Int) (h0 : 0 ≤ z) (h1 : z < 18446744073709551616) : bits .and .u64 z 255 = z % 256 := by go_bits2
/-- one nought more, as often as needed -/
def zl (l : List Nat) (j : Nat) : List Nat := l ++ List.replicate j 0
theorem zl_succ (l : List Nat) (j : Nat) : zl l j ++ [0] = zl l (j + 1) := by unfold zl; rw [List.append_assoc, List.replicate_succ']
theorem zl_len (l : List Nat) (j : Nat) : (zl l j).length = l.length + j := by unfold zl; rw [List.length_append, List.length_replicate]
theorem zl_wl (l : List Nat) : zl l (nsec l.length * 64 - l.length) = wl l := rfl
set_option maxRecDepth 100000 in
set_option maxHeartbeats 2000000 in
theorem rbody_any (l : List Nat) (w : World) (hl : l.length ≤ 1000000) : Calls Try.prog 42 #[.string (strN l)] w fun e w' => e = .returned (.string (strN (wl l))) ∧ w = w' := by
  obtain ⟨m, hm⟩ : ∃ m, nsec l.length * 64 - l.length = m := ⟨_, rfl⟩
  have hmm : l.length + m = nsec l.length * 64 := by unfold nsec at *; omega
  have hm64 : m < 64 := by unfold nsec at *; omega
  have HM : Hid (zl l m = wl l) := Lib.hid (by rw [← hm]; exact zl_wl l)
  have HS := Lib.hid (fun j => strN_size (zl l j))
  have HL := Lib.hid (zl_len l)
  have HZ := Lib.hid (zl_succ l)
  have HA := Lib.hid strN_append
  generalize nsec l.length = q at *
  go_enter Try.func42, Try.ntmps42
  go_wp2_with fail
  go_loopw [0] (fun x wr => ∃ (j : Nat) (S : ByteArray), j ≤ m ∧ S = strN (zl l j) ∧ x = .string S ∧ w = wr) (fun x _ => m + l.length - (match x with | .string s => s.size | _ => 0))
  case atStart => exact ⟨0, _, by omega, rfl, by simp [zl], rfl⟩
  case round =>
    obtain ⟨j, S, hj, hS, rfl, rfl⟩ := hrel
    have hsz : S.size = l.length + j := by rw [hS, HS.out, HL.out]
    have HSS := Lib.hid hS
    clear hS hm
    by_cases hjm : j < m
    · have hr : ((l.length : Int) + (j : Int)).tmod 64 ≠ 0 := by
        rw [Int.tmod_eq_emod_of_nonneg (by omega)]
        omega
      have hr2 : ¬ ((l.length : Int) + (j : Int)) % 64 = 0 := by omega
      have HSN : Hid (S ++ { data := #[0] } = strN (zl l (j + 1))) := Lib.hid (by show S ++ strN [0] = _; rw [HSS.out, HA.out, HZ.out])
      have HSN2 : Hid ((S ++ { data := #[0] }).size = l.length + (j + 1)) := Lib.hid (by rw [HSN.out, HS.out, HL.out])
      go_wp2_with fail
      go_roundw
      case rel => exact ⟨j + 1, _, by omega, HSN.out, rfl, trivial⟩
      case measure =>
        have := HSN2.out
        show m + l.length - (S ++ { data := #[0] }).size < m + l.length - S.size
        omega
    · obtain rfl : j = m := by omega
      have hr : ((l.length : Int) + (j : Int)).tmod 64 = 0 := by
        rw [Int.tmod_eq_emod_of_nonneg (by omega)]
        omega
      have hr2 : ((l.length : Int) + (j : Int)) % 64 = 0 := by omega
      have HF : Hid (S = strN (wl l)) := Lib.hid (by rw [HSS.out, HM.out])
      go_wp2_with fail
      go_ret
      exact ⟨by rw [HF.out]; rfl, rfl⟩
set_option maxRecDepth 100000 in
set_option maxHeartbeats 2000000 in
theorem number_any (n k : Nat) (w : World) (hn : n < 9223372036854775808) (hk : k ≤ 8) : Calls Try.prog 67 #[.int .i64 (n : Int), .int .i64 (k : Int)] w fun e w' => e = .returned (.string (strN (be k n))) ∧ Only (fun _ => False) w w' := by
  have HBL := Lib.hid (be_len n)
  have HBT := Lib.hid (be_take n k)
  have HBF : Hid ((be k n).take k = be k n) := Lib.hid (List.take_of_length_le (by rw [be_len]; exact Nat.le_refl _))
  have HS := Lib.hid (fun j => strN_size ((be k n).take j))
  have HA := Lib.hid strN_append
  go_enter Try.func67, Try.ntmps67
  go_wp2_with fail
  go_loopw [5, 6] (fun x iv wr => ∃ (j : Nat) (S : ByteArray), j ≤ k ∧ iv = .int .i64 ((k : Int) - 1 - (j : Int)) ∧ x = .string S ∧ Hid (S = strN ((be k n).take j)) ∧ Hid (Only (fun _ => False) w wr)) (fun _ iv _ => (intOf iv + 1).toNat)
  case atStart => exact ⟨0, _, by omega, by go_num, rfl, Lib.hid rfl, Lib.hid (Only.refl _ _)⟩
  case round =>
    obtain ⟨j, S, hj, rfl, rfl, HSS, HO⟩ := hrel
    rename World => wr
    by_cases h8 : j < k
    · have h0 : (0 : Int) ≤ (k : Int) - 1 - (j : Int) := by omega
      have HB := HBT.out j h8
      obtain ⟨i, hii⟩ : ∃ i : Nat, k - 1 - j = i := ⟨_, rfl⟩
      have hic : (k : Int) - 1 - (j : Int) = (i : Int) := by omega
      rw [hii] at HB
      rw [hic]
      have hi8 : i ≤ 7 := by omega
      have hdiv : (n : Int) / 2 ^ (8 * i) = ((n / 256 ^ i : Nat) : Int) := by
        have e1 : (2 : Nat) ^ (8 * i) = 256 ^ i := by rw [Nat.pow_mul]
        have e2 : (2 : Int) ^ (8 * i) = ((2 ^ (8 * i) : Nat) : Int) := by norm_cast
        rw [e2, e1]
        norm_cast
      have hdl : n / 256 ^ i ≤ n := Nat.div_le_self _ _
      have hbyte : wrap64 (bits .and .u64 ((n : Int) / 2 ^ (8 * i)) 255) = ((n / 256 ^ i % 256 : Nat) : Int) := by
        rw [hdiv]
        clear hdiv hii
        generalize n / 256 ^ i = d at *
        rw [and_255 _ (by omega) (by omega), IntWalk.wrap64_in _ (by omega)]
        omega
      obtain ⟨c, hc⟩ : ∃ c, n / 256 ^ i % 256 = c := ⟨_, rfl⟩
      rw [hc] at hbyte HB
      have hc256 : c < 256 := by rw [← hc]; exact Nat.mod_lt _ (by omega)
      have hsz : S.size = j := by rw [HSS.out, HS.out, List.length_take, HBL.out]; omega
      have HHB := Lib.hid HB
      clear hc HB hdiv hdl hii
      go_wp2_with fail
      simp only [hbyte]
      refine (one_any _ _ (by omega) (by omega)).mono ?_
      rintro _ w1 ⟨rfl, ho1⟩
      rw [Int.toNat_natCast]
      obtain ⟨T, HT⟩ : ∃ T, Hid (strN [c] = T) := ⟨_, Lib.hid rfl⟩
      have hsz2 : T.size = 1 := by rw [← HT.out, strN_size]; rfl
      have HRS : Hid (S ++ T = strN ((be k n).take (j + 1))) := Lib.hid (by rw [← HT.out, HSS.out, HA.out, HHB.out])
      have HO1 := Lib.hid (HO.out.trans ho1)
      clear ho1 HO
      rw [HT.out]
      go_wp2_with fail
      go_roundw
      case rel => exact ⟨j + 1, _, by omega, by go_num, rfl, HRS, HO1⟩
      case measure => (simp [intOf]; try omega)
    · obtain rfl : j = k := by omega
      have h0 : ¬ (0 : Int) ≤ (j : Int) - 1 - (j : Int) := by omega
      have HF : Hid (S = strN (be j n)) := Lib.hid (by rw [HSS.out, HBF.out])
      go_wp2_with fail
      go_ret
      exact ⟨by rw [HF.out]; rfl, HO.out⟩
end Go.Proofs.Ytcbpgplmphgcgaa.snw
