/- What the document's own codec answers: the same groups, as strings. -/
import Derived.Test.YtfdaokjigjpomaaCodKnown
namespace Go.Proofs.Ytfdaokjigjpomaa.codw
open Go.RowKit mem codm
set_option linter.unusedVariables false

theorem strN_append (l r : List Nat) : strN l ++ strN r = strN (l ++ r) := by
  have h : (strN l ++ strN r).data = (strN (l ++ r)).data := by simp [strN]
  exact congrArg ByteArray.mk h

theorem strN_size (l : List Nat) : (strN l).size = l.length := by simp [strN, ByteArray.size]

theorem one_any (n : Int) (w : World) (h0 : 0 ≤ n) (h1 : n < 256) :
    Calls Try.prog 49 #[.int .i64 n] w fun en w' => en = .returned (.string (strN [n.toNat])) ∧ Only (fun _ => False) w w' := by
  obtain ⟨c, rfl⟩ := Int.eq_ofNat_of_zero_le h0
  have hr : Reads (w.alloc (.cells #[.int .u8 (c : Int)] 5)) (some ⟨w.heap.size, 0, none⟩) 1 [c] :=
    ⟨rfl, by unfold maxLen; omega, by intro d hd; simp at hd; omega, .inr ⟨_, _, rfl, fun i hi => by
      obtain rfl : i = 0 := by omega
      simp⟩⟩
  have hcv := conv_reads hr 1
  rw [Int.toNat_natCast]
  go_enter Try.func49, Try.ntmps49
  go_wp2
  go_ret
  exact ⟨rfl, (Only.refl _ w).alloc _⟩

set_option maxRecDepth 100000 in
set_option maxHeartbeats 1000000 in
theorem rgroups_any (n : Nat) (w : World) (hn : n < 18446744073709551616) :
    Calls Try.prog 43 #[.int .u64 (n : Int)] w fun en w' => en = .returned (.string (strN (enc n))) ∧ Only (fun _ => False) w w' := by
  go_enter Try.func43, Try.ntmps43
  go_wp2
  go_loopw [0, 3] (fun x s wr => ∃ f m pre, x = .int .u64 ((m : Nat) : Int) ∧ s = .string (strN pre) ∧ m < 128 ^ (f + 1) ∧ m < 18446744073709551616 ∧ Hid (enc n = pre ++ encF f m) ∧ Hid (Only (fun _ => False) w wr) ∧ pre.length + f ≤ 10) (fun x _ _ => (intOf x).toNat)
  case atStart => exact ⟨10, n, [], rfl, rfl, by omega, hn, Lib.hid rfl, Lib.hid (Only.refl _ _), by simp⟩
  case round =>
    obtain ⟨f, m, pre, rfl, rfl, hmf, hm64, HE, HO, hpl⟩ := hrel
    have HSZ : Hid ((strN pre).size = pre.length) := Lib.hid (strN_size pre)
    obtain ⟨S, HS⟩ : ∃ S, Hid (strN pre = S) := ⟨_, Lib.hid rfl⟩
    by_cases h128 : m < 128
    · have HF := Lib.hid (encF_small f m h128)
      rw [HS.out]
      go_wp2_with fail
      refine (one_any _ _ (by omega) (by omega)).mono ?_
      rintro e1 w1 ⟨rfl, hO1⟩
      have HO1 := Lib.hid (HO.out.trans hO1)
      clear hO1
      rw [Int.toNat_natCast]
      obtain ⟨T, HT⟩ : ∃ T, Hid (strN [m] = T) := ⟨_, Lib.hid rfl⟩
      have hsz1 : S.size = pre.length := by rw [← HS.out, HSZ.out]
      have hsz2 : T.size = 1 := by rw [← HT.out, strN_size]; rfl
      have hres : Hid (S ++ T = strN (enc n)) := Lib.hid (by rw [← HS.out, ← HT.out, strN_append, HE.out, HF.out])
      rw [HT.out]
      go_wp2
      go_ret
      rw [hres.out]
      exact ⟨rfl, HO1.out⟩
    · obtain ⟨f, rfl⟩ : ∃ f', f = f' + 1 := ⟨f - 1, by
        rcases Nat.eq_zero_or_pos f with h0 | h0
        · subst h0; simp at hmf; omega
        · omega⟩
      have HF := Lib.hid (encF_step f m h128)
      have HDIV : Hid (m / 128 < 128 ^ (f + 1)) := Lib.hid (by rw [Nat.div_lt_iff_lt_mul (by omega)]; rw [Nat.pow_succ] at hmf; exact hmf)
      clear hmf
      rw [HS.out]
      go_wp2_with fail
      refine (one_any _ _ (by omega) (by omega)).mono ?_
      rintro e1 w1 ⟨rfl, hO1⟩
      have HO1 := Lib.hid (HO.out.trans hO1)
      clear hO1
      rw [show ((m : Int) % 128 + 128).toNat = m % 128 + 128 by omega]
      obtain ⟨T, HT⟩ : ∃ T, Hid (strN [m % 128 + 128] = T) := ⟨_, Lib.hid rfl⟩
      have hsz1 : S.size = pre.length := by rw [← HS.out, HSZ.out]
      have hsz2 : T.size = 1 := by rw [← HT.out, strN_size]; rfl
      have HRES : Hid (S ++ T = strN (pre ++ [m % 128 + 128])) := Lib.hid (by rw [← HS.out, ← HT.out, strN_append])
      rw [HT.out]
      go_wp2_with fail
      clear hsz1 hsz2
      go_roundw
      case rel => exact ⟨f, m / 128, pre ++ [m % 128 + 128], by go_num, by rw [HRES.out], HDIV.out, by omega, Lib.hid (by rw [HE.out, HF.out]; simp), HO1, by simp; omega⟩
      case measure => simp [intOf]; omega

theorem rgroups_int (x : Int) (w : World) (h0 : 0 ≤ x) (hn : x < 18446744073709551616) :
    Calls Try.prog 43 #[.int .u64 x] w fun en w' => en = .returned (.string (strN (enc x.toNat))) ∧ Only (fun _ => False) w w' := by
  obtain ⟨n, rfl⟩ := Int.eq_ofNat_of_zero_le h0
  exact rgroups_any n w (by omega)

/-- what the document writes for a count -/
def rucount (n : Int) : List Nat := if n < 0 then [] else enc n.toNat

theorem ruint_any (n : Int) (w : World) (hn : -9223372036854775808 ≤ n ∧ n ≤ 9223372036854775807) :
    Calls Try.prog 28 #[.int .i64 n] w fun en w' => en = .returned (.string (strN (rucount n))) ∧ Only (fun _ => False) w w' := by
  by_cases h0 : n < 0
  · have hR : Hid (strN (rucount n) = ⟨#[]⟩) := Lib.hid (by unfold rucount; rw [if_pos h0]; rfl)
    go_enter Try.func28, Try.ntmps28
    go_wp2
    go_ret
    rw [hR.out]
    exact ⟨rfl, Only.refl _ _⟩
  · have hR : Hid (rucount n = enc n.toNat) := Lib.hid (by unfold rucount; rw [if_neg h0])
    go_enter Try.func28, Try.ntmps28
    go_wp2_with fail
    refine (rgroups_int _ _ (by omega) (by omega)).mono ?_
    rintro e1 w1 ⟨rfl, hO1⟩
    rw [← hR.out]
    have HO1 := Lib.hid hO1
    clear hO1
    go_wp2
    go_ret
    exact ⟨rfl, HO1.out⟩

end Go.Proofs.Ytfdaokjigjpomaa.codw
