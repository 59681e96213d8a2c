/- Sectors that are put on a disk, and last; an image that is saved. -/
import Derived.Test.YtcbpgplmphgcgaaSnC
import Derived.Test.YtcbpgplmphgcgaaSnD
namespace Go.Proofs.Ytcbpgplmphgcgaa.snw
open Go.RowKit mem snm crcm dskw
set_option linter.unusedVariables false

def Settled (p bl bm n : Nat) (L : Nat → List Nat) (cut : Int) (at_ m : Nat) (lb : List Nat) (w : World) (e : Ending) (w' : World) : Prop :=
  (wrOff cut m = true ∧ e = .returned (.int .i64 12) ∧ DAft p bl bm n w w' L (wrC (fun _ => none) at_ lb (wrK cut m)) (cutJ cut (wrK cut m)) true) ∨ (wrOff cut m = false ∧ e = .returned (.int .i64 0) ∧ DAft p bl bm n w w' (putF L at_ lb m) (fun _ => none) (cutJ cut m) false)
set_option maxRecDepth 100000 in
set_option maxHeartbeats 2000000 in
theorem settle_any (p bl bm n : Nat) (L : Nat → List Nat) (cut : Int) (at_ m g cap : Nat) (lb : List Nat) (w : World) (h : DskAt w p bl bm n L (fun _ => none) cut false) (hm : at_ + m ≤ n) (hb : Bytes w (some ⟨g, 0, none⟩) (m * 64) cap lb) (hg : ¬ Dbl p bl bm g) :
    Calls Try.prog 63 #[.pointer (some ⟨p, 0, none⟩), .int .i64 (at_ : Int), .slice (some ⟨g, 0, none⟩) (m * 64) cap] w (Settled p bl bm n L cut at_ m lb w) := by
  have HW := Lib.hid (write_yes p bl bm n L (fun _ => none) cut at_ m hm (some ⟨g, 0, none⟩) cap lb w h hb (fun x hx => by injection hx with hx; subst hx; exact hg))
  have HKM : Hid (wrOff cut m = false → wrK cut m = m) := Lib.hid (fun e => by unfold wrOff at e; have := of_decide_eq_false e; unfold wrK; rw [if_neg this])
  have HE : Hid (wrE cut m = if wrOff cut m then 12 else 0) := Lib.hid rfl
  clear h hb
  rw [HE.out] at HW
  go_enter Try.func63, Try.ntmps63
  go_wp2_with fail
  refine HW.out.mono ?_
  rintro _ w1 ⟨rfl, hd⟩
  have HD := Lib.hid hd
  clear hd HW HE
  cases hof : wrOff cut m
  · rw [hof] at HD
    rw [HKM.out hof] at HD
    have hs := sync_yes p bl bm n L (wrC (fun _ => none) at_ lb m) (cutJ cut m) w1 HD.out.1
    rw [cur_wrC] at hs
    have HS := Lib.hid hs
    have HOF := Lib.hid hof
    clear hs hof
    go_wp2_with fail
    refine HS.out.mono ?_
    rintro _ w2 ⟨rfl, hd⟩
    have HFIN : Hid (Settled p bl bm n L cut at_ m lb w (.returned (.int .i64 0)) w2) := Lib.hid (.inr ⟨HOF.out, rfl, hd.1, HD.out.2.trans hd.2⟩)
    clear hd HS HD
    go_wp2_with fail
    go_ret
    exact HFIN.out
  · rw [hof] at HD
    have HFIN : Hid (Settled p bl bm n L cut at_ m lb w (.returned (.int .i64 12)) w1) := Lib.hid (.inl ⟨hof, rfl, HD.out⟩)
    clear hof HD
    go_wp2_with fail
    go_ret
    exact HFIN.out
/-- both slots are there -/
def WIn (n : Nat) (first size : Int) : Prop := 0 ≤ first ∧ 1 ≤ size ∧ first + 2 * size ≤ n
instance (n : Nat) (first size : Int) : Decidable (WIn n first size) := by unfold WIn; infer_instance
set_option maxRecDepth 100000 in
set_option maxHeartbeats 2000000 in
theorem within_any (p bl bm n : Nat) (L : Nat → List Nat) (C : Nat → Option (List Nat)) (cut : Int) (off : Bool) (first size : Int) (w : World) (h : DskAt w p bl bm n L C cut off) (hf : -9223372036854775808 ≤ first ∧ first ≤ 9223372036854775807) :
    Calls Try.prog 62 #[.pointer (some ⟨p, 0, none⟩), .int .i64 first, .int .i64 size] w fun e w' => e = .returned (.bool (decide (WIn n first size))) ∧ w = w' := by
  have HS := Lib.hid (size_any p bl bm n L C cut off w h)
  have hn2 := h.n2
  clear h
  by_cases h1 : 0 ≤ first
  · by_cases h2 : 1 ≤ size
    · have hw : IntKind.i64.wrap ((n : Int) - first) = (n : Int) - first := by rw [IntKind.wrap_i64]; omega
      have HD : Hid (decide (size ≤ ((n : Int) - first).tdiv 2) = decide (WIn n first size)) := Lib.hid (by
        unfold WIn
        apply decide_eq_decide.2
        rcases Int.le_total 0 ((n : Int) - first) with h | h
        · rw [Int.tdiv_eq_ediv_of_nonneg h]; omega
        · have : ((n : Int) - first).tdiv 2 ≤ 0 := by
            have := Int.neg_tdiv (-( (n : Int) - first)) 2
            rw [Int.neg_neg] at this
            rw [this, Int.tdiv_eq_ediv_of_nonneg (by omega)]
            omega
          omega)
      generalize decide (WIn n first size) = d at *
      go_enter Try.func62, Try.ntmps62
      go_wp2_with fail
      refine HS.out.mono ?_
      rintro _ _ ⟨rfl, rfl⟩
      go_wp2_with fail
      go_ret
      exact ⟨by rw [← HD.out]; rfl, rfl⟩
    · have HD : Hid (decide (WIn n first size) = false) := Lib.hid (decide_eq_false (fun q => h2 q.2.1))
      go_enter Try.func62, Try.ntmps62
      go_wp2_with fail
      go_ret
      exact ⟨by rw [HD.out]; rfl, rfl⟩
  · have HD : Hid (decide (WIn n first size) = false) := Lib.hid (decide_eq_false (fun q => h1 q.1))
    go_enter Try.func62, Try.ntmps62
    go_wp2_with fail
    go_ret
    exact ⟨by rw [HD.out]; rfl, rfl⟩
/-- how many bytes an image may have -/
def roomL (size : Int) : Int := if size < 1 ∨ 8192 < size then 0 else 64 * (size - 1)
theorem room_any (size : Int) (w : World) : Calls Try.prog 40 #[.int .i64 size] w fun e w' => e = .returned (.int .i64 (roomL size)) ∧ w = w' := by
  have HR : Hid (roomL size = if size < 1 ∨ 8192 < size then 0 else 64 * (size - 1)) := Lib.hid rfl
  generalize roomL size = R at *
  by_cases h1 : size < 1
  · rw [if_pos (.inl h1)] at HR
    go_enter Try.func40, Try.ntmps40
    go_wp2_with fail
    go_ret
    exact ⟨by rw [HR.out]; rfl, rfl⟩
  · by_cases h2 : 8192 < size
    · rw [if_pos (.inr h2)] at HR
      go_enter Try.func40, Try.ntmps40
      go_wp2_with fail
      go_ret
      exact ⟨by rw [HR.out]; rfl, rfl⟩
    · rw [if_neg (by omega)] at HR
      have hw1 : IntKind.i64.wrap (size - 1) = size - 1 := by rw [IntKind.wrap_i64]; omega
      have hw2 : IntKind.i64.wrap (64 * (size - 1)) = 64 * (size - 1) := by rw [IntKind.wrap_i64]; omega
      go_enter Try.func40, Try.ntmps40
      go_wp2_with fail
      go_ret
      exact ⟨by rw [HR.out]; rfl, rfl⟩
end Go.Proofs.Ytcbpgplmphgcgaa.snw
