/- An image that is saved: the program's Save. -/
import Derived.Test.YtcbpgplmphgcgaaSnE
namespace Go.Proofs.Ytcbpgplmphgcgaa.snw
open Go.RowKit mem snm crcm dskw
set_option linter.unusedVariables false

def Saved (p bl bm n : Nat) (L : Nat → List Nat) (cut : Int) (at_ gen : Nat) (im : List Nat) (w : World) (e : Ending) (w' : World) : Prop :=
  (wrOff cut (nsec im.length) = true ∧ e = .returned (.int .i64 12) ∧ DAft p bl bm n w w' L (wrC (fun _ => none) (at_ + 1) (wl im) (wrK cut (nsec im.length))) (cutJ cut (wrK cut (nsec im.length))) true) ∨
  (wrOff cut (nsec im.length) = false ∧ wrOff (cutJ cut (nsec im.length)) 1 = true ∧ e = .returned (.int .i64 12) ∧ DAft p bl bm n w w' (bodyF L at_ im) (wrC (fun _ => none) at_ (headL gen im) (wrK (cutJ cut (nsec im.length)) 1)) (cutJ (cutJ cut (nsec im.length)) (wrK (cutJ cut (nsec im.length)) 1)) true) ∨
  (wrOff cut (nsec im.length) = false ∧ wrOff (cutJ cut (nsec im.length)) 1 = false ∧ e = .returned (.int .i64 0) ∧ DAft p bl bm n w w' (saveF L at_ gen im) (fun _ => none) (cutJ (cutJ cut (nsec im.length)) 1) false)
theorem not_dbl {p bl bm n : Nat} {L : Nat → List Nat} {C : Nat → Option (List Nat)} {cut : Int} {off : Bool} {w w0 : World} (h : DskAt w0 p bl bm n L C cut off) (ho : w0.heap.size ≤ w.heap.size) {g : Nat} (hg : w.heap.size ≤ g) : ¬ Dbl p bl bm g := by
  have := h.lt
  rintro (e | e | e) <;> omega
theorem fr_bytes {w' : World} {l : List Nat} {g c m : Nat} (h : OwnB w' (.slice (some ⟨g, 0, none⟩) l.length c) l) (h1 : l.length ≤ c) (h2 : c ≤ maxLen) (hm : l.length = m) : Bytes w' (some ⟨g, 0, none⟩) m c l := by
  subst hm
  exact ⟨h.reads rfl, h1, h2, fun e => by cases e⟩
set_option maxRecDepth 100000 in
set_option maxHeartbeats 4000000 in
theorem save_any (p bl bm n : Nat) (L : Nat → List Nat) (cut : Int) (first size gen : Nat) (a : Option Addr) (len cap : Nat) (im : List Nat) (w : World) (h : DskAt w p bl bm n L (fun _ => none) cut false) (hr : Reads w a len im) (ha : ∀ x, a = some x → ¬ Dbl p bl bm x.block) (hin : first + 2 * size ≤ n) (hs : 1 ≤ size) (hg : 1 ≤ gen) (hg2 : gen < 9223372036854775808) (hl : len ≤ 64 * (size - 1)) :
    Calls Try.prog 36 #[.pointer (some ⟨p, 0, none⟩), .int .i64 (first : Int), .int .i64 (size : Int), .int .i64 (gen : Int), .slice a len cap] w (Saved p bl bm n L cut (first + gen % 2 * size) gen im w) := by
  have hn2 := h.n2
  have hle := hr.1
  have HW := Lib.hid (within_any p bl bm n L (fun _ => none) cut false (first : Int) (size : Int) w h (by omega))
  rw [decide_eq_true (show WIn n (first : Int) (size : Int) from ⟨by omega, by omega, by omega⟩)] at HW
  have HRM := Lib.hid (room_any (size : Int) w)
  have hroom : roomL (size : Int) = ((64 * (size - 1) : Nat) : Int) := by unfold roomL; rw [if_neg (by omega)]; omega
  rw [hroom] at HRM
  obtain ⟨rm, hrm⟩ : ∃ x, 64 * (size - 1) = x := ⟨_, rfl⟩
  have hsz : rm + 64 = 64 * size := by omega
  rw [hrm] at HRM hl
  obtain ⟨m, hm⟩ : ∃ x, nsec im.length = x := ⟨_, rfl⟩
  obtain ⟨par, hpar⟩ : ∃ x, gen % 2 = x := ⟨_, rfl⟩
  have hp2 : par = 0 ∨ par = 1 := by omega
  have hps : par * size ≤ size := by rcases hp2 with rfl | rfl <;> omega
  obtain ⟨at_, hat⟩ : ∃ x, first + par * size = x := ⟨_, rfl⟩
  have hm1 : at_ + 1 + m ≤ n := by unfold nsec at hm; omega
  have hm2 : m ≤ 8192 := by omega
  have htm : (gen : Int) % 2 = (par : Int) := by omega
  have hmul : IntKind.i64.wrap ((par : Int) * (size : Int)) = (par : Int) * (size : Int) := by rw [IntKind.wrap_i64]; rcases hp2 with rfl | rfl <;> omega
  have hadd : (first : Int) + (par : Int) * (size : Int) = (at_ : Int) := by rw [← hat]; rcases hp2 with rfl | rfl <;> omega
  have hadw : IntKind.i64.wrap ((at_ : Int) + 1) = ((at_ + 1 : Nat) : Int) := by rw [IntKind.wrap_i64]; omega
  have hatw : IntKind.i64.wrap (at_ : Int) = (at_ : Int) := by rw [IntKind.wrap_i64]; omega
  have hng : ¬ (rm : Int) < (len : Int) := by omega
  have HD := Lib.hid h
  have HR := Lib.hid hr
  have HA := Lib.hid ha
  rw [hpar, hat]
  have HSD : Hid (∀ e w', Saved p bl bm n L cut at_ gen im w e w' ↔ _) := Lib.hid (fun e w' => Iff.rfl)
  have HHL := Lib.hid (head_len gen im)
  have HWL : Hid ((wl im).length = m * 64) := Lib.hid (by rw [wl_len, hm])
  have HM : Hid (nsec im.length = m) := Lib.hid hm
  clear h hr ha hroom hpar hat hsz
  by_cases h0 : 0 < len
  · have h0' : (0 : Int) < len := by omega
    have HWH := Lib.hid (whole_any a len cap im w HR.out (by omega))
    go_enter Try.func36, Try.ntmps36
    go_wp2_with fail
    refine HW.out.mono ?_
    rintro _ _ ⟨rfl, rfl⟩
    go_wp2_with fail
    refine HRM.out.mono ?_
    rintro _ _ ⟨rfl, rfl⟩
    go_wp2_with fail
    refine HWH.out.mono ?_
    rintro _ w1 ⟨g1, c1, rfl, ho1, hl1, hm1', hg1, hO1⟩
    have HB1 : Hid (Bytes w1 (some ⟨g1, 0, none⟩) (m * 64) c1 (wl im)) := Lib.hid (fr_bytes ho1 hl1 hm1' HWL.out)
    have HD1 := Lib.hid (HD.out.only hO1 (fun f => f) (fun f => f) (fun f => f))
    have hnd1 : ¬ Dbl p bl bm g1 := not_dbl HD.out (Nat.le_refl _) hg1
    have HST1 : Hid (Calls Try.prog 63 #[.pointer (some ⟨p, 0, none⟩), .int .i64 ((at_ : Int) + 1), .slice (some ⟨g1, 0, none⟩) (m * 64) c1] w1 (Settled p bl bm n L cut (at_ + 1) m (wl im) w1)) := Lib.hid (by
      have := settle_any p bl bm n L cut (at_ + 1) m g1 c1 (wl im) w1 HD1.out (by omega) HB1.out hnd1
      rwa [show (((at_ + 1 : Nat) : Int)) = (at_ : Int) + 1 by omega] at this)
    have HO1 : Hid (Only (Dbl p bl bm) w w1) := Lib.hid (hO1.mono (fun _ _ f => f.elim))
    rw [HWL.out]
    clear ho1 hl1 hm1' hO1 HWH HB1 hnd1
    go_wp2_with fail
    refine HST1.out.mono ?_
    rintro _ w2 hst1
    rcases hst1 with ⟨t1, rfl, t3⟩ | ⟨t1, rfl, t3⟩
    · have HFIN : Hid (Saved p bl bm n L cut at_ gen im w (.returned (.int .i64 12)) w2) := Lib.hid (by
        unfold Saved
        rw [HM.out]
        exact .inl ⟨t1, rfl, t3.1, HO1.out.trans t3.2⟩)
      clear t1 t3 HST1 HD1 HO1
      go_wp2_with fail
      go_ret
      exact HFIN.out
    · have HT1 := Lib.hid t1
      have HD2 : Hid (DskAt w2 p bl bm n (bodyF L at_ im) (fun _ => none) (cutJ cut m) false) := Lib.hid (by unfold bodyF; rw [HM.out]; exact t3.1)
      have HO2 : Hid (Only (Dbl p bl bm) w w2) := Lib.hid (HO1.out.trans t3.2)
      clear t1 t3 HST1 HD1 HO1
      have HHA := Lib.hid (head_any gen a len cap im w2 (HR.out.only HO2.out (fun x hx => HA.out x hx)) hg2 (by omega))
      go_wp2_with fail
      refine HHA.out.mono ?_
      rintro _ w4 ⟨g4, c4, rfl, ho4, hl4, hm4, hg4, hO4⟩
      rw [HHL.out] at ho4 hl4 ⊢
      have HD4 := Lib.hid (HD2.out.only hO4 (fun f => f) (fun f => f) (fun f => f))
      have HO4 : Hid (Only (Dbl p bl bm) w w4) := Lib.hid (HO2.out.trans (hO4.mono (fun _ _ f => f.elim)))
      have HB4 : Hid (Bytes w4 (some ⟨g4, 0, none⟩) 64 c4 (headL gen im)) := Lib.hid ⟨ho4.reads (by rw [HHL.out]), hl4, hm4, fun e => by cases e⟩
      have hnd : ¬ Dbl p bl bm g4 := not_dbl HD.out (Nat.le_trans HO2.out.size (Nat.le_refl _)) hg4
      have HST := Lib.hid (settle_any p bl bm n (bodyF L at_ im) (cutJ cut m) at_ 1 g4 c4 (headL gen im) w4 HD4.out (by omega) HB4.out hnd)
      clear ho4 hl4 hO4 HHA HB4 hnd
      go_wp2_with fail
      refine HST.out.mono ?_
      rintro _ w5 hst
      have HEND : Hid (∃ z : Int, _ = Ending.returned (.int .i64 z)) := Lib.hid (by rcases hst with ⟨-, e, -⟩ | ⟨-, e, -⟩ <;> exact ⟨_, e⟩)
      obtain ⟨z, hz⟩ := HEND.out
      subst hz
      have HFIN : Hid (Saved p bl bm n L cut at_ gen im w (.returned (.int .i64 z)) w5) := Lib.hid (by
        unfold Saved
        rw [HM.out]
        rcases hst with ⟨s1, s2, s3⟩ | ⟨s1, s2, s3⟩
        · exact .inr (.inl ⟨HT1.out,  s1, s2,  s3.1, HO4.out.trans s3.2⟩)
        · exact .inr (.inr ⟨HT1.out,  s1, s2,  s3.1, HO4.out.trans s3.2⟩))
      clear hst HEND HST HO4 HD4
      go_wp2_with fail
      go_ret
      exact HFIN.out
  · have hl0 : len = 0 := by omega
    have him : im = [] := List.eq_nil_of_length_eq_zero (by omega)
    have hm0 : m = 0 := by rw [← hm, hle, hl0]; rfl
    have HBF : Hid (bodyF L at_ im = L) := Lib.hid (by unfold bodyF; rw [HM.out, hm0, putF_zero])
    have HOF0 : Hid (wrOff cut m = false ∧ cutJ cut m = cut) := Lib.hid (by rw [hm0]; exact ⟨by unfold wrOff; exact decide_eq_false (by omega), cutJ_zero cut⟩)
    have HO0 := Lib.hid (Only.refl (Dbl p bl bm) w)
    subst hl0
    clear hm0 him h0 hng
    go_enter Try.func36, Try.ntmps36
    go_wp2_with fail
    refine HW.out.mono ?_
    rintro _ _ ⟨rfl, rfl⟩
    go_wp2_with fail
    refine HRM.out.mono ?_
    rintro _ _ ⟨rfl, rfl⟩
    go_wp2_with fail
    have HHA := Lib.hid (head_any gen a 0 cap im w (HR.out.only HO0.out (fun x hx => HA.out x hx)) hg2 (by omega))
    go_wp2_with fail
    refine HHA.out.mono ?_
    rintro _ w4 ⟨g4, c4, rfl, ho4, hl4, hm4, hg4, hO4⟩
    rw [HHL.out] at ho4 hl4 ⊢
    have HD4 := Lib.hid (HD.out.only hO4 (fun f => f) (fun f => f) (fun f => f))
    have HO4 : Hid (Only (Dbl p bl bm) w w4) := Lib.hid (HO0.out.trans (hO4.mono (fun _ _ f => f.elim)))
    have HB4 : Hid (Bytes w4 (some ⟨g4, 0, none⟩) 64 c4 (headL gen im)) := Lib.hid ⟨ho4.reads (by rw [HHL.out]), hl4, hm4, fun e => by cases e⟩
    have hnd : ¬ Dbl p bl bm g4 := not_dbl HD.out (Nat.le_trans HO0.out.size (Nat.le_refl _)) hg4
    have HST := Lib.hid (settle_any p bl bm n L cut at_ 1 g4 c4 (headL gen im) w4 HD4.out (by omega) HB4.out hnd)
    clear ho4 hl4 hO4 HHA HB4 hnd
    go_wp2_with fail
    refine HST.out.mono ?_
    rintro _ w5 hst
    have HEND : Hid (∃ z : Int, _ = Ending.returned (.int .i64 z)) := Lib.hid (by rcases hst with ⟨-, e, -⟩ | ⟨-, e, -⟩ <;> exact ⟨_, e⟩)
    obtain ⟨z, hz⟩ := HEND.out
    subst hz
    have HFIN : Hid (Saved p bl bm n L cut at_ gen im w (.returned (.int .i64 z)) w5) := Lib.hid (by
      unfold Saved
      rw [HM.out]
      rcases hst with ⟨s1, s2, s3⟩ | ⟨s1, s2, s3⟩
      · exact .inr (.inl ⟨HOF0.out.1, (by rw [HOF0.out.2]; exact s1), s2, (by have h := s3.1; rw [HOF0.out.2, HBF.out]; exact h), HO4.out.trans s3.2⟩)
      · exact .inr (.inr ⟨HOF0.out.1, (by rw [HOF0.out.2]; exact s1), s2, (by have h := s3.1; rw [HOF0.out.2]; unfold saveF; rw [HBF.out]; exact h), HO4.out.trans s3.2⟩))
    clear hst HEND HST HO4 HD4
    go_wp2_with fail
    go_ret
    exact HFIN.out
end Go.Proofs.Ytcbpgplmphgcgaa.snw
