/- ArithShares's walk. -/
import Derived.Test.YtooffbgcaichmaaShareR
namespace Go.Proofs.Ytooffbgcaichmaa.bigw
open Go.RowKit mem bigm intm
set_option linter.unusedVariables false

set_option maxRecDepth 100000 in
set_option maxHeartbeats 2000000 in
theorem shares_walk (t : Int) (ht : -9223372036854775808 ≤ t ∧ t ≤ 9223372036854775807) (a : Option Addr) (len cap : Nat) (l : List Int) (w : World) (h : IntsR w a len cap l) :
    Calls Try.prog 6 #[.int .i64 t, .slice a len cap] w fun e w' => e = .returned (.bool true) ∧ Below w.heap.size w w' := by
  obtain ⟨hr, hlc, hcm, hnone⟩ := h
  obtain ⟨i0, hi, hz0, hz1, hz2⟩ := info_parts info_i64
  unfold maxLen at hcm
  have HT := Lib.hid ht
  clear ht
  rcases a with _ | x
  · have := hnone rfl
    obtain rfl : cap = 0 := this
    obtain rfl : len = 0 := by omega
    have hm0 : min (0 : Int) 30 = 0 := by decide
    go_enter Try.func6, Try.ntmps6
    go_wp2_with fail
    refine (ashare_no t _ _ _ [] _ (nil_reads _ _) rfl).mono ?_
    rintro e w1 ⟨rfl, hO1⟩
    go_wp2_with fail
    refine (rshare_no t _ _ _ [] _ (nil_reads _ _) rfl).mono ?_
    rintro e w2 ⟨rfl, hO2⟩
    go_wp2_with fail
    refine (sums_any _).mono ?_
    rintro e w3 ⟨rfl, rfl⟩
    have hO0 : Only (fun _ => False) w w2 := Only.trans (Only.trans (((Only.refl _ _).alloc _).alloc _) hO1) hO2
    go_wp2_with fail
    refine (same_any _ _ _ _ _ [] _ (nil_reads _ _) (nil_reads _ _)).mono ?_
    rintro e w3 ⟨rfl, hO3⟩
    go_wp2_with fail
    refine (same_any _ _ _ _ _ [] _ (nil_reads _ _) (nil_reads _ _)).mono ?_
    rintro e w4 ⟨rfl, hO4⟩
    go_wp2_with fail
    refine (asum_any _ _ _ [] _ (nil_reads _ _)).mono ?_
    rintro e w5 ⟨rfl, rfl⟩
    go_wp2_with fail
    go_ret
    exact ⟨rfl, ((hO0.trans hO3).trans hO4).none⟩
  · rcases Nat.lt_or_ge 30 len with hlen | hlen
    all_goals
      obtain ⟨n, hn, hn3, hnl⟩ : ∃ n, n = min len 30 ∧ n ≤ 30 ∧ n ≤ len := ⟨_, rfl, by omega, by omega⟩
      have HR : Hid (ReadsI w (some x) n (l.take n)) := Lib.hid (hr.take n hnl)
      generalize l.take n = l' at HR
      clear hr hnone
      have hmin : min (len : Int) 30 = (n : Int) := by omega
      first | (rw [Nat.min_eq_right (by omega : 30 ≤ len)] at hn; subst hn) | (rw [Nat.min_eq_left (by omega : len ≤ 30)] at hn; subst hn)
      go_enter Try.func6, Try.ntmps6
      go_wp2_with (first | (at_builtin; refine wpList_append_own _ rfl _ _ 34 rfl w.heap.size 3 i0 (.int .i64 0) 1 8 Try.underlying34 hi hz0 hz1 hz2 rfl (by decide) _ _ _ rfl (World.ownsRow_lit w #[] 0 (Nat.le_refl _) (by decide) rfl) x _ _ (iv l') rfl ?c1 ?c2 ?c3 ?c4 ?c5 ?c6 ?_))
      case c1 => rw [iv_length, HR.out.1, Nat.mul_one]
      case c2 => exact newsI (HR.out.only ((Only.refl (fun _ => False) w).alloc _) (fun _ _ f => f))
      case c3 => exact iv_one l'
      case c4 => unfold maxLen; omega
      case c5 => omega
      case c6 => simp
      intro v' w1 hown hgrow hne
      obtain ⟨g, c1, hv, hg⟩ := form_of hown (by simpa using hne)
      rw [hv] at hown ⊢
      clear hv hne
      have R1 := Lib.hid (ReadsI.of_owns hown (by unfold maxLen; omega) HR.out.2.2.1)
      have hb1 : Below w.heap.size w w1 := ((Below.refl _ _).alloc (Nat.le_refl _) _).grown hgrow (by simp) (by intro k hk; simp [Value.ownBlock] at hk; omega)
      have O1 := Lib.hid (Only.of_below hb1)
      have HLB := Lib.hid HR.out.2.2.1
      have HLL := Lib.hid HR.out.1
      clear hown hgrow HR hb1
      go_wp2_with (first | (at_builtin; refine wpList_append_own _ rfl _ _ 34 rfl w1.heap.size 3 i0 (.int .i64 0) 1 8 Try.underlying34 hi hz0 hz1 hz2 rfl (by decide) _ _ _ rfl (World.ownsRow_lit w1 #[] 0 (Nat.le_refl _) (by decide) rfl) ⟨g, 0, none⟩ _ _ (iv l') rfl ?c1 ?c2 ?c3 ?c4 ?c5 ?c6 ?_))
      case c1 => rw [iv_length, HLL.out, Nat.mul_one]
      case c2 => exact newsI (R1.out.only ((Only.refl (fun _ => False) w1).alloc _) (fun _ _ f => f))
      case c3 => exact iv_one l'
      case c4 => unfold maxLen; omega
      case c5 => omega
      case c6 => simp
      intro v' w2 hown hgrow hne
      obtain ⟨g2, c2, hv, hg2⟩ := form_of hown (by simpa using hne)
      rw [hv] at hown ⊢
      clear hv hne
      have R2 := Lib.hid (ReadsI.of_owns hown (by unfold maxLen; omega) HLB.out)
      have hb2 : Below w1.heap.size w1 w2 := ((Below.refl _ _).alloc (Nat.le_refl _) _).grown hgrow (by simp) (by intro k hk; simp [Value.ownBlock] at hk; omega)
      have O2 := Lib.hid (Only.of_below hb2)
      have R12 := Lib.hid (R1.out.only O2.out (fun _ _ f => f))
      clear hown hgrow hb2 R1
      have RN1 := Lib.hid (nil_reads)
      cases hshr : shr t l' with
      | false =>
        have HSH := Lib.hid hshr
        clear hshr
        go_wp2_with fail
        refine (ashare_no t _ _ _ l' _ R12.out HSH.out).mono ?_
        rintro e w3 ⟨rfl, hO3⟩
        have O3 := Lib.hid hO3
        clear hO3
        go_wp2_with fail
        refine (rshare_no t _ _ _ l' _ (R2.out.only O3.out (fun _ _ f => f)) HSH.out).mono ?_
        rintro e w4 ⟨rfl, hO4⟩
        have O4 := Lib.hid (O3.out.trans hO4)
        clear hO4 O3
        go_wp2_with fail
        refine (sums_any _).mono ?_
        rintro e w5 ⟨rfl, rfl⟩
        go_wp2_with fail
        refine (same_any _ _ _ _ _ [] _ (nil_reads _ _) (nil_reads _ _)).mono ?_
        rintro e w5 ⟨rfl, hO5⟩
        have O5 := Lib.hid (O4.out.trans hO5)
        clear hO5 O4
        go_wp2_with fail
        refine (same_any _ _ _ _ _ l' _ (R12.out.only O5.out (fun _ _ f => f)) (R2.out.only O5.out (fun _ _ f => f))).mono ?_
        rintro e w6 ⟨rfl, hO6⟩
        have O6 := Lib.hid (((O1.out.trans O2.out).trans O5.out).trans hO6)
        clear hO6 O5
        go_wp2_with fail
        refine (asum_any _ _ _ [] _ (nil_reads _ _)).mono ?_
        rintro e w7 ⟨rfl, rfl⟩
        go_wp2_with fail
        go_ret
        exact ⟨rfl, O6.out.none⟩
      | true =>
        have HSH := Lib.hid hshr
        obtain ⟨wf, hwf⟩ : ∃ wf : Nat → Int, (fun i => l'.getD i 0) = wf := ⟨_, rfl⟩
        obtain ⟨S, hS⟩ : ∃ S, l'.sum = S := ⟨_, rfl⟩
        have hWT := weights_of HT.out hshr
        rw [hwf, hS, HLL.out] at hWT
        have HWT := Lib.hid hWT
        have HWF := Lib.hid hwf
        have HSS := Lib.hid hS
        have HAL := Lib.hid (hWT.all)
        clear hshr hwf hS hWT
        go_wp2_with fail
        refine (ashare_yes t HT.out _ _ _ l' wf S _ R12.out hn3 HSH.out HWF.out HSS.out).mono ?_
        rintro e w3 ⟨g3, c3, rfl, HR3, hO3, _⟩
        have O3 := Lib.hid hO3
        have R3 := Lib.hid HR3
        clear hO3 HR3
        go_wp2_with fail
        refine (rshare_yes t HT.out _ _ _ l' wf S _ (R2.out.only O3.out (fun _ _ f => f)) hn3 HSH.out HWF.out HSS.out).mono ?_
        rintro e w4 ⟨g4, c4, rfl, HR4, hO4, _⟩
        have O4 := Lib.hid (O3.out.trans hO4)
        have R34 := Lib.hid (R3.out.only hO4 (fun f => f))
        have HFI := Lib.hid (fun j hj => HWT.out.fin_in (k := j) hj)
        generalize t - bigw.psm t S wf _ = L at *
        have hfin : ∀ j, j < _ → -9223372036854775808 ≤ fin t S wf L j ∧ fin t S wf L j ≤ 9223372036854775807 := fun j hj => ⟨by have := (HFI.out j hj).1; omega, by have := (HFI.out j hj).2; have := HT.out.2; omega⟩
        have A3 := Lib.hid (R34.out.reads (by unfold maxLen; omega) hfin)
        have A4 := Lib.hid (RowI.reads HR4 (by unfold maxLen; omega) hfin)
        have HSU := Lib.hid ((fsm_list t S wf L _).trans HAL.out.2)
        clear hO4 HR4 O3 R3 R34 hfin
        go_wp2_with fail
        refine (sums_any _).mono ?_
        rintro e w5 ⟨rfl, rfl⟩
        go_wp2_with fail
        refine (same_any _ _ _ _ _ _ _ A3.out A4.out).mono ?_
        rintro e w5 ⟨rfl, hO5⟩
        have O5 := Lib.hid (O4.out.trans hO5)
        have A5 := Lib.hid (A3.out.only hO5 (fun _ _ f => f))
        clear hO5 O4
        go_wp2_with fail
        refine (same_any _ _ _ _ _ l' _ (R12.out.only O5.out (fun _ _ f => f)) (R2.out.only O5.out (fun _ _ f => f))).mono ?_
        rintro e w6 ⟨rfl, hO6⟩
        have O6 := Lib.hid (((O1.out.trans O2.out).trans O5.out).trans hO6)
        have A6 := Lib.hid (A5.out.only hO6 (fun _ _ f => f))
        clear hO6 O5
        go_wp2_with fail
        refine (asum_any _ _ _ _ _ A6.out).mono ?_
        rintro e w7 ⟨rfl, rfl⟩
        rw [HSU.out, show isInt t = true from (isInt_iff t).2 HT.out, show intOr t = t by unfold intOr; rw [(isInt_iff t).2 HT.out]; rfl]
        go_wp2_with fail
        go_ret
        exact ⟨rfl, O6.out.none⟩
end Go.Proofs.Ytooffbgcaichmaa.bigw
