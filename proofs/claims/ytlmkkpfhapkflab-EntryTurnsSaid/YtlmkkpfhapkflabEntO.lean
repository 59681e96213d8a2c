/- EntryTurns's walk. -/
import Derived.Test.YtlmkkpfhapkflabEntN
namespace Go.Proofs.Ytlmkkpfhapkflab.entw
open Go.RowKit mem entm
set_option linter.unusedVariables false

theorem opp_get (ls : List Lg) (k : Nat) (h : k < ls.length) : (opp ls).getD k default = ⟨(ls.getD k default).k, (ls.getD k default).n, (ls.getD k default).g, negI (ls.getD k default).a⟩ := by
  have h2 : k < (opp ls).length := by rw [opp_len]; exact h
  have e1 : (opp ls).getD k default = (opp ls)[k] := by simp [List.getD, h2]
  have e2 : ls.getD k default = ls[k] := by simp [List.getD, h]
  rw [e1, e2]
  simp [opp]

theorem take_min_len (ls : List Lg) (len : Nat) (h : ls.length = len) : (ls.take (min len 70)).length = min len 70 := by rw [List.length_take]; omega

set_option maxRecDepth 100000 in
set_option maxHeartbeats 4000000 in
attribute [local go_sem ↓] Go.wp_at_zero Go.wp_at_succ in
theorem turns_any (kind : Int) (a : Option Addr) (len cap : Nat) (ls : List Lg) (w : World) (h : LegsR w a len cap ls) :
    Calls Try.prog 5 #[.agg #[.int .i64 kind, .slice a len cap]] w fun e w' => e = .returned (.bool true) ∧ Only (fun _ => False) w w' := by
  have HL1 := h.1.1
  have HTM := Lib.hid (fun w' (ho : Only (fun _ => False) w w') => tame_any kind a len cap (min len 70) ls w' ⟨h.1.only ho (fun _ _ f => f), h.2⟩ rfl)
  have hin : ∀ l ∈ ls.take (min len 70), InL l := fun l hl => h.1.2.2.1 l (List.mem_of_mem_take hl)
  have hlen : (ls.take (min len 70)).length ≤ 70 := by rw [take_min_len ls len HL1]; omega
  generalize ls.take (min len 70) = l' at *
  have HIN := Lib.hid hin
  have HO : Hid (∀ o, Only (fun _ => False) w (w.alloc o)) := Lib.hid (fun o => (Only.refl _ w).alloc o)
  have hbx : (w.alloc (.cells #[.int .i64 kind, .slice a len cap] 24)).cell? ⟨w.heap.size, 0, none⟩ = some (.int .i64 kind) ∧ (w.alloc (.cells #[.int .i64 kind, .slice a len cap] 24)).cell? ⟨w.heap.size, 1, none⟩ = some (.slice a len cap) := ⟨alloc_new _ _ _ _ _ _ rfl rfl, alloc_new _ _ _ _ _ _ rfl rfl⟩
  have HBX := Lib.hid hbx
  have HBF : Hid ((w.alloc (.cells #[.int .i64 kind, .slice a len cap] 24)).frozen? ⟨w.heap.size, 0, none⟩ = false ∧ (w.alloc (.cells #[.int .i64 kind, .slice a len cap] 24)).frozen? ⟨w.heap.size, 1, none⟩ = false ∧ w.heap.size < (w.alloc (.cells #[.int .i64 kind, .slice a len cap] 24)).heap.size) := Lib.hid ⟨alloc_froz _ _ _ _ _ rfl, alloc_froz _ _ _ _ _ rfl, by simp⟩
  clear h hin hbx HL1
  go_enter Try.func5, Try.ntmps5
  go_wp2_with fail
  generalize hw0 : w.alloc (.cells #[.int .i64 kind, .slice a len cap] 24) = w0 at *
  have HO0 : Hid (Only (fun _ => False) w w0) := Lib.hid (by rw [← hw0]; exact HO.out _)
  clear hw0
  refine (HTM.out _ HO0.out).mono ?_
  rintro _ w1 ⟨g, cp, rfl, hrd1, hcp1, hg1, ho1⟩
  have k0 := ho1.cell' HBX.out.1 (fun f => f)
  have k1 := ho1.cell' HBX.out.2 (fun f => f)
  have hlt1 : w.heap.size < w1.heap.size := World.block_lt_of_cell? w1 _ k0
  have f0 := (ho1.frozen (p := ⟨w.heap.size, 0, none⟩) HBF.out.2.2 (fun f => f)).trans HBF.out.1
  have f1 := (ho1.frozen (p := ⟨w.heap.size, 1, none⟩) HBF.out.2.2 (fun f => f)).trans HBF.out.2.1
  have HE := Lib.hid (set_two (x := .int .i64 kind) (y := .slice (some ⟨g, 0, none⟩) l'.length cp) k0 k1)
  have HS : Hid (Only (fun q => q = w.heap.size) w1 ((w1.setCell ⟨w.heap.size, 0, none⟩ (.int .i64 kind)).setCell ⟨w.heap.size, 1, none⟩ (.slice (some ⟨g, 0, none⟩) l'.length cp))) := Lib.hid (((Only.refl (fun q => q = w.heap.size) w1).setCell (p := ⟨w.heap.size, 0, none⟩) (.inl rfl) _).setCell (p := ⟨w.heap.size, 1, none⟩) (.inl rfl) _)
  have e0 : ((w1.setCell ⟨w.heap.size, 0, none⟩ (.int .i64 kind)).setCell ⟨w.heap.size, 1, none⟩ (.slice (some ⟨g, 0, none⟩) l'.length cp)).cell? ⟨w.heap.size, 0, none⟩ = some (.int .i64 kind) := by rw [cell_other (off_ne (by omega))]; exact HE.out.1
  have e1 := HE.out.2
  have HRD1 : Hid (ReadsL ((w1.setCell ⟨w.heap.size, 0, none⟩ (.int .i64 kind)).setCell ⟨w.heap.size, 1, none⟩ (.slice (some ⟨g, 0, none⟩) l'.length cp)) (some ⟨g, 0, none⟩) l'.length l') := Lib.hid (hrd1.only HS.out (fun x hx e => by injection hx with hx; subst hx; have e : g = w.heap.size := e; have := HBF.out.2.2; omega))
  have HO1 : Hid (Only (fun _ => False) w ((w1.setCell ⟨w.heap.size, 0, none⟩ (.int .i64 kind)).setCell ⟨w.heap.size, 1, none⟩ (.slice (some ⟨g, 0, none⟩) l'.length cp))) := Lib.hid ((HO0.out.trans ho1).then HS.out (fun q hq e => by omega))
  clear hrd1 hcp1 hg1 ho1
  go_wp2_with fail
  generalize (w1.setCell ⟨w.heap.size, 0, none⟩ (.int .i64 kind)).setCell ⟨w.heap.size, 1, none⟩ (.slice (some ⟨g, 0, none⟩) l'.length cp) = wA at *
  clear k0 k1 hlt1 f0 f1 HE HS HBX HBF HTM HO HO0
  have HE0 := Lib.hid (And.intro e0 e1)
  have HLN := Lib.hid hlen
  refine (to_any kind _ _ cp l' wA HRD1.out HLN.out).mono ?_
  rintro _ w2 ⟨a3, cp3, rfl, hrd3, hcp3, hn3, ho3⟩
  have m0 := ho3.cell' e0 (fun f => f)
  have m1 := ho3.cell' e1 (fun f => f)
  have HO2 := Lib.hid (HO1.out.trans ho3)
  have HRD2 := Lib.hid (HRD1.out.only ho3 (fun _ _ f => f))
  have HR3 := Lib.hid hrd3
  have HN3 := Lib.hid hn3
  clear hrd3 hcp3 hn3 ho3 e0 e1
  go_wp2_with fail
  refine (opp_any kind a3 cp3 l' _ (HR3.out.only ((Only.refl (fun _ => False) w2).alloc _) (fun _ _ f => f)) (by have := HLN.out; omega) HN3.out).mono ?_
  rintro _ w4 ⟨a4, cp4, rfl, hrd4, hcp4, hn4, ho4⟩
  have hol := opp_len l'
  rw [hol] at hrd4 ⊢
  have HX : Hid (w4.cell? ⟨w2.heap.size, 0, none⟩ = some (.int .i64 kind) ∧ w4.cell? ⟨w2.heap.size, 1, none⟩ = some (.slice a3 l'.length cp3)) := Lib.hid ⟨ho4.cell' (alloc_new _ _ _ _ _ _ rfl rfl) (fun f => f), ho4.cell' (alloc_new _ _ _ _ _ _ rfl rfl) (fun f => f)⟩
  have HA4 := Lib.hid (((Only.refl (fun _ => False) w2).alloc (.cells #[.int .i64 kind, .slice a3 l'.length cp3] 28)).trans ho4)
  have HM4 : Hid (w4.cell? ⟨w.heap.size, 0, none⟩ = some (.int .i64 kind) ∧ w4.cell? ⟨w.heap.size, 1, none⟩ = some (.slice (some ⟨g, 0, none⟩) l'.length cp)) := Lib.hid ⟨HA4.out.cell' m0 (fun f => f), HA4.out.cell' m1 (fun f => f)⟩
  have HO4 := Lib.hid (HO2.out.trans HA4.out)
  have HE4 := Lib.hid (HRD2.out.only HA4.out (fun _ _ f => f))
  have HX4 := Lib.hid (HR3.out.only HA4.out (fun _ _ f => f))
  have HY4 := Lib.hid hrd4
  have HN4 : Hid (opp l' = [] → a4 = none ∧ cp4 = 0) := Lib.hid hn4
  clear ho4 hrd4 hcp4 hn4 m0 m1 hol HE0
  go_wp2_with fail
  refine (ents_any _).mono ?_
  rintro _ w5 ⟨rfl, ho5⟩
  have HA5 := Lib.hid (((Only.refl (fun _ => False) w4).alloc (.cells #[.int .i64 kind, .slice a4 l'.length cp4] 28)).trans ho5)
  have HY5 : Hid (w5.cell? ⟨w4.heap.size, 0, none⟩ = some (.int .i64 kind) ∧ w5.cell? ⟨w4.heap.size, 1, none⟩ = some (.slice a4 l'.length cp4)) := Lib.hid ⟨ho5.cell' (alloc_new _ _ _ _ _ _ rfl rfl) (fun f => f), ho5.cell' (alloc_new _ _ _ _ _ _ rfl rfl) (fun f => f)⟩
  have HCL : Hid (∀ w', Only (fun _ => False) w5 w' → w'.cell? ⟨w.heap.size, 0, none⟩ = some (.int .i64 kind) ∧ w'.cell? ⟨w.heap.size, 1, none⟩ = some (.slice (some ⟨g, 0, none⟩) l'.length cp) ∧ w'.cell? ⟨w2.heap.size, 0, none⟩ = some (.int .i64 kind) ∧ w'.cell? ⟨w2.heap.size, 1, none⟩ = some (.slice a3 l'.length cp3) ∧ w'.cell? ⟨w4.heap.size, 0, none⟩ = some (.int .i64 kind) ∧ w'.cell? ⟨w4.heap.size, 1, none⟩ = some (.slice a4 l'.length cp4)) := Lib.hid (fun w' ho =>
    ⟨(HA5.out.trans ho).cell' HM4.out.1 (fun f => f), (HA5.out.trans ho).cell' HM4.out.2 (fun f => f), (HA5.out.trans ho).cell' HX.out.1 (fun f => f), (HA5.out.trans ho).cell' HX.out.2 (fun f => f), ho.cell' HY5.out.1 (fun f => f), ho.cell' HY5.out.2 (fun f => f)⟩)
  have HEX : Hid (∀ w', Only (fun _ => False) w5 w' → ReadsL w' (some ⟨g, 0, none⟩) l'.length l' ∧ ReadsL w' a3 l'.length l' ∧ ReadsL w' a4 l'.length (opp l')) := Lib.hid (fun w' ho =>
    ⟨HE4.out.only (HA5.out.trans ho) (fun _ _ f => f), HX4.out.only (HA5.out.trans ho) (fun _ _ f => f), HY4.out.only (HA5.out.trans ho) (fun _ _ f => f)⟩)
  have HO5 := Lib.hid (HO4.out.trans HA5.out)
  have hc5 := HCL.out w5 (Only.refl _ _)
  obtain ⟨_, _, _, x1, _, y1⟩ := hc5
  clear ho5 HA5 HY5 HM4 HX HE4 HX4 HY4 HO4 HR3 HN3 HRD2 HO2 HA4 HO1 HRD1
  go_wp2_with fail
  clear x1 y1
  generalize hmm : l'.length = m at *
  have HMM := Lib.hid hmm
  clear hmm
  go_loopw [5] (fun i wr => ∃ k : Nat, k ≤ m ∧ i = .int .i64 k ∧ Hid (Only (fun _ => False) w5 wr)) (fun i _ => m - (intOf i).toNat)
  case atStart => exact ⟨0, by omega, rfl, Lib.hid (Only.refl _ _)⟩
  case round =>
    obtain ⟨k, hk, rfl, HW⟩ := hrel
    obtain ⟨_, _, _, x1, _, y1⟩ := HCL.out wr HW.out
    by_cases h8 : k < m
    · obtain ⟨_, hrx, hry⟩ := HEX.out wr HW.out
      obtain ⟨b3, off3, rfl, hcx⟩ := hrx.2.2.2.resolve_left (by omega)
      obtain ⟨b4, off4, rfl, hcy⟩ := hry.2.2.2.resolve_left (by omega)
      obtain ⟨c0, c1, c2, c3⟩ := hcx k h8
      obtain ⟨d0, d1, d2, d3⟩ := hcy k h8
      have hlk : k < l'.length := by rw [HMM.out]; exact h8
      rw [opp_get l' k hlk] at d0 d1 d2 d3
      have hla := (HIN.out _ (getL_mem l' k hlk)).2.2.2
      have hk0 : (0 : Int) ≤ (k : Int) := by omega
      have hkm : (k : Int) < (m : Int) := by omega
      have hm70 : m ≤ 70 := by have := HLN.out; omega
      generalize l'.getD k default = l at *
      obtain ⟨lk, ln, lg, la⟩ := l
      dsimp only at c0 c1 c2 c3 d0 d1 d2 d3 hla
      have hwn := neg_wrap la hla
      generalize negI la = y at *
      clear hrx hry hcx hcy hla hlk
      go_wp2_with fail
      go_quiet (fail)
      go_wp2_with fail
      exact ⟨⟨k + 1, by omega, by go_num, Lib.hid (only_drewN HW.out _)⟩, by simp [intOf]; omega⟩
    · obtain rfl : k = m := by omega
      clear x1 y1
      have HS0 : Hid (∀ w', Only (fun _ => False) wr w' → Only (fun _ => False) wr w' ∧ w'.cell? ⟨w.heap.size, 0, none⟩ = some (.int .i64 kind) ∧ w'.cell? ⟨w.heap.size, 1, none⟩ = some (.slice (some ⟨g, 0, none⟩) k cp) ∧ w'.cell? ⟨w2.heap.size, 0, none⟩ = some (.int .i64 kind) ∧ w'.cell? ⟨w2.heap.size, 1, none⟩ = some (.slice a3 k cp3) ∧ w'.cell? ⟨w4.heap.size, 0, none⟩ = some (.int .i64 kind) ∧ w'.cell? ⟨w4.heap.size, 1, none⟩ = some (.slice a4 k cp4)) := Lib.hid (fun w' ho => ⟨ho, HCL.out w' (HW.out.trans ho)⟩)
      have hol : (opp l').length = k := (opp_len l').trans HMM.out
      have hk70 : k ≤ 70 := by have := HLN.out; omega
      have HOPP : Hid (∀ w', Only (fun _ => False) wr w' → Calls Try.prog 25 #[.agg #[.int .i64 kind, .slice a4 k cp4]] w' (LegsMade kind l' w')) := Lib.hid (fun w' ho => by
        have := opp_any kind a4 cp4 (opp l') w' (by rw [hol]; exact (HEX.out w' (HW.out.trans ho)).2.2) (by rw [hol]; omega) HN4.out
        rw [opp_opp l' HIN.out, hol] at this
        exact this)
      have HFROM : Hid (∀ w' a' cp', ReadsL w' a' l'.length l' → Calls Try.prog 19 #[.agg #[.int .i64 kind, .slice a' l'.length cp']] w' (LegsMade kind l' w')) := Lib.hid (fun w' a' cp' hr => from_any kind a' l'.length cp' l' w' hr (by rw [HMM.out]; omega))
      have HSAME : Hid (∀ w' a' cp', ReadsL w' a' l'.length l' → Only (fun _ => False) wr w' → Calls Try.prog 18 #[.agg #[.int .i64 kind, .slice a' l'.length cp'], .agg #[.int .i64 kind, .slice (some ⟨g, 0, none⟩) k cp]] w' fun e w'' => e = .returned (.bool true) ∧ Only (fun _ => False) w' w'') := Lib.hid (fun w' a' cp' hr ho => by
        have := same_yes kind a' (some ⟨g, 0, none⟩) l'.length cp' cp l' w' hr (by rw [HMM.out]; exact (HEX.out w' (HW.out.trans ho)).1)
        rw [HMM.out] at this ⊢
        exact this)
      have HF : Hid (Only (fun _ => False) w wr) := Lib.hid (HO5.out.trans HW.out)
      have hiff := opp_chk kind l' (fun l hl => (HIN.out l hl).2.2.2)
      have HCX := Lib.hid (fun w' (ho : Only (fun _ => False) wr w') => check_any kind a3 k cp3 l' w' (HEX.out w' (HW.out.trans ho)).2.1)
      have HCY := Lib.hid (fun w' (ho : Only (fun _ => False) wr w') => check_any kind a4 k cp4 (opp l') w' (HEX.out w' (HW.out.trans ho)).2.2)
      generalize chk kind l' = q1 at *
      generalize chk kind (opp l') = q2 at *
      obtain ⟨_, z1, z2, z3, z4, z5, z6⟩ := HS0.out wr (Only.refl _ _)
      by_cases hq : q1 = 0
      · have hq2 := hiff.2 hq
        subst hq hq2
        clear hiff
        go_wp2_with fail
        go_region_held3 (fun w' => Only (fun _ => False) wr w' ∧ w'.cell? ⟨w.heap.size, 0, none⟩ = some (.int .i64 kind) ∧ w'.cell? ⟨w.heap.size, 1, none⟩ = some (.slice (some ⟨g, 0, none⟩) k cp) ∧ w'.cell? ⟨w2.heap.size, 0, none⟩ = some (.int .i64 kind) ∧ w'.cell? ⟨w2.heap.size, 1, none⟩ = some (.slice a3 k cp3) ∧ w'.cell? ⟨w4.heap.size, 0, none⟩ = some (.int .i64 kind) ∧ w'.cell? ⟨w4.heap.size, 1, none⟩ = some (.slice a4 k cp4))
          ((refine HS0.out _ ?_; first | exact (Only.refl _ _).drew | exact Only.refl _ _ | (go_split_ands; exact Only.trans (by assumption) ho)))
          (first | (go_at_call 25; (with_reducible refine (HOPP.out _ (by go_split_ands; assumption)).mono ?_); rintro _ wn ⟨an, cn, rfl, hrn, _, _, ho⟩) | (go_at_call 19; (with_reducible refine (HFROM.out _ _ _ (by assumption)).mono ?_); rintro _ wn ⟨an, cn, rfl, hrn, _, _, ho⟩) | (go_at_call 18; (with_reducible refine (HSAME.out _ _ _ (by assumption) (by go_split_ands; assumption)).mono ?_); rintro _ wn ⟨rfl, ho⟩) | (go_at_call 16; (with_reducible refine (HCX.out _ (by go_split_ands; assumption)).mono ?_); rintro _ wn ⟨rfl, ho⟩) | (go_at_call 16; (with_reducible refine (HCY.out _ (by go_split_ands; assumption)).mono ?_); rintro _ wn ⟨rfl, ho⟩))
        have HFF : Hid (Only (fun _ => False) wr wn) := Lib.hid (by go_split_ands; assumption)
        go_wp2_with fail
        go_ret
        exact ⟨rfl, HF.out.trans HFF.out⟩
      · have hq2 : ¬ q2 = 0 := fun e => hq (hiff.1 e)
        have b1 : (q1 == 0) = false := by simpa using hq
        have b2 : (q2 == 0) = false := by simpa using hq2
        clear hiff hq hq2
        go_wp2_with fail
        go_region_held3 (fun w' => Only (fun _ => False) wr w' ∧ w'.cell? ⟨w.heap.size, 0, none⟩ = some (.int .i64 kind) ∧ w'.cell? ⟨w.heap.size, 1, none⟩ = some (.slice (some ⟨g, 0, none⟩) k cp) ∧ w'.cell? ⟨w2.heap.size, 0, none⟩ = some (.int .i64 kind) ∧ w'.cell? ⟨w2.heap.size, 1, none⟩ = some (.slice a3 k cp3) ∧ w'.cell? ⟨w4.heap.size, 0, none⟩ = some (.int .i64 kind) ∧ w'.cell? ⟨w4.heap.size, 1, none⟩ = some (.slice a4 k cp4))
          ((refine HS0.out _ ?_; first | exact (Only.refl _ _).drew | exact Only.refl _ _ | (go_split_ands; exact Only.trans (by assumption) ho)))
          (first | (go_at_call 25; (with_reducible refine (HOPP.out _ (by go_split_ands; assumption)).mono ?_); rintro _ wn ⟨an, cn, rfl, hrn, _, _, ho⟩) | (go_at_call 19; (with_reducible refine (HFROM.out _ _ _ (by assumption)).mono ?_); rintro _ wn ⟨an, cn, rfl, hrn, _, _, ho⟩) | (go_at_call 18; (with_reducible refine (HSAME.out _ _ _ (by assumption) (by go_split_ands; assumption)).mono ?_); rintro _ wn ⟨rfl, ho⟩) | (go_at_call 16; (with_reducible refine (HCX.out _ (by go_split_ands; assumption)).mono ?_); rintro _ wn ⟨rfl, ho⟩) | (go_at_call 16; (with_reducible refine (HCY.out _ (by go_split_ands; assumption)).mono ?_); rintro _ wn ⟨rfl, ho⟩))
        have HFF : Hid (Only (fun _ => False) wr wn) := Lib.hid (by go_split_ands; assumption)
        go_wp2_with fail
        go_ret
        exact ⟨rfl, HF.out.trans HFF.out⟩

theorem turns_walk (kind : Int) (a : Option Addr) (len cap : Nat) (ls : List Lg) (w : World) (h : LegsR w a len cap ls) :
    Calls Try.prog 5 #[.agg #[.int .i64 kind, .slice a len cap]] w fun e w' => e = .returned (.bool true) ∧ Below w.heap.size w w' :=
  (turns_any kind a len cap ls w h).mono fun _ _ ⟨h1, h2⟩ => ⟨h1, h2.none⟩
end Go.Proofs.Ytlmkkpfhapkflab.entw
