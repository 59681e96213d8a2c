/- Several texts together: EntR. -/
import Derived.Test.YtkbaafgaaiekpaaGreatPeriodRestoresZ7
open Go.Lib (hid)
namespace Go.Proofs.YtkbaafgaaiekpaaGreat.entw
open Go.RowKit mem entm
set_option linter.unusedVariables false
theorem kind_cases {k : Int} (h : kindB k = false) : k < 1 ∨ (1 ≤ k ∧ 6 < k) := by
  unfold kindB at h; simp at h; omega
theorem kind_in {k : Int} (h : kindB k = true) : 1 ≤ k ∧ k ≤ 6 := by
  unfold kindB at h
  simpa using h
theorem amt_cases {a : Int} (h : amtB a = false) : a = 0 ∨ (a ≠ 0 ∧ a < -9007199254740992) ∨ (a ≠ 0 ∧ -9007199254740992 ≤ a ∧ 9007199254740992 < a) := by
  unfold amtB at h; simp at h; omega
set_option maxHeartbeats 9000000 in
attribute [local go_sem ↓] Go.wp_at_zero Go.wp_at_succ in
theorem rcheck_any (kind : Int) (a : Option Addr) (len cap : Nat) (ls : List Lg) (w : World) (h : ReadsL w a len ls) :
    Calls Tryz.prog 69 #[.agg #[.int .i64 kind, .slice a len cap]] w fun e w' => e = .returned (.int .i64 (chk kind ls)) ∧ Only (fun _ => False) w w' := by
  have hm := h.2.1; have H := hid h; have HL := hid h.1; clear h; have HO : Hid (∀ o, Only (fun _ => False) w (w.alloc o)) := hid (fun o => (Only.refl _ w).alloc o)
  cases hk : kindB kind with
  | false =>
    have HR : Hid (chk kind ls = 21) := hid (by unfold chk; rw [if_pos hk]); rcases kind_cases hk with h1 | ⟨h1, h2⟩
    all_goals
      clear hk; go_enter Tryz.func69, Tryz.ntmps69
      (go_wp2_with fail); rw [HR.out]; go_ret
      exact ⟨rfl, HO.out _⟩
  | true =>
    have HK := hid hk; obtain ⟨hk1, hk6⟩ := kind_in hk; clear hk
    by_cases h2 : len < 2
    · have HR : Hid (chk kind ls = 1) := hid (by unfold chk; rw [HK.out, if_neg (by simp), if_pos (.inl (by rw [HL.out]; exact h2))]); go_enter Tryz.func69, Tryz.ntmps69
      (go_wp2_with fail); rw [HR.out]; go_ret
      exact ⟨rfl, HO.out _⟩
    · by_cases h64 : 64 < len
      · have HR : Hid (chk kind ls = 1) := hid (by unfold chk; rw [HK.out, if_neg (by simp), if_pos (.inr (by rw [HL.out]; exact h64))]); go_enter Tryz.func69, Tryz.ntmps69
        (go_wp2_with fail); rw [HR.out]; go_ret
        exact ⟨rfl, HO.out _⟩
      · obtain ⟨b, off, rfl, hcell⟩ := H.out.2.2.2.resolve_left (by omega); have HC := hid hcell; have HR : Hid (chk kind ls = chkF none 0 ls) := hid (by unfold chk; rw [HK.out, if_neg (by simp), if_neg (by rw [HL.out]; omega)]); have hbw : b < w.heap.size := World.block_lt_of_cell? w _ (hcell 0 (by omega)).1; clear hcell; rw [HR.out]; go_enter Tryz.func69, Tryz.ntmps69
        (go_wp2_with fail); obtain ⟨w0, hw0⟩ : ∃ w0, w0 = w.alloc (Obj.cells #[Value.int IntKind.i64 kind, Value.slice (some { block := b, off := off, spot := none }) len cap] 75) := ⟨_, rfl⟩; have hbx : w0.cell? ⟨w.heap.size, 1, none⟩ = some (.slice (some ⟨b, off, none⟩) len cap) := (by rw [hw0]; exact alloc_new _ _ _ _ _ _ rfl rfl); have HO0 : Hid (Only (fun _ => False) w w0) := (by rw [hw0]; exact hid ((Only.refl _ w).alloc _)); have hsz0 : w0.heap.size = w.heap.size + 1 := (by rw [hw0, size_alloc]); rw [← hw0]; have HSZ := hid hsz0; have HBX := hid hbx; clear hw0 hsz0 hbx
        go_loopw [3, 4] (fun sv i wr => ∃ (k : Nat) (s : Int), k ≤ len ∧ i = .int .i64 k ∧ sv = .int .i64 s ∧ Hid (chkF (prv ls k) s (ls.drop k) = chkF none 0 ls) ∧ Hid (-9007199254740992 * (k : Int) ≤ s ∧ s ≤ 9007199254740992 * (k : Int)) ∧ Hid (Only (fun _ => False) w0 wr)) (fun _ i _ => len - (intOf i).toNat)
        case atStart => exact ⟨0, 0, by omega, rfl, rfl, hid rfl, hid (by omega), hid (Only.refl _ _)⟩
        case round =>
          obtain ⟨k, s, hk, rfl, rfl, HP, HS, HW⟩ := hrel; have hbx := HW.out.cell' HBX.out (fun f => f)
          by_cases h8 : k < len
          · have hst := HP.out; rw [chk_step (by rw [HL.out]; exact h8)] at hst; have HST := hid hst; have HWr : Hid (Only (fun _ => False) w wr) := hid (HO0.out.trans HW.out); obtain ⟨hc0, hc1, hc2, hc3⟩ := HC.out k h8; have c0 := HWr.out.cell' hc0 (fun f => f); have c1 := HWr.out.cell' hc1 (fun f => f); have c2 := HWr.out.cell' hc2 (fun f => f); have c3 := HWr.out.cell' hc3 (fun f => f); clear hst hc0 hc1 hc2 hc3; have HPV : Hid (k ≠ 0 → prv ls k = some (ls.getD (k - 1) default)) := hid (fun e => by unfold prv; rw [if_neg e]); have HPC : Hid (k ≠ 0 → wr.cell? ⟨b, off + (k - 1) * 4, none⟩ = some (.int .i64 (ls.getD (k - 1) default).k) ∧ wr.cell? ⟨b, off + (k - 1) * 4 + 1, none⟩ = some (.int .i64 (ls.getD (k - 1) default).n) ∧ wr.cell? ⟨b, off + (k - 1) * 4 + 2, none⟩ = some (.int .i64 (ls.getD (k - 1) default).g) ∧ wr.cell? ⟨b, off + (k - 1) * 4 + 3, none⟩ = some (.int .i64 (ls.getD (k - 1) default).a)) := hid (fun e => by
              obtain ⟨p0, p1, p2, p3⟩ := HC.out (k - 1) (by omega); exact ⟨HWr.out.cell' p0 (fun f => f), HWr.out.cell' p1 (fun f => f), HWr.out.cell' p2 (fun f => f), HWr.out.cell' p3 (fun f => f)⟩)
            generalize ls.getD k default = l at *; obtain ⟨lk, ln, lg, la⟩ := l; dsimp only at c0 c1 c2 c3
            cases hA : accB ⟨lk, ln, lg, la⟩ with
            | false =>
              have hst := HST.out; rw [hA, if_pos rfl] at hst; have HR1 := hid hst; have HA := hid hA; clear hst hA; (go_wp2_with fail); refine (raccount_any _ _ _ _ _).mono ?_; rintro _ w1 ⟨rfl, ho1⟩; have HO1 : Hid (Only (fun _ => False) w w1) := hid ((HWr.out.alloc _).trans ho1); rw [HA.out]; clear ho1; (go_wp2_with fail); rw [← HR1.out]; go_ret
              exact ⟨rfl, HO1.out⟩
            | true =>
              have HA := hid hA; have hst := HST.out; rw [hA, if_neg (by simp)] at hst
              cases hB : amtB la with
              | false =>
                rw [show amtB (Lg.mk lk ln lg la).a = false from hB, if_pos rfl] at hst
                have HR1 := hid hst; clear hst hA; rcases amt_cases hB with rfl | ⟨hn, hb⟩ | ⟨hn, hb, hb2⟩
                all_goals
                  (try (have hn0 : (la == 0) = false := by simpa using hn)); clear hB; (go_wp2_with fail); refine (raccount_any _ _ _ _ _).mono ?_; rintro _ w1 ⟨rfl, ho1⟩; have l3 := ho1.cell' (alloc_new wr #[.int .i64 lk, .int .i64 ln, .int .i64 lg, .int .i64 _] 94 _ 3 _ rfl rfl) (fun f => f); have HO1 : Hid (Only (fun _ => False) w w1) := hid ((HWr.out.alloc _).trans ho1); rw [HA.out]; clear ho1; (go_wp2_with fail); rw [← HR1.out]; go_ret
                  exact ⟨rfl, HO1.out⟩
              | true =>
                rw [show amtB (Lg.mk lk ln lg la).a = true from hB, if_neg (by simp)] at hst
                have HAM := hid (amt_bound hB); have HST2 := hid hst; have HS2 : Hid (-9007199254740992 * ((k + 1 : Nat) : Int) ≤ s + la ∧ s + la ≤ 9007199254740992 * ((k + 1 : Nat) : Int)) := hid (by have := HS.out; have := HAM.out; omega); have h64' : k < 64 := (by omega); have hsb : -1152921504606846976 ≤ s ∧ s ≤ 1152921504606846976 := (by have := HS.out; omega); have hlb1 : -9007199254740992 ≤ la := HAM.out.1; have hlb2 : la ≤ 9007199254740992 := HAM.out.2.1; have hn0 : (la == 0) = false := (by simpa using HAM.out.2.2); clear hst hA hB; (go_wp2_with fail); refine (raccount_any _ _ _ _ _).mono ?_; rintro _ w1 ⟨rfl, ho1⟩; have l0 : w1.cell? ⟨wr.heap.size, 0, none⟩ = some (.int .i64 lk) := ho1.cell' (alloc_new _ _ _ _ _ _ rfl rfl) (fun f => f); have l1 : w1.cell? ⟨wr.heap.size, 1, none⟩ = some (.int .i64 ln) := ho1.cell' (alloc_new _ _ _ _ _ _ rfl rfl) (fun f => f); have l2 : w1.cell? ⟨wr.heap.size, 2, none⟩ = some (.int .i64 lg) := ho1.cell' (alloc_new _ _ _ _ _ _ rfl rfl) (fun f => f); have l3 : w1.cell? ⟨wr.heap.size, 3, none⟩ = some (.int .i64 la) := ho1.cell' (alloc_new _ _ _ _ _ _ rfl rfl) (fun f => f); have HO1 : Hid (Only (fun _ => False) wr w1) := hid (((Only.refl _ wr).alloc _).trans ho1); have hbx1 := HO1.out.cell' hbx (fun f => f); rw [HA.out]; clear ho1 hbx c0 c1 c2 c3
                by_cases hk0 : k = 0
                · subst hk0; have hst := HST2.out; rw [show ahd (prv ls 0) ⟨lk, ln, lg, la⟩ = false from rfl, if_neg (by simp)] at hst
                  have HN := hid hst; have HOn : Hid (Only (fun _ => False) w0 w1) := hid (HW.out.trans HO1.out); clear hst; go_wp2_with fail
                  go_quiet (fail)
                  (go_wp2_with fail); exact ⟨⟨0 + 1, s + la, by omega, by go_num, rfl, HN, HS2, hid (only_drewN HOn.out _)⟩, by simp [intOf]; omega⟩
                · have hkN : 0 < k := (by omega); have hkD : decide (0 < k) = true := (by simpa using hkN); have hkm : IntKind.i64.wrap ((k : Int) - 1) = ((k - 1 : Nat) : Int) := (by rw [IntKind.wrap_i64]; omega); have hk1 : (0 : Int) ≤ ((k - 1 : Nat) : Int) := (by omega); have hk2 : ((k - 1 : Nat) : Int) < (len : Int) := (by omega); obtain ⟨p0, p1, p2, p3⟩ := HPC.out hk0; have q0 := HO1.out.cell' p0 (fun f => f); have q1 := HO1.out.cell' p1 (fun f => f); have q2 := HO1.out.cell' p2 (fun f => f); have q3 := HO1.out.cell' p3 (fun f => f); have hst := HST2.out; rw [HPV.out hk0] at hst; generalize ls.getD (k - 1) default = q at *; obtain ⟨qk, qn, qg, qa⟩ := q; dsimp only at q0 q1 q2 q3; have HST3 := hid hst; clear hst p0 p1 p2 p3; generalize k - 1 = j at *; have hcm := rises_any ⟨qk, qn, qg, qa⟩ ⟨lk, ln, lg, la⟩; have HOn : Hid (Only (fun _ => False) w0 w1) := hid (HW.out.trans HO1.out); have HOw : Hid (Only (fun _ => False) w w1) := hid (HO0.out.trans HOn.out)
                  by_cases hc : ltA ⟨qk, qn, qg, qa⟩ ⟨lk, ln, lg, la⟩
                  · have hst := HST3.out; rw [show ahd (some ⟨qk, qn, qg, qa⟩) ⟨lk, ln, lg, la⟩ = false from by unfold ahd; simp [hc], if_neg (by simp)] at hst
                    have HN := hid hst; rw [show ltB ⟨qk, qn, qg, qa⟩ ⟨lk, ln, lg, la⟩ = true from decide_eq_true hc] at hcm
                    have HCM := hid hcm; clear hst HST2 HST3 HST HP hcm hc; go_wp2_with fail
                    go_region_held3 (fun w' => w'.cell? ⟨w.heap.size, 1, none⟩ = some (.slice (some ⟨b, off, none⟩) len cap) ∧ w'.cell? ⟨b, off + j * 4, none⟩ = some (.int .i64 qk) ∧ w'.cell? ⟨b, off + j * 4 + 1, none⟩ = some (.int .i64 qn) ∧ w'.cell? ⟨b, off + j * 4 + 2, none⟩ = some (.int .i64 qg) ∧ w'.cell? ⟨b, off + j * 4 + 3, none⟩ = some (.int .i64 qa) ∧ w'.cell? ⟨wr.heap.size, 0, none⟩ = some (.int .i64 lk) ∧ w'.cell? ⟨wr.heap.size, 1, none⟩ = some (.int .i64 ln) ∧ w'.cell? ⟨wr.heap.size, 2, none⟩ = some (.int .i64 lg) ∧ w'.cell? ⟨wr.heap.size, 3, none⟩ = some (.int .i64 la)) (first | go_keep | (go_split_ands; refine ⟨?_, ?_, ?_, ?_, ?_, ?_, ?_, ?_, ?_⟩ <;> (refine hg2.cell' ?_ (fun f => f); assumption)))
                      ((go_at_call 68; (with_reducible refine (HCM.out _).mono ?_); rintro _ w2 ⟨rfl, hg2⟩))
                    have l32 := hg2.cell' (p := ⟨wr.heap.size, 3, none⟩) l3 (fun f => f); have HO2 := hid (HOn.out.drew.trans hg2); clear hg2; (go_wp2_with fail); go_roundw
                    case rel => exact ⟨k + 1, _, by omega, by go_num, rfl, HN, HS2, HO2⟩
                    case measure => simp [intOf]; omega
                  · have hst := HST3.out; rw [show ahd (some ⟨qk, qn, qg, qa⟩) ⟨lk, ln, lg, la⟩ = true from by unfold ahd; rw [decide_eq_true_eq]; exact hc, if_pos rfl] at hst
                    have HN := hid hst; rw [show ltB ⟨qk, qn, qg, qa⟩ ⟨lk, ln, lg, la⟩ = false from decide_eq_false hc] at hcm
                    have HCM := hid hcm; clear hst HST2 HST3 HST HP hcm hc; go_wp2_with fail
                    go_region_held3 (fun w' => w'.cell? ⟨w.heap.size, 1, none⟩ = some (.slice (some ⟨b, off, none⟩) len cap) ∧ w'.cell? ⟨b, off + j * 4, none⟩ = some (.int .i64 qk) ∧ w'.cell? ⟨b, off + j * 4 + 1, none⟩ = some (.int .i64 qn) ∧ w'.cell? ⟨b, off + j * 4 + 2, none⟩ = some (.int .i64 qg) ∧ w'.cell? ⟨b, off + j * 4 + 3, none⟩ = some (.int .i64 qa) ∧ w'.cell? ⟨wr.heap.size, 0, none⟩ = some (.int .i64 lk) ∧ w'.cell? ⟨wr.heap.size, 1, none⟩ = some (.int .i64 ln) ∧ w'.cell? ⟨wr.heap.size, 2, none⟩ = some (.int .i64 lg) ∧ w'.cell? ⟨wr.heap.size, 3, none⟩ = some (.int .i64 la)) (first | go_keep | (go_split_ands; refine ⟨?_, ?_, ?_, ?_, ?_, ?_, ?_, ?_, ?_⟩ <;> (refine hg2.cell' ?_ (fun f => f); assumption)))
                      ((go_at_call 68; (with_reducible refine (HCM.out _).mono ?_); rintro _ w2 ⟨rfl, hg2⟩))
                    have HO2 := hid (HOw.out.drew.trans hg2); clear hg2; (go_wp2_with fail); rw [← HN.out]; go_ret
                    exact ⟨rfl, HO2.out⟩
          · obtain rfl : k = len := (by omega); have HE : Hid (chkF none 0 ls = if s = 0 then 0 else 20) := hid (by
              have := HP.out; rw [List.drop_eq_nil_of_le (by rw [HL.out]; omega)] at this; rw [← this]; unfold chkF; rfl)
            have HF : Hid (Only (fun _ => False) w wr) := hid (HO0.out.trans HW.out)
            by_cases hs : s = 0
            · subst hs; (go_wp2_with fail); rw [HE.out]; go_ret
              exact ⟨rfl, HF.out⟩
            · have hs1 : (s == 0) = false := (by simpa using hs); have hs2 : (s != 0) = true := (by simpa using hs); have HE2 : Hid (chkF none 0 ls = 20) := hid (by rw [HE.out, if_neg hs]); clear hs; (go_wp2_with fail); rw [HE2.out]; go_ret
              exact ⟨rfl, HF.out⟩
end Go.Proofs.YtkbaafgaaiekpaaGreat.entw
