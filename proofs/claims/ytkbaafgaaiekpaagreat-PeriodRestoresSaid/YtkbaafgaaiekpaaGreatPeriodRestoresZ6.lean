/- Several texts together: EntB, EntC, EntD, EntE, AcO. -/
import Derived.Test.YtkbaafgaaiekpaaGreatPeriodRestoresZ2
import Derived.Test.YtkbaafgaaiekpaaGreatPeriodRestoresZ5
import Derived.RegionTactic
import Derived.ChangeAlike
import Derived.BigRegion
import Derived.Shelf.SlSortCmp.NoneTotal
import Derived.Sort.Grow
import Derived.Deep.RegionHeld3
import Derived.Deep.DrawnRows
import Derived.Deep.QuietTactic
import Derived.BigQuiet
open Go.Lib (hid)
namespace Go.Proofs.YtkbaafgaaiekpaaGreat.entw
open Go.RowKit mem entm
set_option linter.unusedVariables false
def encL (x : Lg) : List Value := [.int .i64 x.k, .int .i64 x.n, .int .i64 x.g, .int .i64 x.a]
def InI (n : Int) : Prop := -9223372036854775808 ≤ n ∧ n ≤ 9223372036854775807
def ReadsL (w : World) (a : Option Addr) (len : Nat) (ls : List Lg) : Prop :=
  ls.length = len ∧ len ≤ 9223372036854775807 ∧ (∀ l ∈ ls, InI l.k ∧ InI l.n ∧ InI l.g ∧ InI l.a) ∧
  (len = 0 ∨ ∃ b off, a = some ⟨b, off, none⟩ ∧ ∀ i, i < len → w.cell? ⟨b, off + i * 4, none⟩ = some (.int .i64 (ls.getD i default).k) ∧ w.cell? ⟨b, off + i * 4 + 1, none⟩ = some (.int .i64 (ls.getD i default).n) ∧
    w.cell? ⟨b, off + i * 4 + 2, none⟩ = some (.int .i64 (ls.getD i default).g) ∧ w.cell? ⟨b, off + i * 4 + 3, none⟩ = some (.int .i64 (ls.getD i default).a))
theorem ReadsL.only {S : Nat → Prop} {w w' : World} {a : Option Addr} {len : Nat} {ls : List Lg} (h : ReadsL w a len ls) (ho : Only S w w') (hs : ∀ x, a = some x → ¬ S x.block) : ReadsL w' a len ls := by
  obtain ⟨hl, hm, hb', hc⟩ := h; refine ⟨hl, hm, hb', ?_⟩; rcases hc with h0 | ⟨b, off, ha, hcell⟩
  · exact .inl h0
  · have hn : ¬ S b := hs _ ha; refine .inr ⟨b, off, ha, fun i hi => ?_⟩; obtain ⟨h1, h2, h3, h4⟩ := hcell i hi; exact ⟨ho.cell' h1 hn, ho.cell' h2 hn, ho.cell' h3 hn, ho.cell' h4 hn⟩
theorem ReadsL.nil (w : World) (a : Option Addr) : ReadsL w a 0 [] := ⟨rfl, by omega, by simp, .inl rfl⟩
theorem getL_mem (ls : List Lg) (k : Nat) (h : k < ls.length) : ls.getD k default ∈ ls := by
  have : ls.getD k default = ls[k] := (by simp [List.getD, h]); rw [this]; exact List.getElem_mem h
theorem drop_getL (ls : List Lg) (k : Nat) (h : k < ls.length) : ls.drop k = ls.getD k default :: ls.drop (k + 1) := by
  rw [List.drop_eq_getElem_cons h]; simp [List.getD, h]
theorem only_drewN {S : Nat → Prop} {a w : World} (h : Only S a w) (n : Nat) : Only S a (w.drewN n) := ⟨h.os, h.tape, h.output, h.size, h.block⟩
def prv (ls : List Lg) (k : Nat) : Option Lg := if k = 0 then none else some (ls.getD (k - 1) default)
def ahd (p : Option Lg) (l : Lg) : Bool := match p with | none => false | some q => decide (¬ ltA q l)
theorem chk_step {ls : List Lg} {k : Nat} (h : k < ls.length) (s : Int) : chkF (prv ls k) s (ls.drop k) =
    if accB (ls.getD k default) = false then 1 else if amtB (ls.getD k default).a = false then 5 else if ahd (prv ls k) (ls.getD k default) = true then 15 else chkF (prv ls (k + 1)) (s + (ls.getD k default).a) (ls.drop (k + 1)) := by
  rw [drop_getL ls k h]
  conv => lhs; unfold chkF
  unfold ahd prv; rw [if_neg (show ¬ k + 1 = 0 by omega), show k + 1 - 1 = k by omega]; try rfl
set_option maxHeartbeats 9000000 in
attribute [local go_sem ↓] Go.wp_at_zero Go.wp_at_succ in
theorem check_any (kind : Int) (a : Option Addr) (len cap : Nat) (ls : List Lg) (w : World) (h : ReadsL w a len ls) :
    Calls Tryz.prog 71 #[.agg #[.int .i64 kind, .slice a len cap]] w fun e w' => e = .returned (.int .i64 (chk kind ls)) ∧ Only (fun _ => False) w w' := by
  have hm := h.2.1; have H := hid h; have HL := hid h.1; clear h
  cases hk : kindB kind with
  | false =>
    have HR : Hid (chk kind ls = 21) := hid (by unfold chk; rw [if_pos hk]); have HK := hid hk; have HO : Hid (∀ o, Only (fun _ => False) w (w.alloc o)) := hid (fun o => (Only.refl _ w).alloc o); clear hk; go_enter Tryz.func71, Tryz.ntmps71
    (go_wp2_with fail); refine (kind_any _ _).mono ?_; rintro _ _ ⟨rfl, rfl⟩; rw [HK.out]; (go_wp2_with fail); rw [HR.out]; go_ret
    exact ⟨rfl, HO.out _⟩
  | true =>
    have HK := hid hk; have HO : Hid (∀ o, Only (fun _ => False) w (w.alloc o)) := hid (fun o => (Only.refl _ w).alloc o); clear hk
    by_cases h2 : len < 2
    · have HR : Hid (chk kind ls = 1) := hid (by unfold chk; rw [HK.out, if_neg (by simp), if_pos (.inl (by rw [HL.out]; exact h2))]); go_enter Tryz.func71, Tryz.ntmps71
      (go_wp2_with fail); refine (kind_any _ _).mono ?_; rintro _ _ ⟨rfl, rfl⟩; rw [HK.out]; (go_wp2_with fail); rw [HR.out]; go_ret
      exact ⟨rfl, HO.out _⟩
    · by_cases h64 : 64 < len
      · have HR : Hid (chk kind ls = 1) := hid (by unfold chk; rw [HK.out, if_neg (by simp), if_pos (.inr (by rw [HL.out]; exact h64))]); go_enter Tryz.func71, Tryz.ntmps71
        (go_wp2_with fail); refine (kind_any _ _).mono ?_; rintro _ _ ⟨rfl, rfl⟩; rw [HK.out]; (go_wp2_with fail); rw [HR.out]; go_ret
        exact ⟨rfl, HO.out _⟩
      · obtain ⟨b, off, rfl, hcell⟩ := H.out.2.2.2.resolve_left (by omega); have HC := hid hcell; have HR : Hid (chk kind ls = chkF none 0 ls) := hid (by unfold chk; rw [HK.out, if_neg (by simp), if_neg (by rw [HL.out]; omega)]); have hbw : b < w.heap.size := World.block_lt_of_cell? w _ (hcell 0 (by omega)).1; clear hcell; rw [HR.out]; go_enter Tryz.func71, Tryz.ntmps71
        (go_wp2_with fail); refine (kind_any _ _).mono ?_; rintro _ _ ⟨rfl, rfl⟩; rw [HK.out]; (go_wp2_with fail); obtain ⟨w0, hw0⟩ : ∃ w0, w0 = w.alloc (Obj.cells #[Value.int IntKind.i64 kind, Value.slice (some { block := b, off := off, spot := none }) len cap] 67) := ⟨_, rfl⟩; have hbx : w0.cell? ⟨w.heap.size, 1, none⟩ = some (.slice (some ⟨b, off, none⟩) len cap) := (by rw [hw0]; exact alloc_new _ _ _ _ _ _ rfl rfl); have HO0 : Hid (Only (fun _ => False) w w0) := (by rw [hw0]; exact hid ((Only.refl _ w).alloc _)); have hsz0 : w0.heap.size = w.heap.size + 1 := (by rw [hw0, size_alloc]); rw [← hw0]; have HSZ := hid hsz0; have HBX := hid hbx; clear hw0 hsz0 hbx
        go_loopw [3, 23] (fun sv i wr => ∃ (k : Nat) (s : Int), k ≤ len ∧ i = .int .i64 k ∧ sv = .int .i64 s ∧ Hid (chkF (prv ls k) s (ls.drop k) = chkF none 0 ls) ∧ Hid (-9007199254740992 * (k : Int) ≤ s ∧ s ≤ 9007199254740992 * (k : Int)) ∧ Hid (Only (fun _ => False) w0 wr)) (fun _ i _ => len - (intOf i).toNat)
        case atStart => exact ⟨0, 0, by omega, rfl, rfl, hid rfl, hid (by omega), hid (Only.refl _ _)⟩
        case round =>
          obtain ⟨k, s, hk, rfl, rfl, HP, HS, HW⟩ := hrel
          by_cases h8 : k < len
          · have hst := HP.out; rw [chk_step (by rw [HL.out]; exact h8)] at hst; have HST := hid hst; have HLI := hid (H.out.2.2.1 _ (getL_mem ls k (by rw [HL.out]; exact h8))); have HWr : Hid (Only (fun _ => False) w wr) := hid (HO0.out.trans HW.out); obtain ⟨hc0, hc1, hc2, hc3⟩ := HC.out k h8; have c0 := HWr.out.cell' hc0 (fun f => f); have c1 := HWr.out.cell' hc1 (fun f => f); have c2 := HWr.out.cell' hc2 (fun f => f); have c3 := HWr.out.cell' hc3 (fun f => f); clear hst hc0 hc1 hc2 hc3; have hbx := HW.out.cell' HBX.out (fun f => f); have hprv : k ≠ 0 → prv ls k = some (ls.getD (k - 1) default) := fun e => (by unfold prv; rw [if_neg e]); have HPV := hid hprv; have HPC : Hid (k ≠ 0 → wr.cell? ⟨b, off + (k - 1) * 4, none⟩ = some (.int .i64 (ls.getD (k - 1) default).k) ∧ wr.cell? ⟨b, off + (k - 1) * 4 + 1, none⟩ = some (.int .i64 (ls.getD (k - 1) default).n) ∧ wr.cell? ⟨b, off + (k - 1) * 4 + 2, none⟩ = some (.int .i64 (ls.getD (k - 1) default).g)) := hid (fun e => by
              obtain ⟨p0, p1, p2, _⟩ := HC.out (k - 1) (by omega); exact ⟨HWr.out.cell' p0 (fun f => f), HWr.out.cell' p1 (fun f => f), HWr.out.cell' p2 (fun f => f)⟩)
            clear hprv; generalize ls.getD k default = l at *; obtain ⟨lk, ln, lg, la⟩ := l; dsimp only at c0 c1 c2 c3
            cases hA : accB ⟨lk, ln, lg, la⟩ with
            | false =>
              have hst := HST.out; rw [hA, if_pos rfl] at hst; have HR1 := hid hst; have hA' : accB ⟨lk, ln, lg, 0⟩ = false := hA; have HA := hid hA'; clear hst hA hA'; (go_wp2_with fail); refine (account_any _ _ _ _).mono ?_; rintro _ w1 ⟨rfl, ho1⟩; have HO1 : Hid (Only (fun _ => False) w w1) := hid ((HWr.out.alloc _).trans ho1); rw [HA.out]; clear ho1; (go_wp2_with fail); rw [← HR1.out]; go_ret
              exact ⟨rfl, HO1.out⟩
            | true =>
              have hA' : accB ⟨lk, ln, lg, 0⟩ = true := hA; have HA := hid hA'; have hst := HST.out; rw [hA, if_neg (by simp)] at hst
              cases hB : amtB la with
              | false =>
                rw [show amtB (Lg.mk lk ln lg la).a = false from hB, if_pos rfl] at hst
                have HR1 := hid hst; have HB := hid hB; clear hst hA hA' hB; (go_wp2_with fail); refine (account_any _ _ _ _).mono ?_; rintro _ w1 ⟨rfl, ho1⟩; have l3 : w1.cell? ⟨wr.heap.size, 3, none⟩ = some (.int .i64 la) := ho1.cell' (alloc_new _ _ _ _ _ _ rfl rfl) (fun f => f); have HO1 : Hid (Only (fun _ => False) w w1) := hid ((HWr.out.alloc _).trans ho1); rw [HA.out]; clear ho1; (go_wp2_with fail); refine (amount_any _ _).mono ?_; rintro _ _ ⟨rfl, rfl⟩; rw [HB.out]; (go_wp2_with fail); rw [← HR1.out]; go_ret
                exact ⟨rfl, HO1.out⟩
              | true =>
                rw [show amtB (Lg.mk lk ln lg la).a = true from hB, if_neg (by simp)] at hst
                have HB := hid hB; have HAM := hid (amt_bound hB); have HST2 := hid hst; have HS2 : Hid (-9007199254740992 * ((k + 1 : Nat) : Int) ≤ s + la ∧ s + la ≤ 9007199254740992 * ((k + 1 : Nat) : Int)) := hid (by have := HS.out; have := HAM.out; omega); have h64' : k < 64 := (by omega); have hsb : -1152921504606846976 ≤ s ∧ s ≤ 1152921504606846976 := (by have := HS.out; omega); have hlb : -9007199254740992 ≤ la ∧ la ≤ 9007199254740992 := ⟨HAM.out.1, HAM.out.2.1⟩; clear hst hA hA' hB; (go_wp2_with fail); refine (account_any _ _ _ _).mono ?_; rintro _ w1 ⟨rfl, ho1⟩; have l0 : w1.cell? ⟨wr.heap.size, 0, none⟩ = some (.int .i64 lk) := ho1.cell' (alloc_new _ _ _ _ _ _ rfl rfl) (fun f => f); have l1 : w1.cell? ⟨wr.heap.size, 1, none⟩ = some (.int .i64 ln) := ho1.cell' (alloc_new _ _ _ _ _ _ rfl rfl) (fun f => f); have l2 : w1.cell? ⟨wr.heap.size, 2, none⟩ = some (.int .i64 lg) := ho1.cell' (alloc_new _ _ _ _ _ _ rfl rfl) (fun f => f); have l3 : w1.cell? ⟨wr.heap.size, 3, none⟩ = some (.int .i64 la) := ho1.cell' (alloc_new _ _ _ _ _ _ rfl rfl) (fun f => f); have HO1 : Hid (Only (fun _ => False) wr w1) := hid (((Only.refl _ wr).alloc _).trans ho1); have hbx1 := HO1.out.cell' hbx (fun f => f); rw [HA.out]; clear ho1 hbx c0 c1 c2 c3; (go_wp2_with fail); refine (amount_any _ _).mono ?_; rintro _ _ ⟨rfl, rfl⟩; rw [HB.out]
                by_cases hk0 : k = 0
                · subst hk0; have hst := HST2.out; rw [show ahd (prv ls 0) ⟨lk, ln, lg, la⟩ = false from rfl, if_neg (by simp)] at hst
                  have HN := hid hst; have HOn : Hid (Only (fun _ => False) w0 w1) := hid (HW.out.trans HO1.out); clear hst; go_wp2_with fail
                  go_quiet (fail)
                  (go_wp2_with fail); exact ⟨⟨0 + 1, s + la, by omega, by go_num, rfl, HN, HS2, hid (only_drewN HOn.out _)⟩, by simp [intOf]; omega⟩
                · have hkN : 0 < k := (by omega); have hkD : decide (0 < k) = true := (by simpa using hkN); have hkm : IntKind.i64.wrap ((k : Int) - 1) = ((k - 1 : Nat) : Int) := (by rw [IntKind.wrap_i64]; omega); have hk1 : (0 : Int) ≤ ((k - 1 : Nat) : Int) := (by omega); have hk2 : ((k - 1 : Nat) : Int) < (len : Int) := (by omega); obtain ⟨p0, p1, p2⟩ := HPC.out hk0; have q0 := HO1.out.cell' p0 (fun f => f); have q1 := HO1.out.cell' p1 (fun f => f); have q2 := HO1.out.cell' p2 (fun f => f); have hst := HST2.out; rw [HPV.out hk0] at hst; generalize ls.getD (k - 1) default = q at *; obtain ⟨qk, qn, qg, qa⟩ := q; dsimp only at q0 q1 q2; have HST3 := hid hst; clear hst p0 p1 p2; generalize k - 1 = j at *; have hcm := compare_any ⟨qk, qn, qg, qa⟩ ⟨lk, ln, lg, la⟩; have hlt := cmpA_lt ⟨qk, qn, qg, qa⟩ ⟨lk, ln, lg, la⟩; generalize cmpA ⟨qk, qn, qg, qa⟩ ⟨lk, ln, lg, la⟩ = c at hcm hlt; have HCM := hid hcm; clear hcm; have HOn : Hid (Only (fun _ => False) w0 w1) := hid (HW.out.trans HO1.out); have HOw : Hid (Only (fun _ => False) w w1) := hid (HO0.out.trans HOn.out)
                  by_cases hc : c < 0
                  · have hst := HST3.out; rw [show ahd (some ⟨qk, qn, qg, qa⟩) ⟨lk, ln, lg, la⟩ = false from by unfold ahd; simp [hlt.1 hc], if_neg (by simp)] at hst
                    have HN := hid hst; have hlt := True.intro; clear hst HST2 HST3 HST HP hlt; go_wp2_with fail
                    go_region_held3 (fun w' => w'.cell? ⟨w.heap.size, 1, none⟩ = some (.slice (some ⟨b, off, none⟩) len cap) ∧ w'.cell? ⟨b, off + j * 4, none⟩ = some (.int .i64 qk) ∧ w'.cell? ⟨b, off + j * 4 + 1, none⟩ = some (.int .i64 qn) ∧ w'.cell? ⟨b, off + j * 4 + 2, none⟩ = some (.int .i64 qg) ∧ w'.cell? ⟨wr.heap.size, 0, none⟩ = some (.int .i64 lk) ∧ w'.cell? ⟨wr.heap.size, 1, none⟩ = some (.int .i64 ln) ∧ w'.cell? ⟨wr.heap.size, 2, none⟩ = some (.int .i64 lg)) (first | go_keep | (go_split_ands; refine ⟨?_, ?_, ?_, ?_, ?_, ?_, ?_⟩ <;> (refine hg2.only.cell' ?_ (fun f => f); assumption)))
                      ((go_at_call 101; refine (HCM.out _).mono ?_; rintro _ w2 ⟨rfl, hg2⟩))
                    have l32 := hg2.only.cell' (p := ⟨wr.heap.size, 3, none⟩) l3 (fun f => f); have HO2 := hid (HOn.out.drew.trans hg2.only); clear hg2; (go_wp2_with fail); go_roundw
                    case rel => exact ⟨k + 1, _, by omega, by go_num, rfl, HN, HS2, HO2⟩
                    case measure => simp [intOf]; omega
                  · have hst := HST3.out; rw [show ahd (some ⟨qk, qn, qg, qa⟩) ⟨lk, ln, lg, la⟩ = true from by unfold ahd; rw [decide_eq_true_eq]; exact fun h => hc (hlt.2 h), if_pos rfl] at hst
                    have HN := hid hst; have hc' : 0 ≤ c := (by omega); clear hst HST2 HST3 HST HP hlt hc; go_wp2_with fail
                    go_region_held3 (fun w' => w'.cell? ⟨w.heap.size, 1, none⟩ = some (.slice (some ⟨b, off, none⟩) len cap) ∧ w'.cell? ⟨b, off + j * 4, none⟩ = some (.int .i64 qk) ∧ w'.cell? ⟨b, off + j * 4 + 1, none⟩ = some (.int .i64 qn) ∧ w'.cell? ⟨b, off + j * 4 + 2, none⟩ = some (.int .i64 qg) ∧ w'.cell? ⟨wr.heap.size, 0, none⟩ = some (.int .i64 lk) ∧ w'.cell? ⟨wr.heap.size, 1, none⟩ = some (.int .i64 ln) ∧ w'.cell? ⟨wr.heap.size, 2, none⟩ = some (.int .i64 lg)) (first | go_keep | (go_split_ands; refine ⟨?_, ?_, ?_, ?_, ?_, ?_, ?_⟩ <;> (refine hg2.only.cell' ?_ (fun f => f); assumption)))
                      ((go_at_call 101; refine (HCM.out _).mono ?_; rintro _ w2 ⟨rfl, hg2⟩))
                    have HO2 := hid (HOw.out.drew.trans hg2.only); clear hg2; (go_wp2_with fail); rw [← HN.out]; go_ret
                    exact ⟨rfl, HO2.out⟩
          · obtain rfl : k = len := (by omega); have HE : Hid (chkF none 0 ls = if s = 0 then 0 else 20) := hid (by
              have := HP.out; rw [List.drop_eq_nil_of_le (by rw [HL.out]; omega)] at this; rw [← this]; unfold chkF; rfl)
            have HF : Hid (Only (fun _ => False) w wr) := hid (HO0.out.trans HW.out)
            by_cases hs : s = 0
            · subst hs; (go_wp2_with fail); rw [HE.out]; go_ret
              exact ⟨rfl, HF.out⟩
            · have hs1 : (s == 0) = false := (by simpa using hs); have hs2 : (s != 0) = true := (by simpa using hs); have HE2 : Hid (chkF none 0 ls = 20) := hid (by rw [HE.out, if_neg hs]); clear hs; (go_wp2_with fail); rw [HE2.out]; go_ret
              exact ⟨rfl, HF.out⟩
def PathOK (l : List Int) : Prop := 1 ≤ l.length ∧ l.length ≤ 3 ∧ l.Nodup
instance (l : List Int) : Decidable (PathOK l) := inferInstanceAs (Decidable (_ ∧ _))
def pathB (l : List Int) : Bool := decide (PathOK l)
theorem path_no {l : List Int} (h : ¬ PathOK l) : pathB l = false := by unfold pathB; rw [decide_eq_false_iff_not]; exact h
theorem path_yes {l : List Int} (h : PathOK l) : pathB l = true := by unfold pathB; rw [decide_eq_true_eq]; exact h
theorem nodup_step {l : List Int} {k : Nat} (h : (l.take k).Nodup) (hk : k < l.length) (hc : (l.take k).contains (l.getD k 0) = false) : (l.take (k + 1)).Nodup := by
  rw [List.take_succ_eq_append_getElem hk, List.nodup_append]; refine ⟨h, by simp, ?_⟩; intro x hx y hy e; have e2 : l.getD k 0 = l[k] := (by simp [List.getD, hk]); rw [List.mem_singleton] at hy; rw [e2] at hc; subst hy; subst e; simp at hc; exact hc hx
theorem nodup_no {l : List Int} {k : Nat} (hk : k < l.length) (hc : (l.take k).contains (l.getD k 0) = true) : ¬ l.Nodup := by
  intro h; have e2 : l.getD k 0 = l[k] := (by simp [List.getD, hk]); rw [e2] at hc; have h2 : (l.take (k + 1)).Nodup := h.sublist (List.take_sublist _ _); rw [List.take_succ_eq_append_getElem hk, List.nodup_append] at h2; have hm : l[k] ∈ l.take k := (by simpa using hc); exact h2.2.2 _ hm _ (by simp) rfl
set_option maxHeartbeats 8000000 in
theorem path_any (a : Option Addr) (len cap : Nat) (l : List Int) (w : World) (h : ReadsI w a len l) (hlc : len ≤ cap) (hcm : cap ≤ 9223372036854775807) :
    Calls Tryz.prog 97 #[.slice a len cap] w fun e w' => e = .returned (.bool (pathB l)) ∧ w = w' := by
  have H := hid h; clear h
  by_cases h1 : len < 1
  · have HR : Hid (pathB l = false) := hid (path_no (by unfold PathOK; rw [H.out.1]; omega)); go_enter Tryz.func97, Tryz.ntmps97
    (go_wp2_with fail); rw [HR.out]; go_ret
    exact ⟨rfl, rfl⟩
  · by_cases h3 : 3 < len
    · have HR : Hid (pathB l = false) := hid (path_no (by unfold PathOK; rw [H.out.1]; omega)); go_enter Tryz.func97, Tryz.ntmps97
      (go_wp2_with fail); rw [HR.out]; go_ret
      exact ⟨rfl, rfl⟩
    · obtain ⟨b, off, rfl, hcell⟩ := H.out.2.2.2.resolve_left (by omega); have HC := hid hcell; have HL := hid H.out.1; have HCT : Hid (∀ n c x, n ≤ len → Calls Tryz.prog 34 #[.slice (some ⟨b, off, none⟩) n c, .int .i64 x] w fun e w' => e = .returned (.bool ((l.take n).contains x)) ∧ w' = w) := hid (fun n c x hn =>
        Tryz.slices_Contains_int b off n c l x w (by rw [HL.out]; exact hn) (by omega) (fun j hj => HC.out j (by rw [← HL.out]; exact hj)))
      clear hcell; go_enter Tryz.func97, Tryz.ntmps97
      go_wp2_with fail
      go_loop [15] (fun i => ∃ k : Nat, k ≤ len ∧ i = .int .i64 k ∧ Hid ((l.take k).Nodup)) (fun i => len - (intOf i).toNat)
      case atStart => exact ⟨0, by omega, rfl, hid (by simp)⟩
      case round =>
        obtain ⟨k, hk, rfl, HP⟩ := hrel
        by_cases h8 : k < len
        · have hcl := HC.out k h8; have hk0 : (0 : Int) ≤ (k : Int) := (by omega); have hkc : (k : Int) ≤ (cap : Int) := by omega
          cases hq : (l.take k).contains (l.getD k 0) with
          | true =>
            have HR : Hid (pathB l = false) := hid (path_no (by rintro ⟨_, _, h⟩; exact nodup_no (by rw [HL.out]; exact h8) hq h)); have HQ := hid hq; clear hq; generalize l.getD k 0 = x at *; (go_wp2_with fail); refine (HCT.out k _ x hk).mono ?_; rintro _ _ ⟨rfl, rfl⟩; rw [HQ.out]; (go_wp2_with fail); rw [HR.out]; go_ret
            exact ⟨rfl, rfl⟩
          | false =>
            have HN := hid (nodup_step HP.out (by rw [HL.out]; exact h8) hq); have HQ := hid hq; clear hq; generalize l.getD k 0 = x at *; (go_wp2_with fail); refine (HCT.out k _ x hk).mono ?_; rintro _ _ ⟨rfl, rfl⟩; rw [HQ.out]; go_wp2_with fail
            go_round
            case rel => exact ⟨k + 1, by omega, by go_num, HN⟩
            case measure => simp [intOf]; omega
        · obtain rfl : k = len := (by omega); have HR : Hid (pathB l = true) := hid (by
            refine path_yes ⟨by rw [HL.out]; omega, by rw [HL.out]; omega, ?_⟩; have := HP.out
            rwa [List.take_of_length_le (by rw [HL.out]; omega)] at this)
          (go_wp2_with fail); rw [HR.out]; go_ret
          exact ⟨rfl, rfl⟩
def accV (l : Lg) : Value := .agg #[.int .i64 l.k, .int .i64 l.n, .int .i64 l.g]
def Sides (kind n g : Int) (w : World) (e : Ending) (w' : World) : Prop :=
  e = .returned (.tuple #[accV (debL kind 0 n g), accV (creL kind 0 n g)]) ∧ Only (fun _ => False) w w'
set_option maxHeartbeats 8000000 in
theorem sides_1 (n g : Int) (w : World) : Calls Tryz.prog 107 #[.int .i64 1, .int .i64 n, .int .i64 g] w (Sides 1 n g w) := by
  have HO : Hid (∀ a b c d e, Only (fun _ => False) w (((((w.alloc a).alloc b).alloc c).alloc d).alloc e)) := hid (fun a b c d e => (((((Only.refl _ w).alloc a).alloc b).alloc c).alloc d).alloc e); go_enter Tryz.func107, Tryz.ntmps107
  go_wp2_with fail
  go_region
  (go_wp2_with fail); refine bodyPost_ret (v := .tuple #[.agg #[.int .i64 1, .int .i64 0, .int .i64 0], .agg #[.int .i64 2, .int .i64 n, .int .i64 0]]) (by simp [results, Tryz.results107, go_sem]) rfl ⟨rfl, (HO.out _ _ _ _ _).drew⟩
set_option maxHeartbeats 8000000 in
theorem sides_2 (n g : Int) (w : World) : Calls Tryz.prog 107 #[.int .i64 2, .int .i64 n, .int .i64 g] w (Sides 2 n g w) := by
  have HO : Hid (∀ a b c d e, Only (fun _ => False) w (((((w.alloc a).alloc b).alloc c).alloc d).alloc e)) := hid (fun a b c d e => (((((Only.refl _ w).alloc a).alloc b).alloc c).alloc d).alloc e); go_enter Tryz.func107, Tryz.ntmps107
  go_wp2_with fail
  go_region
  (go_wp2_with fail); refine bodyPost_ret (v := .tuple #[.agg #[.int .i64 2, .int .i64 n, .int .i64 0], .agg #[.int .i64 3, .int .i64 n, .int .i64 0]]) (by simp [results, Tryz.results107, go_sem]) rfl ⟨rfl, (HO.out _ _ _ _ _).drew⟩
set_option maxHeartbeats 8000000 in
theorem sides_3 (n g : Int) (w : World) : Calls Tryz.prog 107 #[.int .i64 3, .int .i64 n, .int .i64 g] w (Sides 3 n g w) := by
  have HO : Hid (∀ a b c d e, Only (fun _ => False) w (((((w.alloc a).alloc b).alloc c).alloc d).alloc e)) := hid (fun a b c d e => (((((Only.refl _ w).alloc a).alloc b).alloc c).alloc d).alloc e); go_enter Tryz.func107, Tryz.ntmps107
  go_wp2_with fail
  go_region
  (go_wp2_with fail); refine bodyPost_ret (v := .tuple #[.agg #[.int .i64 3, .int .i64 n, .int .i64 0], .agg #[.int .i64 2, .int .i64 n, .int .i64 0]]) (by simp [results, Tryz.results107, go_sem]) rfl ⟨rfl, (HO.out _ _ _ _ _).drew⟩
set_option maxHeartbeats 8000000 in
theorem sides_4 (n g : Int) (w : World) : Calls Tryz.prog 107 #[.int .i64 4, .int .i64 n, .int .i64 g] w (Sides 4 n g w) := by
  have HO : Hid (∀ a b c d e, Only (fun _ => False) w (((((w.alloc a).alloc b).alloc c).alloc d).alloc e)) := hid (fun a b c d e => (((((Only.refl _ w).alloc a).alloc b).alloc c).alloc d).alloc e); go_enter Tryz.func107, Tryz.ntmps107
  go_wp2_with fail
  go_region
  (go_wp2_with fail); refine bodyPost_ret (v := .tuple #[.agg #[.int .i64 3, .int .i64 n, .int .i64 0], .agg #[.int .i64 4, .int .i64 n, .int .i64 g]]) (by simp [results, Tryz.results107, go_sem]) rfl ⟨rfl, (HO.out _ _ _ _ _).drew⟩
set_option maxHeartbeats 8000000 in
theorem sides_5 (n g : Int) (w : World) : Calls Tryz.prog 107 #[.int .i64 5, .int .i64 n, .int .i64 g] w (Sides 5 n g w) := by
  have HO : Hid (∀ a b c d e, Only (fun _ => False) w (((((w.alloc a).alloc b).alloc c).alloc d).alloc e)) := hid (fun a b c d e => (((((Only.refl _ w).alloc a).alloc b).alloc c).alloc d).alloc e); go_enter Tryz.func107, Tryz.ntmps107
  (go_wp2_with fail); refine bodyPost_ret (v := .tuple #[.agg #[.int .i64 2, .int .i64 n, .int .i64 0], .agg #[.int .i64 5, .int .i64 n, .int .i64 0]]) (by simp [results, Tryz.results107, go_sem]) rfl ⟨rfl, (HO.out _ _ _ _ _)⟩
set_option maxHeartbeats 8000000 in
theorem sides_6 (n g : Int) (w : World) : Calls Tryz.prog 107 #[.int .i64 6, .int .i64 n, .int .i64 g] w (Sides 6 n g w) := by
  have HO : Hid (∀ a b c d e, Only (fun _ => False) w (((((w.alloc a).alloc b).alloc c).alloc d).alloc e)) := hid (fun a b c d e => (((((Only.refl _ w).alloc a).alloc b).alloc c).alloc d).alloc e); go_enter Tryz.func107, Tryz.ntmps107
  go_wp2_with fail
  go_region
  (go_wp2_with fail); refine bodyPost_ret (v := .tuple #[.agg #[.int .i64 4, .int .i64 n, .int .i64 g], .agg #[.int .i64 2, .int .i64 n, .int .i64 0]]) (by simp [results, Tryz.results107, go_sem]) rfl ⟨rfl, (HO.out _ _ _ _ _).drew⟩
theorem sides_any (kind n g : Int) (hk : kindB kind = true) (w : World) : Calls Tryz.prog 107 #[.int .i64 kind, .int .i64 n, .int .i64 g] w (Sides kind n g w) := by
  unfold kindB at hk; simp at hk; have : kind = 1 ∨ kind = 2 ∨ kind = 3 ∨ kind = 4 ∨ kind = 5 ∨ kind = 6 := (by omega); rcases this with rfl | rfl | rfl | rfl | rfl | rfl
  · exact sides_1 n g w
  · exact sides_2 n g w
  · exact sides_3 n g w
  · exact sides_4 n g w
  · exact sides_5 n g w
  · exact sides_6 n g w
end Go.Proofs.YtkbaafgaaiekpaaGreat.entw
namespace Go.Proofs.YtkbaafgaaiekpaaGreat.entw
open Go.RowKit mem entm Go.Sort
set_option linter.unusedVariables false
def lv (ls : List Lg) : List Value := ls.flatMap encL
theorem lv_cons (x : Lg) (r : List Lg) : lv (x :: r) = encL x ++ lv r := by simp [lv]
theorem lv_append (a b : List Lg) : lv (a ++ b) = lv a ++ lv b := by simp [lv]
theorem lv_length (ls : List Lg) : (lv ls).length = ls.length * 4 := by
  induction ls with
  | nil => rfl
  | cons x r ih => rw [lv_cons, List.length_append, ih, List.length_cons]; simp [encL]; omega
theorem lv_one (ls : List Lg) : ∀ u ∈ lv ls, u.oneCell' = true := by
  intro u hu; simp only [lv, List.mem_flatMap] at hu; obtain ⟨x, _, hx⟩ := hu; simp [encL] at hx; rcases hx with rfl | rfl | rfl | rfl <;> rfl
theorem lv_get : ∀ (ls : List Lg) (i c : Nat), i < ls.length → c < 4 → (lv ls)[i * 4 + c]? = (encL (ls.getD i default))[c]? := by
  intro ls
  induction ls with
  | nil => intro i c h; simp at h
  | cons x r ih =>
    intro i c hi hc; have hx : (encL x).length = 4 := rfl; rw [lv_cons]
    cases i with
    | zero =>
      rw [List.getElem?_append_left (by rw [hx]; omega)]; simp [List.getD]
    | succ i =>
      rw [List.getElem?_append_right (by rw [hx]; omega), hx, show (i + 1) * 4 + c - 4 = i * 4 + c by omega, ih i c (by simpa using hi) hc]; simp [List.getD]
theorem encL_some (x : Lg) (c : Nat) (hc : c < 4) : (encL x)[c]? = some ((encL x)[c]!) := by
  have hx : (encL x).length = 4 := rfl; rw [List.getElem!_eq_getElem?_getD, List.getElem?_eq_getElem (by rw [hx]; exact hc)]; rfl
theorem toArr_get (ls : List Lg) (i : Nat) : ls.toArray[i]! = ls.getD i default := by
  simp [List.getD, Array.getElem!_eq_getD, Array.getD]
  by_cases h : i < ls.length
  · simp [h]
  · simp [h]
def OwnL (w : World) (v : Value) (ls : List Lg) : Prop := w.ownsRow 0 96 4 v ls.length (lv ls)
theorem OwnL.nil (w : World) : OwnL w (.slice none 0 0) [] := World.ownsRow_nil _ _ _ _
theorem OwnL.only {S : Nat → Prop} {w w' : World} {v : Value} {ls : List Lg} (h : OwnL w v ls) (ho : Only S w w') (hs : ∀ k, v.ownBlock = some k → ¬ S k) : OwnL w' v ls := owns_only ho h hs
theorem OwnL.holds {w : World} {g n cap : Nat} {ls : List Lg} (h : OwnL w (.slice (some ⟨g, 0, none⟩) n cap) ls) (hn : n = ls.length) : HoldsK encL 4 w g 0 ls.toArray ∧ g < w.heap.size := by
  subst hn; rcases h.2 with ⟨hv, _⟩ | ⟨g', cap', cur, hv, _, hh, hc, hm, hcs, htk⟩
  · cases hv
  · injection hv with hv1 hv2 hv3; injection hv1 with hv1; injection hv1 with hv1; subst hv1; refine ⟨?_, heap_lt hh⟩; intro t ht; rw [size_flatK] at ht; have ht' : t < ls.length * 4 := (by simpa using ht); have hi : t / 4 < ls.length := (by omega); have e1 := lv_get ls (t / 4) (t % 4) hi (by omega); rw [show t / 4 * 4 + t % 4 = t by omega] at e1; rw [get_flatK _ _ _ _ ht, Nat.zero_add, Go.Joins.cell_of_block hh]; refine ⟨?_, ?_⟩
    · rw [toArr_get, show id (encL (ls.getD (t / 4) default))[t % 4]! = (encL (ls.getD (t / 4) default))[t % 4]! from rfl, ← encL_some _ _ (by omega), ← e1, ← htk, List.getElem?_take, if_pos ht']
      simp
    · simp [World.frozen?, hh]
theorem holds_reads {w : World} {g : Nat} {d : Array Lg} (h : HoldsK encL 4 w g 0 d) (hm : d.size ≤ 9223372036854775807) (hb : ∀ l ∈ d.toList, InI l.k ∧ InI l.n ∧ InI l.g ∧ InI l.a) : ReadsL w (some ⟨g, 0, none⟩) d.size d.toList := by
  refine ⟨by simp, hm, hb, .inr ⟨g, 0, rfl, fun i hi => ?_⟩⟩; have hg : d[i]! = d.toList.getD i default := (by rw [← toArr_get]); have c0 := (h.cell hi (show 0 < 4 by omega)).1; have c1 := (h.cell hi (show 1 < 4 by omega)).1; have c2 := (h.cell hi (show 2 < 4 by omega)).1; have c3 := (h.cell hi (show 3 < 4 by omega)).1; rw [hg] at c0 c1 c2 c3; exact ⟨c0, c1, c2, c3⟩
theorem only_sort (w : World) (g n : Nat) (d : Array Lg) (os : Array Obj) : Only (fun k => k = g) w (sortWorldK encL 4 w g 0 n d os) := by
  refine ⟨rfl, rfl, rfl, size_sortWorldK_c encL 4 w g 0 n d os, fun k hk hs => ?_⟩; unfold sortWorldK; rw [heap_grow_old _ _ (by rw [size_putRowK]; exact hk)]; show ((w.heap.modify g _)[k]?) = _; rw [Array.getElem?_modify, if_neg (fun e => hs e.symm)]
theorem closure_any (x y : Lg) (w : World) : Calls Tryz.prog 109 #[.agg (encL x).toArray, .agg (encL y).toArray] w fun e w' => e = .returned (.int .i64 (cmpA x y)) ∧ Grew w w' := by
  have hc := compare_any x y; obtain ⟨xk, xn, xg, xa⟩ := x; obtain ⟨yk, yn, yg, ya⟩ := y; dsimp only at hc; generalize cmpA ⟨xk, xn, xg, xa⟩ ⟨yk, yn, yg, ya⟩ = c at *; have HC := hid hc; have HG : Hid (∀ o1 o2, Grew w ((w.alloc o1).alloc o2)) := hid (fun o1 o2 => ((Grew.refl w).alloc o1).alloc o2); clear hc; show Calls Tryz.prog 109 #[.agg #[.int .i64 xk, .int .i64 xn, .int .i64 xg, .int .i64 xa], .agg #[.int .i64 yk, .int .i64 yn, .int .i64 yg, .int .i64 ya]] w _; go_enter Tryz.func109, Tryz.ntmps109
  (go_wp2_with fail); refine (HC.out _).mono ?_; rintro _ w1 ⟨rfl, hg⟩; have HG1 := hid ((HG.out _ _).trans hg); clear hg; (go_wp2_with fail); go_ret
  exact ⟨rfl, HG1.out⟩
def Sorted (ls : List Lg) : Prop := ls.Pairwise (fun x y => ¬ ltA y x)
def SortedAt (g : Nat) (ls : List Lg) (w : World) (e : Ending) (w' : World) : Prop :=
  ∃ ls', e = .returned (.tuple #[]) ∧ ls'.Perm ls ∧ Sorted ls' ∧ ReadsL w' (some ⟨g, 0, none⟩) ls.length ls' ∧ Only (fun k => k = g) w w'
theorem sort_any (g n cap : Nat) (ls : List Lg) (w : World) (h : OwnL w (.slice (some ⟨g, 0, none⟩) n cap) ls) (hn : n = ls.length) (hm : ls.length ≤ 4000000000000000000) (hb : ∀ l ∈ ls, InI l.k ∧ InI l.n ∧ InI l.g ∧ InI l.a) :
    Calls Tryz.prog 108 #[.slice (some ⟨g, 0, none⟩) n cap, .func (.func 109) #[] #[]] w (SortedAt g ls w) := by
  obtain ⟨hH, hg⟩ := h.holds hn; have eg : ∀ args w, (callFunc 109 args).run Tryz.prog w = .ok (.enter 109 args) w := enters_of Tryz.func109 (by kernel_rfl) rfl; have hcon := AnyQ.slices_SortFunc Try.sortLegs 4 Tryz.isAgg96 Tryz.sizeOf96 encL (fun _ => rfl) (fun x v hv => by simp [encL] at hv; rcases hv with rfl | rfl | rfl | rfl <;> rfl) cmpA swoA 109 #[] g 0 cap ls.toArray w eg
    (fun m os dk _ x y => closure_any x y _) hH hg (by simp; omega)
  subst hn; have e : ls.toArray.size = ls.length := (by simp); rw [e] at hcon; refine hcon.mono ?_; rintro e w' ⟨rfl, d', nn, os, ⟨hs, _, hp⟩, hsort, rfl⟩; have hs' : d'.size = ls.length := (by simpa using hs); have hperm : d'.toList.Perm ls := by
    have := hp; rw [Array.extract_eq_self_of_le (by omega), Array.extract_eq_self_of_le (by simp)] at this
    simpa using this
  refine ⟨d'.toList, rfl, hperm, ?_, ?_, only_sort _ _ _ _ _⟩
  · unfold Sorted; rw [List.pairwise_iff_getElem]; intro i j hi hj hij; have := hsort i j (Nat.zero_le _) hij (by simpa [hs'] using hj); rw [ltOf_cmpA, decide_eq_false_iff_not, getElem!_pos d' j (by simpa using hj), getElem!_pos d' i (by simpa using hi)] at this; exact this
  · have := holds_reads (holdsK_sortWorldK_c encL 4 w g 0 ls.toArray d' nn os hH hg (by simpa using hs')) (by omega) (fun l hl => hb l (hperm.mem_iff.1 hl))
    rwa [hs'] at this
end Go.Proofs.YtkbaafgaaiekpaaGreat.entw
namespace Go.Proofs.YtkbaafgaaiekpaaGreat.acck
open Go.RowKit mem Go.WideShapes Go.ChangeMaps Go.WideMaps Go.Maps accm accn entw entm Go.Sort
set_option linter.unusedVariables false
set_option maxRecDepth 100000
instance : Inhabited Ac := ⟨⟨0, 0, 0⟩⟩
def ReadsA (w : World) (a : Option Addr) (len : Nat) (ls : List Ac) : Prop := ls.length = len ∧ (len = 0 ∨ ∃ b, a = some ⟨b, 0, none⟩ ∧ ∀ i, i < len → w.cell? ⟨b, i * 3, none⟩ = some (.int .i64 (ls.getD i default).k) ∧ w.cell? ⟨b, i * 3 + 1, none⟩ = some (.int .i64 (ls.getD i default).n) ∧ w.cell? ⟨b, i * 3 + 2, none⟩ = some (.int .i64 (ls.getD i default).g))
theorem ReadsA.only {S : Nat → Prop} {w w' : World} {a : Option Addr} {len : Nat} {l : List Ac} (h : ReadsA w a len l) (ho : Only S w w') (hs : ∀ x, a = some x → ¬ S x.block) : ReadsA w' a len l := by
  refine ⟨h.1, h.2.imp (fun x => x) fun ⟨g, e, hc⟩ => ⟨g, e, fun k hk => ?_⟩⟩; obtain ⟨c0, c1, c2⟩ := hc k hk; have hn : ¬ S g := hs _ e; exact ⟨ho.cell' c0 hn, ho.cell' c1 hn, ho.cell' c2 hn⟩
end Go.Proofs.YtkbaafgaaiekpaaGreat.acck
