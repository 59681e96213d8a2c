/- EntryChecks's walk. -/
import Derived.Test.YtlldecklngcklaaEntN
import Derived.Test.YtlldecklngcklaaEntR
import Derived.Test.YtlldecklngcklaaEntS
import Derived.Test.YtlldecklngcklaaEntW
namespace Go.Proofs.Ytlldecklngcklaa.entw
open Go.RowKit mem entm codm codw
set_option linter.unusedVariables false

theorem take_min_len (ls : List Lg) (len : Nat) (h : ls.length = len) : (ls.take (min len 70)).length = min len 70 := by rw [List.length_take]; omega

set_option maxRecDepth 100000 in
set_option maxHeartbeats 4000000 in
attribute [local go_sem ↓] Go.wp_at_zero Go.wp_at_succ in
theorem checks_no (kind : Int) (a : Option Addr) (len cap : Nat) (ls : List Lg) (w : World) (h : LegsR w a len cap ls) (hq : chk kind (ls.take (min len 70)) ≠ 0) :
    Calls Try.prog 3 #[.agg #[.int .i64 kind, .slice a len cap]] w fun e w' => e = .returned (.bool true) ∧ Only (fun _ => False) w w' := by
  have HL1 := h.1.1
  have HTM := Lib.hid (fun w' (ho : Only (fun _ => False) w w') => tame_any kind a len cap (min len 70) ls w' ⟨h.1.only ho (fun _ _ f => f), h.2⟩ rfl)
  have hin : ∀ l ∈ ls.take (min len 70), InL l := fun l hl => h.1.2.2.1 l (List.mem_of_mem_take hl)
  have hlen : (ls.take (min len 70)).length ≤ 70 := by rw [take_min_len ls len HL1]; omega
  have HQ := Lib.hid hq
  clear hq
  generalize ls.take (min len 70) = l' at *
  have HIN := Lib.hid hin
  have HO : Hid (∀ o, Only (fun _ => False) w (w.alloc o)) := Lib.hid (fun o => (Only.refl _ w).alloc o)
  have hbx : (w.alloc (.cells #[.int .i64 kind, .slice a len cap] 24)).cell? ⟨w.heap.size, 0, none⟩ = some (.int .i64 kind) ∧ (w.alloc (.cells #[.int .i64 kind, .slice a len cap] 24)).cell? ⟨w.heap.size, 1, none⟩ = some (.slice a len cap) := ⟨alloc_new _ _ _ _ _ _ rfl rfl, alloc_new _ _ _ _ _ _ rfl rfl⟩
  have HBX := Lib.hid hbx
  have HBF : Hid ((w.alloc (.cells #[.int .i64 kind, .slice a len cap] 24)).frozen? ⟨w.heap.size, 0, none⟩ = false ∧ (w.alloc (.cells #[.int .i64 kind, .slice a len cap] 24)).frozen? ⟨w.heap.size, 1, none⟩ = false ∧ w.heap.size < (w.alloc (.cells #[.int .i64 kind, .slice a len cap] 24)).heap.size) := Lib.hid ⟨alloc_froz _ _ _ _ _ rfl, alloc_froz _ _ _ _ _ rfl, by simp⟩
  clear h hin hbx HL1
  go_enter Try.func3, Try.ntmps3
  go_wp2_with fail
  generalize hw0 : w.alloc (.cells #[.int .i64 kind, .slice a len cap] 24) = w0 at *
  have HO0 : Hid (Only (fun _ => False) w w0) := Lib.hid (by rw [← hw0]; exact HO.out _)
  clear hw0
  refine (HTM.out _ HO0.out).mono ?_
  rintro _ w1 ⟨g, cp, rfl, hrd1, hcp1, hg1, ho1⟩
  have k0 := ho1.cell' HBX.out.1 (fun f => f)
  have k1 := ho1.cell' HBX.out.2 (fun f => f)
  have hlt1 : w.heap.size < w1.heap.size := World.block_lt_of_cell? w1 _ k0
  have f0 := (ho1.frozen (p := ⟨w.heap.size, 0, none⟩) HBF.out.2.2 (fun f => f)).trans HBF.out.1
  have f1 := (ho1.frozen (p := ⟨w.heap.size, 1, none⟩) HBF.out.2.2 (fun f => f)).trans HBF.out.2.1
  have HE := Lib.hid (set_two (x := .int .i64 kind) (y := .slice (some ⟨g, 0, none⟩) l'.length cp) k0 k1)
  have HS : Hid (Only (fun q => q = w.heap.size) w1 ((w1.setCell ⟨w.heap.size, 0, none⟩ (.int .i64 kind)).setCell ⟨w.heap.size, 1, none⟩ (.slice (some ⟨g, 0, none⟩) l'.length cp))) := Lib.hid (((Only.refl (fun q => q = w.heap.size) w1).setCell (p := ⟨w.heap.size, 0, none⟩) (.inl rfl) _).setCell (p := ⟨w.heap.size, 1, none⟩) (.inl rfl) _)
  have e0 : ((w1.setCell ⟨w.heap.size, 0, none⟩ (.int .i64 kind)).setCell ⟨w.heap.size, 1, none⟩ (.slice (some ⟨g, 0, none⟩) l'.length cp)).cell? ⟨w.heap.size, 0, none⟩ = some (.int .i64 kind) := by rw [cell_other (off_ne (by omega))]; exact HE.out.1
  have e1 := HE.out.2
  have HRD1 : Hid (ReadsL ((w1.setCell ⟨w.heap.size, 0, none⟩ (.int .i64 kind)).setCell ⟨w.heap.size, 1, none⟩ (.slice (some ⟨g, 0, none⟩) l'.length cp)) (some ⟨g, 0, none⟩) l'.length l') := Lib.hid (hrd1.only HS.out (fun x hx e => by injection hx with hx; subst hx; have e : g = w.heap.size := e; have := HBF.out.2.2; omega))
  have HO1 : Hid (Only (fun _ => False) w ((w1.setCell ⟨w.heap.size, 0, none⟩ (.int .i64 kind)).setCell ⟨w.heap.size, 1, none⟩ (.slice (some ⟨g, 0, none⟩) l'.length cp))) := Lib.hid ((HO0.out.trans ho1).then HS.out (fun q hq e => by omega))
  clear hrd1 hcp1 hg1 ho1
  go_wp2_with fail
  generalize (w1.setCell ⟨w.heap.size, 0, none⟩ (.int .i64 kind)).setCell ⟨w.heap.size, 1, none⟩ (.slice (some ⟨g, 0, none⟩) l'.length cp) = wA at *
  clear k0 k1 hlt1 f0 f1 HE HS HBX HBF HTM HO HO0
  have HE0 := Lib.hid (And.intro e0 e1)
  have HLN := Lib.hid hlen
  refine (to_any kind _ _ cp l' wA HRD1.out HLN.out).mono ?_
  rintro _ w2 ⟨a3, cp3, rfl, hrd3, hcp3, hn3, ho3⟩
  have m0 := ho3.cell' e0 (fun f => f)
  have m1 := ho3.cell' e1 (fun f => f)
  have HRD2 := Lib.hid (HRD1.out.only ho3 (fun _ _ f => f))
  have HO2 := Lib.hid (HO1.out.trans ho3)
  generalize (some ⟨g, 0, none⟩ : Option Addr) = ag at *
  obtain ⟨W0, hW0⟩ : ∃ W0, W0 = w2.alloc (.cells #[.int .i64 kind, .slice a3 l'.length cp3] 28) := ⟨_, rfl⟩
  have hXO : Only (fun _ => False) w2 W0 := by rw [hW0]; exact (Only.refl _ w2).alloc _
  have x0 : W0.cell? ⟨w2.heap.size, 0, none⟩ = some (.int .i64 kind) := by rw [hW0]; exact alloc_new _ _ _ _ _ _ rfl rfl
  have x1 : W0.cell? ⟨w2.heap.size, 1, none⟩ = some (.slice a3 l'.length cp3) := by rw [hW0]; exact alloc_new _ _ _ _ _ _ rfl rfl
  have z0 := hXO.cell' m0 (fun f => f)
  have z1 := hXO.cell' m1 (fun f => f)
  have HF0 := Lib.hid (HO2.out.trans hXO)
  have HEX : Hid (∀ w', Only (fun _ => False) W0 w' → ReadsL w' ag l'.length l' ∧ ReadsL w' a3 l'.length l') := Lib.hid (fun w' ho =>
    ⟨HRD2.out.only (hXO.trans ho) (fun _ _ f => f), hrd3.only (hXO.trans ho) (fun _ _ f => f)⟩)
  have HCL : Hid (∀ w', Only (fun _ => False) W0 w' → w'.cell? ⟨w.heap.size, 0, none⟩ = some (.int .i64 kind) ∧ w'.cell? ⟨w.heap.size, 1, none⟩ = some (.slice ag l'.length cp) ∧ w'.cell? ⟨w2.heap.size, 0, none⟩ = some (.int .i64 kind) ∧ w'.cell? ⟨w2.heap.size, 1, none⟩ = some (.slice a3 l'.length cp3)) := Lib.hid (fun w' ho =>
    ⟨ho.cell' z0 (fun f => f), ho.cell' z1 (fun f => f), ho.cell' x0 (fun f => f), ho.cell' x1 (fun f => f)⟩)
  have HLN : Hid (l'.length ≤ 70) := Lib.hid hlen
  clear hrd3 hcp3 hn3 ho3 e0 e1 hXO x0 x1 m0 m1 HRD2 HO2 HRD1 HO1 HE0 hlen
  rw [hW0] at z0 z1
  go_wp2_with fail
  rw [← hW0]
  clear z0 z1
  refine (rcheck_any kind ag l'.length cp l' _ (HEX.out _ (Only.refl _ _)).1).mono ?_
  rintro _ w3 ⟨rfl, ho3⟩
  clear hW0
  obtain ⟨p0, p1, p2, p3⟩ := HCL.out w3 ho3
  have HE3 := Lib.hid (HEX.out w3 ho3)
  have HO3 := Lib.hid ho3
  clear ho3
  go_wp2_with fail
  refine (ewrite_no kind a3 _ cp3 l' _ HE3.out.2 HQ.out).mono ?_
  rintro _ w4 ⟨rfl, ho4⟩
  have HO4 := Lib.hid (HO3.out.trans ho4)
  clear ho4 HE3 HO3 p0 p1 p2 p3
  obtain ⟨p0, p1, p2, p3⟩ := HCL.out w4 HO4.out
  have HS : Hid (sumOf kind l' = 0) := Lib.hid (by unfold sumOf; rw [if_neg HQ.out])
  have hq0 : (chk kind l' == 0) = false := by simpa using HQ.out
  go_wp2_with fail
  go_loopw [7, 8] (fun s i wr => s = .int .i64 0 ∧ i = .int .i64 0 ∧ w4 = wr) (fun _ _ _ => 0)
  case atStart => exact ⟨rfl, rfl, rfl⟩
  case round =>
    obtain ⟨rfl, rfl, rfl⟩ := hrel
    have HW := HO4
    have HS0 : Hid (∀ w', Only (fun _ => False) w4 w' → Only (fun _ => False) w4 w' ∧ w'.cell? ⟨w.heap.size, 0, none⟩ = some (.int .i64 kind) ∧ w'.cell? ⟨w.heap.size, 1, none⟩ = some (.slice ag l'.length cp) ∧ w'.cell? ⟨w2.heap.size, 0, none⟩ = some (.int .i64 kind) ∧ w'.cell? ⟨w2.heap.size, 1, none⟩ = some (.slice a3 l'.length cp3)) := Lib.hid (fun w' ho => ⟨ho, HCL.out w' (HW.out.trans ho)⟩)
    have HCX : Hid (∀ w', Only (fun _ => False) w4 w' → Calls Try.prog 20 #[.agg #[.int .i64 kind, .slice a3 l'.length cp3]] w' fun e w'' => e = .returned (.int .i64 (chk kind l')) ∧ Only (fun _ => False) w' w'') := Lib.hid (fun w' ho => check_any kind a3 l'.length cp3 l' w' (HEX.out w' (HW.out.trans ho)).2)
    have HSU : Hid (∀ w', Only (fun _ => False) w4 w' → Calls Try.prog 21 #[.agg #[.int .i64 kind, .slice a3 l'.length cp3]] w' fun e w'' => e = .returned (.int .i64 (sumOf kind l')) ∧ Only (fun _ => False) w' w'') := Lib.hid (fun w' ho => sum_any kind a3 l'.length cp3 l' w' (HEX.out w' (HW.out.trans ho)).2)
    have HFROM : Hid (∀ w', Only (fun _ => False) w4 w' → Calls Try.prog 23 #[.agg #[.int .i64 kind, .slice a3 l'.length cp3]] w' (LegsMade kind l' w')) := Lib.hid (fun w' ho => from_any kind a3 l'.length cp3 l' w' (HEX.out w' (HW.out.trans ho)).2 (by have := HLN.out; omega))
    have HSAME : Hid (∀ w' a' cp', ReadsL w' a' l'.length l' → Only (fun _ => False) w4 w' → Calls Try.prog 22 #[.agg #[.int .i64 kind, .slice a' l'.length cp'], .agg #[.int .i64 kind, .slice ag l'.length cp]] w' fun e w'' => e = .returned (.bool true) ∧ Only (fun _ => False) w' w'') := Lib.hid (fun w' a' cp' hr ho => same_yes kind a' ag l'.length cp' cp l' w' hr (HEX.out w' (HW.out.trans ho)).1)
    rw [HS.out] at HSU
    have HF : Hid (Only (fun _ => False) w w4) := Lib.hid (HF0.out.trans HW.out)
    generalize chk kind l' = q at *
    obtain ⟨_, z1, z2, z3, z4⟩ := HS0.out w4 (Only.refl _ _)
    by_cases h0 : 0 < l'.length
    · go_wp2_with fail
      go_region_held3 (fun w' => Only (fun _ => False) w4 w' ∧ w'.cell? ⟨w.heap.size, 0, none⟩ = some (.int .i64 kind) ∧ w'.cell? ⟨w.heap.size, 1, none⟩ = some (.slice ag l'.length cp) ∧ w'.cell? ⟨w2.heap.size, 0, none⟩ = some (.int .i64 kind) ∧ w'.cell? ⟨w2.heap.size, 1, none⟩ = some (.slice a3 l'.length cp3))
        ((refine HS0.out _ ?_; first | exact (Only.refl _ _).drew | exact Only.refl _ _ | (go_split_ands; exact Only.trans (by assumption) ho)))
        (first | (go_at_call 19; (with_reducible refine (ents_any _).mono ?_); rintro _ wn ⟨rfl, ho⟩) | (go_at_call 20; (with_reducible refine (HCX.out _ (by go_split_ands; assumption)).mono ?_); rintro _ wn ⟨rfl, ho⟩) | (go_at_call 21; (with_reducible refine (HSU.out _ (by go_split_ands; assumption)).mono ?_); rintro _ wn ⟨rfl, ho⟩) | (go_at_call 23; (with_reducible refine (HFROM.out _ (by go_split_ands; assumption)).mono ?_); rintro _ wn ⟨an, cn, rfl, hrn, _, _, ho⟩) | (go_at_call 22; (with_reducible refine (HSAME.out _ _ _ (by assumption) (by go_split_ands; assumption)).mono ?_); rintro _ wn ⟨rfl, ho⟩))
      have HFF : Hid (Only (fun _ => False) w4 wn) := Lib.hid (by go_split_ands; assumption)
      go_wp2_with fail
      go_ret
      exact ⟨rfl, HF.out.trans HFF.out⟩
    · go_wp2_with fail
      go_region_held3 (fun w' => Only (fun _ => False) w4 w' ∧ w'.cell? ⟨w.heap.size, 0, none⟩ = some (.int .i64 kind) ∧ w'.cell? ⟨w.heap.size, 1, none⟩ = some (.slice ag l'.length cp) ∧ w'.cell? ⟨w2.heap.size, 0, none⟩ = some (.int .i64 kind) ∧ w'.cell? ⟨w2.heap.size, 1, none⟩ = some (.slice a3 l'.length cp3))
        ((refine HS0.out _ ?_; first | exact (Only.refl _ _).drew | exact Only.refl _ _ | (go_split_ands; exact Only.trans (by assumption) ho)))
        (first | (go_at_call 19; (with_reducible refine (ents_any _).mono ?_); rintro _ wn ⟨rfl, ho⟩) | (go_at_call 20; (with_reducible refine (HCX.out _ (by go_split_ands; assumption)).mono ?_); rintro _ wn ⟨rfl, ho⟩) | (go_at_call 21; (with_reducible refine (HSU.out _ (by go_split_ands; assumption)).mono ?_); rintro _ wn ⟨rfl, ho⟩) | (go_at_call 23; (with_reducible refine (HFROM.out _ (by go_split_ands; assumption)).mono ?_); rintro _ wn ⟨an, cn, rfl, hrn, _, _, ho⟩) | (go_at_call 22; (with_reducible refine (HSAME.out _ _ _ (by assumption) (by go_split_ands; assumption)).mono ?_); rintro _ wn ⟨rfl, ho⟩))
      have HFF : Hid (Only (fun _ => False) w4 wn) := Lib.hid (by go_split_ands; assumption)
      go_wp2_with fail
      go_ret
      exact ⟨rfl, HF.out.trans HFF.out⟩

set_option maxRecDepth 100000 in
set_option maxHeartbeats 4000000 in
attribute [local go_sem ↓] Go.wp_at_zero Go.wp_at_succ in
theorem checks_yes (kind : Int) (a : Option Addr) (len cap : Nat) (ls : List Lg) (w : World) (h : LegsR w a len cap ls) (hq : chk kind (ls.take (min len 70)) = 0) :
    Calls Try.prog 3 #[.agg #[.int .i64 kind, .slice a len cap]] w fun e w' => e = .returned (.bool true) ∧ Only (fun _ => False) w w' := by
  have HL1 := h.1.1
  have HTM := Lib.hid (fun w' (ho : Only (fun _ => False) w w') => tame_any kind a len cap (min len 70) ls w' ⟨h.1.only ho (fun _ _ f => f), h.2⟩ rfl)
  have hin : ∀ l ∈ ls.take (min len 70), InL l := fun l hl => h.1.2.2.1 l (List.mem_of_mem_take hl)
  have hlen : (ls.take (min len 70)).length ≤ 70 := by rw [take_min_len ls len HL1]; omega
  have HQ := Lib.hid hq
  clear hq
  generalize ls.take (min len 70) = l' at *
  have HIN := Lib.hid hin
  have HO : Hid (∀ o, Only (fun _ => False) w (w.alloc o)) := Lib.hid (fun o => (Only.refl _ w).alloc o)
  have hbx : (w.alloc (.cells #[.int .i64 kind, .slice a len cap] 24)).cell? ⟨w.heap.size, 0, none⟩ = some (.int .i64 kind) ∧ (w.alloc (.cells #[.int .i64 kind, .slice a len cap] 24)).cell? ⟨w.heap.size, 1, none⟩ = some (.slice a len cap) := ⟨alloc_new _ _ _ _ _ _ rfl rfl, alloc_new _ _ _ _ _ _ rfl rfl⟩
  have HBX := Lib.hid hbx
  have HBF : Hid ((w.alloc (.cells #[.int .i64 kind, .slice a len cap] 24)).frozen? ⟨w.heap.size, 0, none⟩ = false ∧ (w.alloc (.cells #[.int .i64 kind, .slice a len cap] 24)).frozen? ⟨w.heap.size, 1, none⟩ = false ∧ w.heap.size < (w.alloc (.cells #[.int .i64 kind, .slice a len cap] 24)).heap.size) := Lib.hid ⟨alloc_froz _ _ _ _ _ rfl, alloc_froz _ _ _ _ _ rfl, by simp⟩
  clear h hin hbx HL1
  go_enter Try.func3, Try.ntmps3
  go_wp2_with fail
  generalize hw0 : w.alloc (.cells #[.int .i64 kind, .slice a len cap] 24) = w0 at *
  have HO0 : Hid (Only (fun _ => False) w w0) := Lib.hid (by rw [← hw0]; exact HO.out _)
  clear hw0
  refine (HTM.out _ HO0.out).mono ?_
  rintro _ w1 ⟨g, cp, rfl, hrd1, hcp1, hg1, ho1⟩
  have k0 := ho1.cell' HBX.out.1 (fun f => f)
  have k1 := ho1.cell' HBX.out.2 (fun f => f)
  have hlt1 : w.heap.size < w1.heap.size := World.block_lt_of_cell? w1 _ k0
  have f0 := (ho1.frozen (p := ⟨w.heap.size, 0, none⟩) HBF.out.2.2 (fun f => f)).trans HBF.out.1
  have f1 := (ho1.frozen (p := ⟨w.heap.size, 1, none⟩) HBF.out.2.2 (fun f => f)).trans HBF.out.2.1
  have HE := Lib.hid (set_two (x := .int .i64 kind) (y := .slice (some ⟨g, 0, none⟩) l'.length cp) k0 k1)
  have HS : Hid (Only (fun q => q = w.heap.size) w1 ((w1.setCell ⟨w.heap.size, 0, none⟩ (.int .i64 kind)).setCell ⟨w.heap.size, 1, none⟩ (.slice (some ⟨g, 0, none⟩) l'.length cp))) := Lib.hid (((Only.refl (fun q => q = w.heap.size) w1).setCell (p := ⟨w.heap.size, 0, none⟩) (.inl rfl) _).setCell (p := ⟨w.heap.size, 1, none⟩) (.inl rfl) _)
  have e0 : ((w1.setCell ⟨w.heap.size, 0, none⟩ (.int .i64 kind)).setCell ⟨w.heap.size, 1, none⟩ (.slice (some ⟨g, 0, none⟩) l'.length cp)).cell? ⟨w.heap.size, 0, none⟩ = some (.int .i64 kind) := by rw [cell_other (off_ne (by omega))]; exact HE.out.1
  have e1 := HE.out.2
  have HRD1 : Hid (ReadsL ((w1.setCell ⟨w.heap.size, 0, none⟩ (.int .i64 kind)).setCell ⟨w.heap.size, 1, none⟩ (.slice (some ⟨g, 0, none⟩) l'.length cp)) (some ⟨g, 0, none⟩) l'.length l') := Lib.hid (hrd1.only HS.out (fun x hx e => by injection hx with hx; subst hx; have e : g = w.heap.size := e; have := HBF.out.2.2; omega))
  have HO1 : Hid (Only (fun _ => False) w ((w1.setCell ⟨w.heap.size, 0, none⟩ (.int .i64 kind)).setCell ⟨w.heap.size, 1, none⟩ (.slice (some ⟨g, 0, none⟩) l'.length cp))) := Lib.hid ((HO0.out.trans ho1).then HS.out (fun q hq e => by omega))
  clear hrd1 hcp1 hg1 ho1
  go_wp2_with fail
  generalize (w1.setCell ⟨w.heap.size, 0, none⟩ (.int .i64 kind)).setCell ⟨w.heap.size, 1, none⟩ (.slice (some ⟨g, 0, none⟩) l'.length cp) = wA at *
  clear k0 k1 hlt1 f0 f1 HE HS HBX HBF HTM HO HO0
  have HE0 := Lib.hid (And.intro e0 e1)
  have HLN := Lib.hid hlen
  refine (to_any kind _ _ cp l' wA HRD1.out HLN.out).mono ?_
  rintro _ w2 ⟨a3, cp3, rfl, hrd3, hcp3, hn3, ho3⟩
  have m0 := ho3.cell' e0 (fun f => f)
  have m1 := ho3.cell' e1 (fun f => f)
  have HRD2 := Lib.hid (HRD1.out.only ho3 (fun _ _ f => f))
  have HO2 := Lib.hid (HO1.out.trans ho3)
  generalize (some ⟨g, 0, none⟩ : Option Addr) = ag at *
  obtain ⟨W0, hW0⟩ : ∃ W0, W0 = w2.alloc (.cells #[.int .i64 kind, .slice a3 l'.length cp3] 28) := ⟨_, rfl⟩
  have hXO : Only (fun _ => False) w2 W0 := by rw [hW0]; exact (Only.refl _ w2).alloc _
  have x0 : W0.cell? ⟨w2.heap.size, 0, none⟩ = some (.int .i64 kind) := by rw [hW0]; exact alloc_new _ _ _ _ _ _ rfl rfl
  have x1 : W0.cell? ⟨w2.heap.size, 1, none⟩ = some (.slice a3 l'.length cp3) := by rw [hW0]; exact alloc_new _ _ _ _ _ _ rfl rfl
  have z0 := hXO.cell' m0 (fun f => f)
  have z1 := hXO.cell' m1 (fun f => f)
  have HF0 := Lib.hid (HO2.out.trans hXO)
  have HEX : Hid (∀ w', Only (fun _ => False) W0 w' → ReadsL w' ag l'.length l' ∧ ReadsL w' a3 l'.length l') := Lib.hid (fun w' ho =>
    ⟨HRD2.out.only (hXO.trans ho) (fun _ _ f => f), hrd3.only (hXO.trans ho) (fun _ _ f => f)⟩)
  have HCL : Hid (∀ w', Only (fun _ => False) W0 w' → w'.cell? ⟨w.heap.size, 0, none⟩ = some (.int .i64 kind) ∧ w'.cell? ⟨w.heap.size, 1, none⟩ = some (.slice ag l'.length cp) ∧ w'.cell? ⟨w2.heap.size, 0, none⟩ = some (.int .i64 kind) ∧ w'.cell? ⟨w2.heap.size, 1, none⟩ = some (.slice a3 l'.length cp3)) := Lib.hid (fun w' ho =>
    ⟨ho.cell' z0 (fun f => f), ho.cell' z1 (fun f => f), ho.cell' x0 (fun f => f), ho.cell' x1 (fun f => f)⟩)
  have HLN : Hid (l'.length ≤ 70) := Lib.hid hlen
  clear hrd3 hcp3 hn3 ho3 e0 e1 hXO x0 x1 m0 m1 HRD2 HO2 HRD1 HO1 HE0 hlen
  rw [hW0] at z0 z1
  go_wp2_with fail
  rw [← hW0]
  clear z0 z1
  refine (rcheck_any kind ag l'.length cp l' _ (HEX.out _ (Only.refl _ _)).1).mono ?_
  rintro _ w3 ⟨rfl, ho3⟩
  clear hW0
  obtain ⟨p0, p1, p2, p3⟩ := HCL.out w3 ho3
  have HE3 := Lib.hid (HEX.out w3 ho3)
  have HO3 := Lib.hid ho3
  clear ho3
  rw [HQ.out]
  go_wp2_with fail
  refine (ewrite_yes kind a3 _ cp3 l' _ HE3.out.2 HQ.out).mono ?_
  rintro _ w4 ⟨vb, rfl, hvb, ho4, hkb⟩
  obtain ⟨ab, nb, cb, rfl, hB4⟩ := bytes_of_own hvb
  have HO4 := Lib.hid (HO3.out.trans ho4)
  have HB := Lib.hid (fun w' (ho : Only (fun _ => False) w4 w') => hB4.only ho (fun _ _ f => f))
  clear hvb hkb hB4
  clear ho4 HE3 HO3 p0 p1 p2 p3
  obtain ⟨p0, p1, p2, p3⟩ := HCL.out w4 HO4.out
  have HOK := Lib.hid ((chk_ok kind l').1 HQ.out).2.2.1
  have HKI : Hid (InI kind) := Lib.hid (by have := kind_in ((chk_ok kind l').1 HQ.out).1; exact ⟨by omega, by omega⟩)
  have HSM : Hid (sumOf kind l' = posSum l') := Lib.hid (by unfold sumOf; rw [if_pos HQ.out])
  obtain ⟨T, HT⟩ : ∃ T, Hid (strN (encE kind l') = T) := ⟨_, Lib.hid rfl⟩
  go_wp2_with fail
  go_loopw [7, 8] (fun s i wr => ∃ k : Nat, k ≤ l'.length ∧ i = .int .i64 k ∧ s = .int .i64 (posSum (l'.take k)) ∧ Hid (Only (fun _ => False) w4 wr)) (fun _ i _ => l'.length - (intOf i).toNat)
  case atStart => exact ⟨0, by omega, rfl, by simp [posSum], Lib.hid (Only.refl _ _)⟩
  case round =>
    obtain ⟨k, hk, rfl, rfl, HW4⟩ := hrel
    have HW : Hid (Only (fun _ => False) W0 wr) := Lib.hid (HO4.out.trans HW4.out)
    obtain ⟨p0, p1, p2, p3⟩ := HCL.out wr HW.out
    have hm70 : l'.length ≤ 70 := HLN.out
    by_cases h8 : k < l'.length
    · obtain ⟨hrx, _⟩ := HEX.out wr HW.out
      obtain ⟨b3, off3, rfl, hcx⟩ := hrx.2.2.2.resolve_left (by omega)
      obtain ⟨_, _, _, c3⟩ := hcx k h8
      have HST := Lib.hid (posSum_step l' k h8)
      have hs0 := posSum_nonneg (l'.take k)
      have hs1 : posSum (l'.take k) ≤ 9007199254740992 * 70 := by
        have h1 := posSum_le (l'.take k) (fun l hl => (HOK.out l (List.mem_of_mem_take hl)).2)
        have h2 : (l'.take k).length ≤ 70 := by rw [List.length_take]; omega
        omega
      have hla := amt_bound (HOK.out _ (getL_mem l' k h8)).2
      generalize posSum (l'.take k) = s at *
      generalize (l'.getD k default).a = x at *
      clear hrx hcx
      go_wp2_with fail
      go_round
      case rel => exact ⟨k + 1, by omega, by go_num, by rw [HST.out], HW4⟩
      case measure => simp [intOf]; omega
    · obtain rfl : k = l'.length := by omega
      have hsum : posSum (l'.take l'.length) = posSum l' := by rw [List.take_of_length_le (by omega)]
      rw [hsum]
      clear hsum
      have HS0 : Hid (∀ w', Only (fun _ => False) wr w' → Only (fun _ => False) wr w' ∧ w'.cell? ⟨w.heap.size, 0, none⟩ = some (.int .i64 kind) ∧ w'.cell? ⟨w.heap.size, 1, none⟩ = some (.slice ag l'.length cp) ∧ w'.cell? ⟨w2.heap.size, 0, none⟩ = some (.int .i64 kind) ∧ w'.cell? ⟨w2.heap.size, 1, none⟩ = some (.slice a3 l'.length cp3)) := Lib.hid (fun w' ho => ⟨ho, HCL.out w' (HW.out.trans ho)⟩)
      have HCX : Hid (∀ w', Only (fun _ => False) wr w' → Calls Try.prog 20 #[.agg #[.int .i64 kind, .slice a3 l'.length cp3]] w' fun e w'' => e = .returned (.int .i64 (chk kind l')) ∧ Only (fun _ => False) w' w'') := Lib.hid (fun w' ho => check_any kind a3 l'.length cp3 l' w' (HEX.out w' (HW.out.trans ho)).2)
      have HSU : Hid (∀ w', Only (fun _ => False) wr w' → Calls Try.prog 21 #[.agg #[.int .i64 kind, .slice a3 l'.length cp3]] w' fun e w'' => e = .returned (.int .i64 (sumOf kind l')) ∧ Only (fun _ => False) w' w'') := Lib.hid (fun w' ho => sum_any kind a3 l'.length cp3 l' w' (HEX.out w' (HW.out.trans ho)).2)
      have HFROM : Hid (∀ w', Only (fun _ => False) wr w' → Calls Try.prog 23 #[.agg #[.int .i64 kind, .slice a3 l'.length cp3]] w' (LegsMade kind l' w')) := Lib.hid (fun w' ho => from_any kind a3 l'.length cp3 l' w' (HEX.out w' (HW.out.trans ho)).2 (by have := HLN.out; omega))
      have HSAME : Hid (∀ w' a' cp', ReadsL w' a' l'.length l' → Only (fun _ => False) wr w' → Calls Try.prog 22 #[.agg #[.int .i64 kind, .slice a' l'.length cp'], .agg #[.int .i64 kind, .slice ag l'.length cp]] w' fun e w'' => e = .returned (.bool true) ∧ Only (fun _ => False) w' w'') := Lib.hid (fun w' a' cp' hr ho => same_yes kind a' ag l'.length cp' cp l' w' hr (HEX.out w' (HW.out.trans ho)).1)
      have HWR : Hid (∀ w', Only (fun _ => False) W0 w' → Calls Try.prog 25 #[.agg #[.int .i64 kind, .slice ag l'.length cp]] w' fun e w'' => e = .returned (.string T) ∧ Only (fun _ => False) w' w'') := Lib.hid (fun w' ho => by
        have := rwrite_any kind HKI.out ag l'.length cp l' w' (HEX.out w' ho).1 (by have := HLN.out; omega)
        rw [HT.out] at this
        exact this)
      have HCONV : Hid (∀ w', Only (fun _ => False) w4 w' → (convert 32 9 (.slice ab nb cb)).run Try.prog w' = .ok (.string T) w') := Lib.hid (fun w' ho => by
        have := conv_reads (HB.out w' ho).1 cb
        rw [HT.out] at this
        exact this)
      have HRE : Hid (∀ w', Only (fun _ => False) w4 w' → Calls Try.prog 24 #[.slice ab nb cb] w' (ReadAt kind l' w')) := Lib.hid (fun w' ho => eread_yes kind ab nb cb l' w' (HB.out w' ho) HQ.out HIN.out)
      rw [HSM.out] at HSU
      rw [HQ.out] at HCX
      have HF : Hid (Only (fun _ => False) w wr) := Lib.hid (HF0.out.trans HW.out)
      generalize posSum l' = S at *
      obtain ⟨_, z1, z2, z3, z4⟩ := HS0.out wr (Only.refl _ _)
      go_wp2_with fail
      go_region_held3 (fun w' => Only (fun _ => False) wr w' ∧ w'.cell? ⟨w.heap.size, 0, none⟩ = some (.int .i64 kind) ∧ w'.cell? ⟨w.heap.size, 1, none⟩ = some (.slice ag l'.length cp) ∧ w'.cell? ⟨w2.heap.size, 0, none⟩ = some (.int .i64 kind) ∧ w'.cell? ⟨w2.heap.size, 1, none⟩ = some (.slice a3 l'.length cp3))
        ((refine HS0.out _ ?_; first | exact (Only.refl _ _).drew | exact Only.refl _ _ | (go_split_ands; exact Only.trans (by assumption) ho)))
        (first | (go_at_call 19; (with_reducible refine (ents_any _).mono ?_); rintro _ wn ⟨rfl, ho⟩) | (go_at_call 20; (with_reducible refine (HCX.out _ (by go_split_ands; assumption)).mono ?_); rintro _ wn ⟨rfl, ho⟩) | (go_at_call 21; (with_reducible refine (HSU.out _ (by go_split_ands; assumption)).mono ?_); rintro _ wn ⟨rfl, ho⟩) | (go_at_call 23; (with_reducible refine (HFROM.out _ (by go_split_ands; assumption)).mono ?_); rintro _ wn ⟨an, cn, rfl, hrn, _, _, ho⟩) | (go_at_call 22; (with_reducible refine (HSAME.out _ _ _ (by assumption) (by go_split_ands; assumption)).mono ?_); rintro _ wn ⟨rfl, ho⟩))
      have HFF : Hid (Only (fun _ => False) wr wn) := Lib.hid (by go_split_ands; assumption)
      go_wp2_with fail
      refine (HRE.out wn (HW4.out.trans HFF.out)).mono ?_
      rintro _ w5 ⟨gy, cy, rfl, hry, _, ho5⟩
      obtain ⟨W5, hW5⟩ : ∃ W5, W5 = w5.alloc (.cells #[.int .i64 kind, .slice (some ⟨gy, 0, none⟩) l'.length cy] 28) := ⟨_, rfl⟩
      have hX5 : Only (fun _ => False) w5 W5 := by rw [hW5]; exact (Only.refl _ w5).alloc _
      have y0 : W5.cell? ⟨w5.heap.size, 0, none⟩ = some (.int .i64 kind) := by rw [hW5]; exact alloc_new _ _ _ _ _ _ rfl rfl
      have y1 : W5.cell? ⟨w5.heap.size, 1, none⟩ = some (.slice (some ⟨gy, 0, none⟩) l'.length cy) := by rw [hW5]; exact alloc_new _ _ _ _ _ _ rfl rfl
      have HN5 : Hid (Only (fun _ => False) wr W5) := Lib.hid ((HFF.out.trans ho5).trans hX5)
      have HY5 : Hid (∀ w', Only (fun _ => False) W5 w' → Calls Try.prog 23 #[.agg #[.int .i64 kind, .slice (some ⟨gy, 0, none⟩) l'.length cy]] w' (LegsMade kind l' w')) := Lib.hid (fun w' ho => from_any kind _ l'.length cy l' w' (hry.only (hX5.trans ho) (fun _ _ f => f)) (by have := HLN.out; omega))
      have HS5 : Hid (∀ w', Only (fun _ => False) W5 w' → Only (fun _ => False) W5 w' ∧ w'.cell? ⟨w.heap.size, 0, none⟩ = some (.int .i64 kind) ∧ w'.cell? ⟨w.heap.size, 1, none⟩ = some (.slice ag l'.length cp) ∧ w'.cell? ⟨w5.heap.size, 0, none⟩ = some (.int .i64 kind) ∧ w'.cell? ⟨w5.heap.size, 1, none⟩ = some (.slice (some ⟨gy, 0, none⟩) l'.length cy) ∧ (convert 32 9 (.slice ab nb cb)).run Try.prog w' = .ok (.string T) w') := Lib.hid (fun w' ho =>
        have h := HCL.out w' (HW.out.trans (HN5.out.trans ho))
        ⟨ho, h.1, h.2.1, ho.cell' y0 (fun f => f), ho.cell' y1 (fun f => f), HCONV.out w' (HW4.out.trans (HN5.out.trans ho))⟩)
      clear hry ho5 hX5 y0 y1 HCX HSU HFROM HRE HS0 z1 z2 z3 z4 p0 p1 p2 p3
      obtain ⟨_, z1, z2, z3, z4, z5⟩ := HS5.out W5 (Only.refl _ _)
      rw [hW5] at z1 z2 z3 z4 z5
      go_wp2_with fail
      rw [← hW5] at *
      clear hW5
      go_region_held3 (fun w' => Only (fun _ => False) W5 w' ∧ w'.cell? ⟨w.heap.size, 0, none⟩ = some (.int .i64 kind) ∧ w'.cell? ⟨w.heap.size, 1, none⟩ = some (.slice ag l'.length cp) ∧ w'.cell? ⟨w5.heap.size, 0, none⟩ = some (.int .i64 kind) ∧ w'.cell? ⟨w5.heap.size, 1, none⟩ = some (.slice (some ⟨gy, 0, none⟩) l'.length cy) ∧ (convert 32 9 (.slice ab nb cb)).run Try.prog w' = .ok (.string T) w')
        ((refine HS5.out _ ?_; first | exact (Only.refl _ _).drew | exact Only.refl _ _ | (go_split_ands; exact Only.trans (by assumption) ho)))
        (first | (go_at_call 25; (with_reducible refine (HWR.out _ (HW.out.trans (HN5.out.trans (by go_split_ands; assumption)))).mono ?_); rintro _ wm ⟨rfl, ho⟩) | (go_at_call 23; (with_reducible refine (HY5.out _ (by go_split_ands; assumption)).mono ?_); rintro _ wm ⟨an, cn, rfl, hrn, _, _, ho⟩) | (go_at_call 22; (with_reducible refine (HSAME.out _ _ _ (by assumption) (HN5.out.trans (by go_split_ands; assumption))).mono ?_); rintro _ wm ⟨rfl, ho⟩))
      have HFE : Hid (Only (fun _ => False) W5 wm) := Lib.hid (by go_split_ands; assumption)
      go_wp2_with fail
      go_ret
      exact ⟨rfl, HF.out.trans (HN5.out.trans HFE.out)⟩

end Go.Proofs.Ytlldecklngcklaa.entw
