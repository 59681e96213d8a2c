/- Entries: Sum, a path, the two sides of a leg. -/
import Derived.Test.YtdjiljkdnpmilaaEntB
import Derived.RegionTactic
import Derived.ChangeAlike
namespace Go.Proofs.Ytdjiljkdnpmilaa.entw
open Go.RowKit mem entm
set_option linter.unusedVariables false

def sumOf (kind : Int) (ls : List Lg) : Int := if chk kind ls = 0 then posSum ls else 0
theorem posSum_step (ls : List Lg) (k : Nat) (h : k < ls.length) : posSum (ls.take (k + 1)) = posSum (ls.take k) + max (ls.getD k default).a 0 := by
  rw [List.take_succ_eq_append_getElem h, posSum_append, posSum_cons]
  have : ls.getD k default = ls[k] := by simp [List.getD, h]
  rw [this]; simp [posSum]

set_option maxHeartbeats 1000000 in
theorem sum_any (kind : Int) (a : Option Addr) (len cap : Nat) (ls : List Lg) (w : World) (h : ReadsL w a len ls) :
    Calls Try.prog 32 #[.agg #[.int .i64 kind, .slice a len cap]] w fun e w' => e = .returned (.int .i64 (sumOf kind ls)) ∧ Only (fun _ => False) w w' := by
  obtain ⟨w0, hw0⟩ : ∃ w0, w0 = w.alloc (Obj.cells #[Value.int IntKind.i64 kind, Value.slice a len cap] 25) := ⟨_, rfl⟩
  have hbx : w0.cell? ⟨w.heap.size, 1, none⟩ = some (.slice a len cap) := by rw [hw0]; exact alloc_new _ _ _ _ _ _ rfl rfl
  have hby : w0.cell? ⟨w.heap.size, 0, none⟩ = some (.int .i64 kind) := by rw [hw0]; exact alloc_new _ _ _ _ _ _ rfl rfl
  have HO0 : Hid (Only (fun _ => False) w w0) := by rw [hw0]; exact Lib.hid ((Only.refl _ w).alloc _)
  have H0 := Lib.hid (h.only HO0.out (fun _ _ f => f))
  have H := Lib.hid h
  have hm := h.2.1
  have HC := Lib.hid (check_any kind a len cap ls w0 H0.out)
  clear h
  by_cases hc : chk kind ls = 0
  · have HR : Hid (sumOf kind ls = posSum ls) := Lib.hid (by unfold sumOf; rw [if_pos hc])
    obtain ⟨_, ⟨hl2, hl64⟩, hok, _⟩ := (chk_ok kind ls).1 hc
    have HOK := Lib.hid hok
    have HL := Lib.hid H.out.1
    have HH := Lib.hid hc
    have h2 : 2 ≤ len := by have := HL.out; omega
    have h64 : len ≤ 64 := by have := HL.out; omega
    obtain ⟨b, off, rfl, hcell⟩ := H.out.2.2.2.resolve_left (by omega)
    have HCL := Lib.hid hcell
    clear hc hok hl2 hl64 hcell
    go_enter Try.func32, Try.ntmps32
    rw [HR.out]
    go_wp2_with fail
    rw [← hw0]
    refine (HC.out).mono ?_
    rintro _ w1 ⟨rfl, ho1⟩
    have hbx1 := ho1.cell' hbx (fun f => f)
    have HO1 := Lib.hid (HO0.out.trans ho1)
    rw [HH.out]
    clear ho1 hw0 hbx hby HC H0 HO0
    go_wp2_with fail
    go_loopw [3, 12] (fun sv i wr => ∃ (k : Nat), k ≤ len ∧ i = .int .i64 k ∧ sv = .int .i64 (posSum (ls.take k)) ∧ Hid (Only (fun _ => False) w1 wr)) (fun _ i _ => len - (intOf i).toNat)
    case atStart => exact ⟨0, by omega, rfl, rfl, Lib.hid (Only.refl _ _)⟩
    case round =>
      obtain ⟨k, hk, rfl, rfl, HW⟩ := hrel
      by_cases h8 : k < len
      · have HWr : Hid (Only (fun _ => False) w wr) := Lib.hid (HO1.out.trans HW.out)
        obtain ⟨hc0, hc1, hc2, hc3⟩ := HCL.out k h8
        have c0 := HWr.out.cell' hc0 (fun f => f)
        have c1 := HWr.out.cell' hc1 (fun f => f)
        have c2 := HWr.out.cell' hc2 (fun f => f)
        have c3 := HWr.out.cell' hc3 (fun f => f)
        have HB := Lib.hid (amt_bound (HOK.out _ (getL_mem ls k (by rw [HL.out]; exact h8))).2)
        have HN := Lib.hid (posSum_step ls k (by rw [HL.out]; exact h8))
        have hle := posSum_le (ls.take k) (fun l hl => (HOK.out l (List.mem_of_mem_take hl)).2)
        have hnn := posSum_nonneg (ls.take k)
        have htl : (ls.take k).length = k := by rw [List.length_take, HL.out]; omega
        rw [htl] at hle
        clear hc0 hc1 hc2 hc3 htl
        generalize ls.getD k default = l at *
        obtain ⟨lk, ln, lg, la⟩ := l
        dsimp only at c0 c1 c2 c3
        have hla : -9007199254740992 ≤ la ∧ la ≤ 9007199254740992 := ⟨HB.out.1, HB.out.2.1⟩
        have HO2 : Hid (∀ o, Only (fun _ => False) w1 (wr.alloc o)) := Lib.hid (fun o => HW.out.alloc o)
        by_cases hp : 0 < la
        · have HN2 : Hid (posSum (ls.take (k + 1)) = posSum (ls.take k) + la) := Lib.hid (by rw [HN.out]; show _ + max la 0 = _; omega)
          generalize posSum (ls.take k) = S at *
          go_wp2_with fail
          go_roundw
          case rel => exact ⟨k + 1, by omega, by go_num, by rw [HN2.out], Lib.hid (HO2.out _)⟩
          case measure => simp [intOf]; omega
        · have HN2 : Hid (posSum (ls.take (k + 1)) = posSum (ls.take k)) := Lib.hid (by rw [HN.out]; show _ + max la 0 = _; omega)
          generalize posSum (ls.take k) = S at *
          go_wp2_with fail
          go_roundw
          case rel => exact ⟨k + 1, by omega, by go_num, by rw [HN2.out], Lib.hid (HO2.out _)⟩
          case measure => simp [intOf]; omega
      · obtain rfl : k = len := by omega
        have HF : Hid (Only (fun _ => False) w wr) := Lib.hid (HO1.out.trans HW.out)
        have HT : Hid (ls.take k = ls) := Lib.hid (List.take_of_length_le (by rw [HL.out]; omega))
        rw [HT.out]
        go_wp2_with fail
        go_ret
        exact ⟨rfl, HF.out⟩
  · have HR : Hid (sumOf kind ls = 0) := Lib.hid (by unfold sumOf; rw [if_neg hc])
    have hc1 : (chk kind ls == 0) = false := by simpa using hc
    have hc2 : (chk kind ls != 0) = true := by simpa using hc
    generalize chk kind ls = c at *
    clear hc
    go_enter Try.func32, Try.ntmps32
    go_wp2_with fail
    rw [← hw0]
    refine (HC.out).mono ?_
    rintro _ w1 ⟨rfl, ho1⟩
    have HO1 := Lib.hid (HO0.out.trans ho1)
    clear ho1 hw0 hbx hby
    go_wp2_with fail
    rw [HR.out]
    go_ret
    exact ⟨rfl, HO1.out⟩

def PathOK (l : List Int) : Prop := 1 ≤ l.length ∧ l.length ≤ 3 ∧ l.Nodup
instance (l : List Int) : Decidable (PathOK l) := inferInstanceAs (Decidable (_ ∧ _))
def pathB (l : List Int) : Bool := decide (PathOK l)
theorem path_no {l : List Int} (h : ¬ PathOK l) : pathB l = false := by unfold pathB; rw [decide_eq_false_iff_not]; exact h
theorem path_yes {l : List Int} (h : PathOK l) : pathB l = true := by unfold pathB; rw [decide_eq_true_eq]; exact h

theorem nodup_step {l : List Int} {k : Nat} (h : (l.take k).Nodup) (hk : k < l.length) (hc : (l.take k).contains (l.getD k 0) = false) : (l.take (k + 1)).Nodup := by
  rw [List.take_succ_eq_append_getElem hk, List.nodup_append]
  refine ⟨h, by simp, ?_⟩
  intro x hx y hy e
  have e2 : l.getD k 0 = l[k] := by simp [List.getD, hk]
  rw [List.mem_singleton] at hy
  rw [e2] at hc
  subst hy; subst e
  simp at hc
  exact hc hx
theorem nodup_no {l : List Int} {k : Nat} (hk : k < l.length) (hc : (l.take k).contains (l.getD k 0) = true) : ¬ l.Nodup := by
  intro h
  have e2 : l.getD k 0 = l[k] := by simp [List.getD, hk]
  rw [e2] at hc
  have h2 : (l.take (k + 1)).Nodup := h.sublist (List.take_sublist _ _)
  rw [List.take_succ_eq_append_getElem hk, List.nodup_append] at h2
  have hm : l[k] ∈ l.take k := by simpa using hc
  exact h2.2.2 _ hm _ (by simp) rfl

set_option maxHeartbeats 1000000 in
theorem path_any (a : Option Addr) (len cap : Nat) (l : List Int) (w : World) (h : ReadsI w a len l) (hlc : len ≤ cap) (hcm : cap ≤ 9223372036854775807) :
    Calls Try.prog 29 #[.slice a len cap] w fun e w' => e = .returned (.bool (pathB l)) ∧ w = w' := by
  have H := Lib.hid h
  clear h
  by_cases h1 : len < 1
  · have HR : Hid (pathB l = false) := Lib.hid (path_no (by unfold PathOK; rw [H.out.1]; omega))
    go_enter Try.func29, Try.ntmps29
    go_wp2_with fail
    rw [HR.out]
    go_ret
    exact ⟨rfl, rfl⟩
  · by_cases h3 : 3 < len
    · have HR : Hid (pathB l = false) := Lib.hid (path_no (by unfold PathOK; rw [H.out.1]; omega))
      go_enter Try.func29, Try.ntmps29
      go_wp2_with fail
      rw [HR.out]
      go_ret
      exact ⟨rfl, rfl⟩
    · obtain ⟨b, off, rfl, hcell⟩ := H.out.2.2.2.resolve_left (by omega)
      have HC := Lib.hid hcell
      have HL := Lib.hid H.out.1
      have HCT : Hid (∀ n c x, n ≤ len → Calls Try.prog 45 #[.slice (some ⟨b, off, none⟩) n c, .int .i64 x] w fun e w' => e = .returned (.bool ((l.take n).contains x)) ∧ w' = w) := Lib.hid (fun n c x hn =>
        Try.slices_Contains_int b off n c l x w (by rw [HL.out]; exact hn) (by omega) (fun j hj => HC.out j (by rw [← HL.out]; exact hj)))
      clear hcell
      go_enter Try.func29, Try.ntmps29
      go_wp2_with fail
      go_loop [15] (fun i => ∃ k : Nat, k ≤ len ∧ i = .int .i64 k ∧ Hid ((l.take k).Nodup)) (fun i => len - (intOf i).toNat)
      case atStart => exact ⟨0, by omega, rfl, Lib.hid (by simp)⟩
      case round =>
        obtain ⟨k, hk, rfl, HP⟩ := hrel
        by_cases h8 : k < len
        · have hcl := HC.out k h8
          have hk0 : (0 : Int) ≤ (k : Int) := by omega
          have hkc : (k : Int) ≤ (cap : Int) := by omega
          cases hq : (l.take k).contains (l.getD k 0) with
          | true =>
            have HR : Hid (pathB l = false) := Lib.hid (path_no (by rintro ⟨_, _, h⟩; exact nodup_no (by rw [HL.out]; exact h8) hq h))
            have HQ := Lib.hid hq
            clear hq
            generalize l.getD k 0 = x at *
            go_wp2_with fail
            refine (HCT.out k _ x hk).mono ?_
            rintro _ _ ⟨rfl, rfl⟩
            rw [HQ.out]
            go_wp2_with fail
            rw [HR.out]
            go_ret
            exact ⟨rfl, rfl⟩
          | false =>
            have HN := Lib.hid (nodup_step HP.out (by rw [HL.out]; exact h8) hq)
            have HQ := Lib.hid hq
            clear hq
            generalize l.getD k 0 = x at *
            go_wp2_with fail
            refine (HCT.out k _ x hk).mono ?_
            rintro _ _ ⟨rfl, rfl⟩
            rw [HQ.out]
            go_wp2_with fail
            go_round
            case rel => exact ⟨k + 1, by omega, by go_num, HN⟩
            case measure => simp [intOf]; omega
        · obtain rfl : k = len := by omega
          have HR : Hid (pathB l = true) := Lib.hid (by
            refine path_yes ⟨by rw [HL.out]; omega, by rw [HL.out]; omega, ?_⟩
            have := HP.out
            rwa [List.take_of_length_le (by rw [HL.out]; omega)] at this)
          go_wp2_with fail
          rw [HR.out]
          go_ret
          exact ⟨rfl, rfl⟩
end Go.Proofs.Ytdjiljkdnpmilaa.entw
