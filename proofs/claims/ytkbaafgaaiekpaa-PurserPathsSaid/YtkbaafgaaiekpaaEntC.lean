/- Entries: Sum, a path, the two sides of a leg. -/
import Derived.Test.YtkbaafgaaiekpaaEntB
import Derived.RegionTactic
import Derived.ChangeAlike
namespace Go.Proofs.Ytkbaafgaaiekpaa.entw
open Go.RowKit mem entm
set_option linter.unusedVariables false

def sumOf (kind : Int) (ls : List Lg) : Int := if chk kind ls = 0 then posSum ls else 0
theorem posSum_step (ls : List Lg) (k : Nat) (h : k < ls.length) : posSum (ls.take (k + 1)) = posSum (ls.take k) + max (ls.getD k default).a 0 := by
  rw [List.take_succ_eq_append_getElem h, posSum_append, posSum_cons]
  have : ls.getD k default = ls[k] := by simp [List.getD, h]
  rw [this]; simp [posSum]

def PathOK (l : List Int) : Prop := 1 ≤ l.length ∧ l.length ≤ 3 ∧ l.Nodup
instance (l : List Int) : Decidable (PathOK l) := inferInstanceAs (Decidable (_ ∧ _))
def pathB (l : List Int) : Bool := decide (PathOK l)
theorem path_no {l : List Int} (h : ¬ PathOK l) : pathB l = false := by unfold pathB; rw [decide_eq_false_iff_not]; exact h
theorem path_yes {l : List Int} (h : PathOK l) : pathB l = true := by unfold pathB; rw [decide_eq_true_eq]; exact h

theorem nodup_step {l : List Int} {k : Nat} (h : (l.take k).Nodup) (hk : k < l.length) (hc : (l.take k).contains (l.getD k 0) = false) : (l.take (k + 1)).Nodup := by
  rw [List.take_succ_eq_append_getElem hk, List.nodup_append]
  refine ⟨h, by simp, ?_⟩
  intro x hx y hy e
  have e2 : l.getD k 0 = l[k] := by simp [List.getD, hk]
  rw [List.mem_singleton] at hy
  rw [e2] at hc
  subst hy; subst e
  simp at hc
  exact hc hx
theorem nodup_no {l : List Int} {k : Nat} (hk : k < l.length) (hc : (l.take k).contains (l.getD k 0) = true) : ¬ l.Nodup := by
  intro h
  have e2 : l.getD k 0 = l[k] := by simp [List.getD, hk]
  rw [e2] at hc
  have h2 : (l.take (k + 1)).Nodup := h.sublist (List.take_sublist _ _)
  rw [List.take_succ_eq_append_getElem hk, List.nodup_append] at h2
  have hm : l[k] ∈ l.take k := by simpa using hc
  exact h2.2.2 _ hm _ (by simp) rfl

set_option maxHeartbeats 1000000 in
theorem path_any (a : Option Addr) (len cap : Nat) (l : List Int) (w : World) (h : ReadsI w a len l) (hlc : len ≤ cap) (hcm : cap ≤ 9223372036854775807) :
    Calls Try.prog 76 #[.slice a len cap] w fun e w' => e = .returned (.bool (pathB l)) ∧ w = w' := by
  have H := Lib.hid h
  clear h
  by_cases h1 : len < 1
  · have HR : Hid (pathB l = false) := Lib.hid (path_no (by unfold PathOK; rw [H.out.1]; omega))
    go_enter Try.func76, Try.ntmps76
    go_wp2_with fail
    rw [HR.out]
    go_ret
    exact ⟨rfl, rfl⟩
  · by_cases h3 : 3 < len
    · have HR : Hid (pathB l = false) := Lib.hid (path_no (by unfold PathOK; rw [H.out.1]; omega))
      go_enter Try.func76, Try.ntmps76
      go_wp2_with fail
      rw [HR.out]
      go_ret
      exact ⟨rfl, rfl⟩
    · obtain ⟨b, off, rfl, hcell⟩ := H.out.2.2.2.resolve_left (by omega)
      have HC := Lib.hid hcell
      have HL := Lib.hid H.out.1
      have HCT : Hid (∀ n c x, n ≤ len → Calls Try.prog 34 #[.slice (some ⟨b, off, none⟩) n c, .int .i64 x] w fun e w' => e = .returned (.bool ((l.take n).contains x)) ∧ w' = w) := Lib.hid (fun n c x hn =>
        Try.slices_Contains_int b off n c l x w (by rw [HL.out]; exact hn) (by omega) (fun j hj => HC.out j (by rw [← HL.out]; exact hj)))
      clear hcell
      go_enter Try.func76, Try.ntmps76
      go_wp2_with fail
      go_loop [15] (fun i => ∃ k : Nat, k ≤ len ∧ i = .int .i64 k ∧ Hid ((l.take k).Nodup)) (fun i => len - (intOf i).toNat)
      case atStart => exact ⟨0, by omega, rfl, Lib.hid (by simp)⟩
      case round =>
        obtain ⟨k, hk, rfl, HP⟩ := hrel
        by_cases h8 : k < len
        · have hcl := HC.out k h8
          have hk0 : (0 : Int) ≤ (k : Int) := by omega
          have hkc : (k : Int) ≤ (cap : Int) := by omega
          cases hq : (l.take k).contains (l.getD k 0) with
          | true =>
            have HR : Hid (pathB l = false) := Lib.hid (path_no (by rintro ⟨_, _, h⟩; exact nodup_no (by rw [HL.out]; exact h8) hq h))
            have HQ := Lib.hid hq
            clear hq
            generalize l.getD k 0 = x at *
            go_wp2_with fail
            refine (HCT.out k _ x hk).mono ?_
            rintro _ _ ⟨rfl, rfl⟩
            rw [HQ.out]
            go_wp2_with fail
            rw [HR.out]
            go_ret
            exact ⟨rfl, rfl⟩
          | false =>
            have HN := Lib.hid (nodup_step HP.out (by rw [HL.out]; exact h8) hq)
            have HQ := Lib.hid hq
            clear hq
            generalize l.getD k 0 = x at *
            go_wp2_with fail
            refine (HCT.out k _ x hk).mono ?_
            rintro _ _ ⟨rfl, rfl⟩
            rw [HQ.out]
            go_wp2_with fail
            go_round
            case rel => exact ⟨k + 1, by omega, by go_num, HN⟩
            case measure => simp [intOf]; omega
        · obtain rfl : k = len := by omega
          have HR : Hid (pathB l = true) := Lib.hid (by
            refine path_yes ⟨by rw [HL.out]; omega, by rw [HL.out]; omega, ?_⟩
            have := HP.out
            rwa [List.take_of_length_le (by rw [HL.out]; omega)] at this)
          go_wp2_with fail
          rw [HR.out]
          go_ret
          exact ⟨rfl, rfl⟩
end Go.Proofs.Ytkbaafgaaiekpaa.entw
