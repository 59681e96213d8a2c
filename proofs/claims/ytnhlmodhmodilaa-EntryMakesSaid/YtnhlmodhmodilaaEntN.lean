/- Entries: the same; Opposite of any. -/
import Derived.Test.YtnhlmodhmodilaaEntL
namespace Go.Proofs.Ytnhlmodhmodilaa.entw
open Go.RowKit mem entm
set_option linter.unusedVariables false

theorem opp_opp (ls : List Lg) (h : ∀ l ∈ ls, InL l) : opp (opp ls) = ls := by
  unfold opp
  rw [List.map_map]
  refine (List.map_congr_left ?_).trans (List.map_id ls)
  intro l hl
  obtain ⟨_, _, _, ha⟩ := h l hl
  unfold InI at ha
  show ({ l with a := negI (negI l.a) } : Lg) = l
  have : negI (negI l.a) = l.a := by
    unfold negI
    by_cases e : l.a = -9223372036854775808
    · rw [if_pos e, if_pos e]
    · rw [if_neg e, if_neg (by omega)]; omega
  rw [this]

set_option maxHeartbeats 2000000 in
theorem same_yes (kind : Int) (a a' : Option Addr) (len cap cap' : Nat) (ls : List Lg) (w : World) (h : ReadsL w a len ls) (h' : ReadsL w a' len ls) :
    Calls Try.prog 6 #[.agg #[.int .i64 kind, .slice a len cap], .agg #[.int .i64 kind, .slice a' len cap']] w fun e w' => e = .returned (.bool true) ∧ Only (fun _ => False) w w' := by
  have H := Lib.hid h
  have H' := Lib.hid h'
  have hm := h.2.1
  have HW0 : Hid (∀ w0, w0 = (w.alloc (.cells #[.int .i64 kind, .slice a len cap] 31)).alloc (.cells #[.int .i64 kind, .slice a' len cap'] 31) →
      w0.cell? ⟨w.heap.size, 1, none⟩ = some (.slice a len cap) ∧ w0.cell? ⟨w.heap.size + 1, 1, none⟩ = some (.slice a' len cap') ∧ Only (fun _ => False) w w0) := Lib.hid (fun w0 e => by
    subst e
    exact ⟨((Only.refl (fun _ => False) _).alloc _).cell' (alloc_new _ _ _ _ _ _ rfl rfl) (fun f => f), alloc_new _ _ _ _ _ _ (by simp) rfl, ((Only.refl _ w).alloc _).alloc _⟩)
  clear h h'
  go_enter Try.func6, Try.ntmps6
  go_wp2_with fail
  obtain ⟨w0, hw0⟩ : ∃ w0, w0 = (w.alloc (.cells #[.int .i64 kind, .slice a len cap] 31)).alloc (.cells #[.int .i64 kind, .slice a' len cap'] 31) := ⟨_, rfl⟩
  have HF := Lib.hid (HW0.out w0 hw0)
  rw [← hw0]
  clear hw0 HW0
  go_loopw [5] (fun i wr => ∃ k : Nat, k ≤ len ∧ i = .int .i64 k ∧ Hid (Only (fun _ => False) w0 wr)) (fun i _ => len - (intOf i).toNat)
  case atStart => exact ⟨0, by omega, rfl, Lib.hid (Only.refl _ _)⟩
  case round =>
    obtain ⟨k, hk, rfl, HO⟩ := hrel
    have b1 := HO.out.cell' HF.out.1 (fun f => f)
    have b2 := HO.out.cell' HF.out.2.1 (fun f => f)
    have HOw := Lib.hid (HF.out.2.2.trans HO.out)
    by_cases h8 : k < len
    · obtain ⟨b, off, rfl, hcell⟩ := H.out.2.2.2.resolve_left (by omega)
      obtain ⟨b', off', rfl, hcell'⟩ := H'.out.2.2.2.resolve_left (by omega)
      obtain ⟨p0, p1, p2, p3⟩ := hcell k h8
      obtain ⟨q0, q1, q2, q3⟩ := hcell' k h8
      have c0 := HOw.out.cell' p0 (fun f => f)
      have c1 := HOw.out.cell' p1 (fun f => f)
      have c2 := HOw.out.cell' p2 (fun f => f)
      have c3 := HOw.out.cell' p3 (fun f => f)
      have d0 := HOw.out.cell' q0 (fun f => f)
      have d1 := HOw.out.cell' q1 (fun f => f)
      have d2 := HOw.out.cell' q2 (fun f => f)
      have d3 := HOw.out.cell' q3 (fun f => f)
      have hk0 : (0 : Int) ≤ (k : Int) := by omega
      have hkn : (k : Int) < (len : Int) := by omega
      have HD : Hid (∀ n, Only (fun _ => False) w0 (wr.drewN n)) := Lib.hid (fun n => only_drewN HO.out n)
      clear hcell hcell' p0 p1 p2 p3 q0 q1 q2 q3
      generalize ls.getD k default = l at *
      obtain ⟨lk, ln, lg, la⟩ := l
      dsimp only at c0 c1 c2 c3 d0 d1 d2 d3
      go_wp2_with fail
      go_quiet (fail)
      go_wp2_with fail
      exact ⟨⟨k + 1, by omega, by go_num, Lib.hid (HD.out _)⟩, by simp [intOf]; omega⟩
    · obtain rfl : k = len := by omega
      go_wp2_with fail
      go_ret
      exact ⟨rfl, HOw.out⟩
end Go.Proofs.Ytnhlmodhmodilaa.entw
