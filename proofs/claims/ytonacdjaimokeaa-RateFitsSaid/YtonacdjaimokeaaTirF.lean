/- Tariffs: the law's fixed two tiers. -/
import Derived.Test.YtonacdjaimokeaaTirE
namespace Go.Proofs.Ytonacdjaimokeaa.tirw
open Go.RowKit mem tirm intm
set_option linter.unusedVariables false

def twoT : List Tr := [⟨10, 3⟩, ⟨0, 2⟩]
set_option maxRecDepth 100000 in
theorem two_any (m : Int) (w : World) : Calls Try.prog 76 #[.int .i64 m] w fun e w' => ∃ g, e = .returned (.agg #[.int .i64 1, .int .i64 m, .int .i64 1, .slice (some ⟨g, 0, none⟩) 2 2]) ∧ ReadsT w' (some ⟨g, 0, none⟩) 2 twoT ∧ Only (fun _ => False) w w' := by
  go_enter Try.func76, Try.ntmps76
  go_wp2_with fail
  refine bodyPost_ret (v := .agg #[.int .i64 1, .int .i64 m, .int .i64 1, .slice (some ⟨w.heap.size + 1, 0, none⟩) 2 2]) (by simp [results, Try.results76, go_sem]) rfl ⟨w.heap.size + 1, rfl, ⟨rfl, by omega, ?_, .inr ⟨w.heap.size + 1, 0, rfl, fun i hi => ?_⟩⟩, ((Only.refl _ w).alloc _).alloc _⟩
  · intro x hx
    simp [twoT] at hx
    rcases hx with rfl | rfl <;> (unfold InI; dsimp only; omega)
  · have h2 : i = 0 ∨ i = 1 := by omega
    rcases h2 with rfl | rfl
    · exact ⟨alloc_new _ _ _ _ _ _ (by simp) rfl, alloc_new _ _ _ _ _ _ (by simp) rfl⟩
    · exact ⟨alloc_new _ _ _ _ _ _ (by simp) rfl, alloc_new _ _ _ _ _ _ (by simp) rfl⟩

set_option maxRecDepth 100000 in
set_option maxHeartbeats 2000000 in
theorem tiers_any (w : World) : Calls Try.prog 37 #[] w fun e w' => e = .returned (.bool true) ∧ Only (fun _ => False) w w' := by
  have k1 : tchk 1 1 1 twoT = 0 := by decide
  have k2 : tchk 1 2 1 twoT = 0 := by decide
  have g1 : gradF (8 + 5) 0 8 twoT = [⟨0, 2, 3⟩, ⟨1, 3, 2⟩] := by kernel_rfl
  have g2 : (⟨idxF (8 + 5) 0 twoT, 5, (twoT.getD (idxF (8 + 5) 0 twoT).toNat default).p⟩ : Ln) = ⟨1, 5, 2⟩ := by kernel_rfl
  have HS1 : Hid (∀ g w, ReadsT w (some ⟨g, 0, none⟩) 2 twoT → Calls Try.prog 54 #[.agg #[.int .i64 1, .int .i64 1, .int .i64 1, .slice (some ⟨g, 0, none⟩) 2 2], .int .i64 8, .int .i64 5] w (LinesAt [⟨0, 2, 3⟩, ⟨1, 3, 2⟩] w)) := Lib.hid (fun g w h => by
    have := split_grad 1 1 (some ⟨g, 0, none⟩) 2 2 twoT 8 5 w h k1 (by omega) (by omega) (by omega) (by omega)
    rw [g1] at this
    exact this)
  have HS2 : Hid (∀ g w, ReadsT w (some ⟨g, 0, none⟩) 2 twoT → Calls Try.prog 54 #[.agg #[.int .i64 1, .int .i64 2, .int .i64 1, .slice (some ⟨g, 0, none⟩) 2 2], .int .i64 8, .int .i64 5] w (LinesAt [⟨1, 5, 2⟩] w)) := Lib.hid (fun g w h => by
    have := split_vol 1 1 (some ⟨g, 0, none⟩) 2 2 twoT 8 5 w h k2 (by omega) (by omega) (by omega) (by omega)
    rw [g2] at this
    exact this)
  clear k1 k2 g1 g2
  go_enter Try.func37, Try.ntmps37
  go_wp2_with fail
  refine (two_any 1 _).mono ?_
  rintro _ w1 ⟨g1, rfl, hr1, h1⟩
  go_wp2_with fail
  refine (HS1.out _ _ hr1).mono ?_
  rintro _ w2 ⟨a1, c1, rfl, hn1, h2⟩
  have H2 := Lib.hid (h1.trans h2)
  have HN1 := Lib.hid hn1
  clear h1 h2 hr1 hn1
  go_wp2_with fail
  refine (two_any 2 _).mono ?_
  rintro _ w3 ⟨g3, rfl, hr3, h3⟩
  go_wp2_with fail
  refine (HS2.out _ _ hr3).mono ?_
  rintro _ w4 ⟨a4, c4, rfl, hn4, h4⟩
  have H4 := Lib.hid (H2.out.trans (h3.trans h4))
  obtain ⟨b1, off1, rfl, hc1⟩ := (HN1.out.only (h3.trans h4) (fun _ _ f => f)).2.resolve_left (by simp)
  obtain ⟨b4, off4, rfl, hc4⟩ := hn4.2.resolve_left (by simp)
  have d0 := hc1 0 (by simp)
  have d1 := hc1 1 (by simp)
  have d4 := hc4 0 (by simp)
  simp at d0 d1 d4
  obtain ⟨d00, d01, d02⟩ := d0
  obtain ⟨d10, d11, d12⟩ := d1
  obtain ⟨d40, d41, d42⟩ := d4
  clear h3 h4 hr3 hn4 hc1 hc4 HN1
  go_wp2_with fail
  go_ret
  exact ⟨rfl, H4.out⟩
end Go.Proofs.Ytonacdjaimokeaa.tirw
