/- Tariffs: are two rows of lines the same; two tariffs. -/
import Derived.Test.YtfdaokjigjpomaaTirG
namespace Go.Proofs.Ytfdaokjigjpomaa.tirw
open Go.RowKit mem tirm intm
set_option linter.unusedVariables false

set_option maxRecDepth 100000 in
theorem tsame_yes (G M B : Int) (a a' : Option Addr) (len cap cap' : Nat) (ts : List Tr) (w : World) (h : ReadsT w a len ts) (h' : ReadsT w a' len ts) (hm : len ≤ 1000) :
    Calls Try.prog 30 #[.agg #[.int .i64 G, .int .i64 M, .int .i64 B, .slice a len cap], .agg #[.int .i64 G, .int .i64 M, .int .i64 B, .slice a' len cap']] w fun e w' => e = .returned (.bool true) ∧ Only (fun _ => False) w w' := by
  have H := Lib.hid h
  have H' := Lib.hid h'
  clear h h'
  go_enter Try.func30, Try.ntmps30
  go_wp2_with fail
  obtain ⟨w0, hw0⟩ : ∃ w0, w0 = (w.alloc (.cells #[.int .i64 G, .int .i64 M, .int .i64 B, .slice a len cap] 24)).alloc (.cells #[.int .i64 G, .int .i64 M, .int .i64 B, .slice a' len cap'] 24) := ⟨_, rfl⟩
  have HF : Hid (w0.cell? ⟨w.heap.size, 3, none⟩ = some (.slice a len cap) ∧ w0.cell? ⟨w.heap.size + 1, 3, none⟩ = some (.slice a' len cap') ∧ Only (fun _ => False) w w0) := Lib.hid (by
    rw [hw0]
    exact ⟨((Only.refl (fun _ => False) _).alloc _).cell' (alloc_new _ _ _ _ _ _ rfl rfl) (fun f => f), alloc_new _ _ _ _ _ _ (by simp) rfl, ((Only.refl _ w).alloc _).alloc _⟩)
  rw [← hw0]
  clear hw0
  go_loopw [5] (fun i wr => ∃ k : Nat, k ≤ len ∧ i = .int .i64 k ∧ Hid (Only (fun _ => False) w0 wr)) (fun i _ => len - (intOf i).toNat)
  case atStart => exact ⟨0, by omega, rfl, Lib.hid (Only.refl _ _)⟩
  case round =>
    obtain ⟨k, hk, rfl, HO⟩ := hrel
    have b1 := HO.out.cell' HF.out.1 (fun f => f)
    have b2 := HO.out.cell' HF.out.2.1 (fun f => f)
    have HOw := Lib.hid (HF.out.2.2.trans HO.out)
    by_cases h8 : k < len
    · obtain ⟨b, off, rfl, hcell⟩ := H.out.2.2.2.resolve_left (by omega)
      obtain ⟨b', off', rfl, hcell'⟩ := H'.out.2.2.2.resolve_left (by omega)
      obtain ⟨p0, p1⟩ := hcell k h8
      obtain ⟨q0, q1⟩ := hcell' k h8
      have c0 := HOw.out.cell' p0 (fun f => f)
      have c1 := HOw.out.cell' p1 (fun f => f)
      have d0 := HOw.out.cell' q0 (fun f => f)
      have d1 := HOw.out.cell' q1 (fun f => f)
      have hk0 : (0 : Int) ≤ (k : Int) := by omega
      have hkn : (k : Int) < (len : Int) := by omega
      have HD : Hid (∀ n, Only (fun _ => False) w0 (wr.drewN n)) := Lib.hid (fun n => only_drewN HO.out n)
      clear hcell hcell' p0 p1 q0 q1
      generalize ts.getD k default = l at *
      obtain ⟨lu, lp⟩ := l
      dsimp only at c0 c1 d0 d1
      go_wp2_with fail
      go_quiet (fail)
      go_wp2_with fail
      exact ⟨⟨k + 1, by omega, by go_num, Lib.hid (HD.out _)⟩, by simp [intOf]; omega⟩
    · obtain rfl : k = len := by omega
      go_wp2_with fail
      go_ret
      exact ⟨rfl, HOw.out⟩
end Go.Proofs.Ytfdaokjigjpomaa.tirw
