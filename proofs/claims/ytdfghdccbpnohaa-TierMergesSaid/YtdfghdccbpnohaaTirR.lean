/- Tariffs: are two rows of lines the same; two tariffs. -/
import Derived.Test.YtdfghdccbpnohaaTirG
namespace Go.Proofs.Ytdfghdccbpnohaa.tirw
open Go.RowKit mem tirm intm
set_option linter.unusedVariables false

set_option maxRecDepth 100000 in
theorem lsame_yes (a a' : Option Addr) (len cap cap' : Nat) (ls : List Ln) (w : World) (h : ReadsN w a len ls) (h' : ReadsN w a' len ls) (hm : len ≤ 1000) :
    Calls Try.prog 8 #[.slice a len cap, .slice a' len cap'] w fun e w' => e = .returned (.bool true) ∧ Only (fun _ => False) w w' := by
  have H := Lib.hid h
  have H' := Lib.hid h'
  clear h h'
  go_enter Try.func8, Try.ntmps8
  go_wp2_with fail
  go_loopw [5] (fun i wr => ∃ k : Nat, k ≤ len ∧ i = .int .i64 k ∧ Hid (Only (fun _ => False) w wr)) (fun i _ => len - (intOf i).toNat)
  case atStart => exact ⟨0, by omega, rfl, Lib.hid (Only.refl _ _)⟩
  case round =>
    obtain ⟨k, hk, rfl, HO⟩ := hrel
    by_cases h8 : k < len
    · obtain ⟨b, off, rfl, hcell⟩ := H.out.2.resolve_left (by omega)
      obtain ⟨b', off', rfl, hcell'⟩ := H'.out.2.resolve_left (by omega)
      obtain ⟨p0, p1, p2⟩ := hcell k h8
      obtain ⟨q0, q1, q2⟩ := hcell' k h8
      have c0 := HO.out.cell' p0 (fun f => f)
      have c1 := HO.out.cell' p1 (fun f => f)
      have c2 := HO.out.cell' p2 (fun f => f)
      have d0 := HO.out.cell' q0 (fun f => f)
      have d1 := HO.out.cell' q1 (fun f => f)
      have d2 := HO.out.cell' q2 (fun f => f)
      have hk0 : (0 : Int) ≤ (k : Int) := by omega
      have hkn : (k : Int) < (len : Int) := by omega
      have HD : Hid (∀ n, Only (fun _ => False) w (wr.drewN n)) := Lib.hid (fun n => only_drewN HO.out n)
      clear hcell hcell' p0 p1 p2 q0 q1 q2
      generalize ls.getD k default = l at *
      obtain ⟨lt, lb, lp⟩ := l
      dsimp only at c0 c1 c2 d0 d1 d2
      go_wp2_with fail
      go_quiet (fail)
      go_wp2_with fail
      exact ⟨⟨k + 1, by omega, by go_num, Lib.hid (HD.out _)⟩, by simp [intOf]; omega⟩
    · obtain rfl : k = len := by omega
      go_wp2_with fail
      go_ret
      exact ⟨rfl, HO.out⟩
end Go.Proofs.Ytdfghdccbpnohaa.tirw
