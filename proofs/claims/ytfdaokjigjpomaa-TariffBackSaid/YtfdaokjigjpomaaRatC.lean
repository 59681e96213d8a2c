/- Plans: may so much be rated? The dearest price; what so many units may cost at most: the program's. -/
import Derived.Test.YtfdaokjigjpomaaRatB
import Derived.Test.YtfdaokjigjpomaaTirX
import Derived.Test.YtfdaokjigjpomaaArBl
import Derived.Deep.RegionHeld3
namespace Go.Proofs.Ytfdaokjigjpomaa.tirw
open Go.RowKit mem tirm intm bigw
set_option linter.unusedVariables false

set_option maxRecDepth 100000 in
theorem dear_any (G M B : Int) (a : Option Addr) (len cap : Nat) (ts : List Tr) (w : World) (h : ReadsT w a len ts) :
    Calls Try.prog 23 #[.agg #[.int .i64 G, .int .i64 M, .int .i64 B, .slice a len cap]] w fun e w' => e = .returned (.int .i64 (dearF 0 ts)) ∧ Only (fun _ => False) w w' := by
  have hm := h.2.1
  have H := Lib.hid h
  have HL : Hid (ts.length = len) := Lib.hid h.1
  have HO : Hid (∀ o, Only (fun _ => False) w (w.alloc o)) := Lib.hid (fun o => (Only.refl _ w).alloc o)
  have hst : ∀ k d, k < len → dearF d (ts.drop k) = dearF (max d (ts.getD k default).p) (ts.drop (k + 1)) := fun k d hk => by rw [drop_getT ts k (by rw [HL.out]; exact hk)]; rfl
  have HST := Lib.hid hst
  clear h hst
  go_enter Try.func23, Try.ntmps23
  go_wp2_with fail
  go_loopw [3, 9] (fun pv i wr => ∃ (k : Nat) (d : Int), k ≤ len ∧ i = .int .i64 k ∧ pv = .int .i64 d ∧ Hid (dearF d (ts.drop k) = dearF 0 ts) ∧ Hid (Only (fun _ => False) w wr)) (fun _ i _ => len - (intOf i).toNat)
  case atStart => exact ⟨0, 0, by omega, rfl, rfl, Lib.hid rfl, Lib.hid (HO.out _)⟩
  case round =>
    obtain ⟨k, d, hk, rfl, rfl, HD, HW⟩ := hrel
    by_cases h8 : k < len
    · obtain ⟨b, off, rfl, hcell⟩ := H.out.2.2.2.resolve_left (by omega)
      obtain ⟨hc0, hc1⟩ := hcell k h8
      have c0 := HW.out.cell' hc0 (fun f => f)
      have c1 := HW.out.cell' hc1 (fun f => f)
      have hd := HD.out
      rw [HST.out k d h8] at hd
      have HA : Hid (∀ o, Only (fun _ => False) w (wr.alloc o)) := Lib.hid (fun o => HW.out.alloc o)
      generalize ts.getD k default = x at *
      obtain ⟨u, p⟩ := x
      dsimp only at c0 c1 hd
      clear hcell hc0 hc1
      by_cases hx : d < p
      · rw [Int.max_eq_right (by omega)] at hd
        have HN := Lib.hid hd
        clear hd
        go_wp2_with fail
        go_roundw
        case rel => exact ⟨k + 1, p, by omega, by go_num, rfl, HN, Lib.hid (HA.out _)⟩
        case measure => simp [intOf]; omega
      · rw [Int.max_eq_left (by omega)] at hd
        have HN := Lib.hid hd
        clear hd
        go_wp2_with fail
        go_roundw
        case rel => exact ⟨k + 1, d, by omega, by go_num, rfl, HN, Lib.hid (HA.out _)⟩
        case measure => simp [intOf]; omega
    · obtain rfl : k = len := by omega
      have hd := HD.out
      rw [List.drop_of_length_le (by rw [HL.out]; omega)] at hd
      have HN : Hid (d = dearF 0 ts) := Lib.hid hd
      clear hd
      go_wp2_with fail
      go_ret
      exact ⟨by rw [← HN.out]; rfl, HW.out⟩

def dearP (t1 t2 : List Tr) : Int := max (dearF 0 t1) (dearF 0 t2)
/-- may so many units be rated by the plan? -/
def CanP (D F T G1 M1 B1 G2 M2 B2 : Int) (t1 t2 : List Tr) (u : Int) : Prop := 0 ≤ u ∧ u ≤ 1073741824 ∧ pchk D F T G1 M1 B1 G2 M2 B2 t1 t2 = 0
instance (D F T G1 M1 B1 G2 M2 B2 : Int) (t1 t2 : List Tr) (u : Int) : Decidable (CanP D F T G1 M1 B1 G2 M2 B2 t1 t2 u) := inferInstanceAs (Decidable (_ ∧ _))
end Go.Proofs.Ytfdaokjigjpomaa.tirw
