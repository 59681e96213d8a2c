/- Plans: may so much be rated? The dearest price; what so many units may cost at most: the program's. -/
import Derived.Test.YtghajamcjcflaaaRatB
import Derived.Test.YtghajamcjcflaaaTirX
import Derived.Test.YtghajamcjcflaaaArBl
import Derived.Deep.RegionHeld3
namespace Go.Proofs.Ytghajamcjcflaaa.tirw
open Go.RowKit mem tirm intm bigw
set_option linter.unusedVariables false

set_option maxRecDepth 100000 in
theorem dear_any (G M B : Int) (a : Option Addr) (len cap : Nat) (ts : List Tr) (w : World) (h : ReadsT w a len ts) :
    Calls Try.prog 73 #[.agg #[.int .i64 G, .int .i64 M, .int .i64 B, .slice a len cap]] w fun e w' => e = .returned (.int .i64 (dearF 0 ts)) ∧ Only (fun _ => False) w w' := by
  have hm := h.2.1
  have H := Lib.hid h
  have HL : Hid (ts.length = len) := Lib.hid h.1
  have HO : Hid (∀ o, Only (fun _ => False) w (w.alloc o)) := Lib.hid (fun o => (Only.refl _ w).alloc o)
  have hst : ∀ k d, k < len → dearF d (ts.drop k) = dearF (max d (ts.getD k default).p) (ts.drop (k + 1)) := fun k d hk => by rw [drop_getT ts k (by rw [HL.out]; exact hk)]; rfl
  have HST := Lib.hid hst
  clear h hst
  go_enter Try.func73, Try.ntmps73
  go_wp2_with fail
  go_loopw [3, 9] (fun pv i wr => ∃ (k : Nat) (d : Int), k ≤ len ∧ i = .int .i64 k ∧ pv = .int .i64 d ∧ Hid (dearF d (ts.drop k) = dearF 0 ts) ∧ Hid (Only (fun _ => False) w wr)) (fun _ i _ => len - (intOf i).toNat)
  case atStart => exact ⟨0, 0, by omega, rfl, rfl, Lib.hid rfl, Lib.hid (HO.out _)⟩
  case round =>
    obtain ⟨k, d, hk, rfl, rfl, HD, HW⟩ := hrel
    by_cases h8 : k < len
    · obtain ⟨b, off, rfl, hcell⟩ := H.out.2.2.2.resolve_left (by omega)
      obtain ⟨hc0, hc1⟩ := hcell k h8
      have c0 := HW.out.cell' hc0 (fun f => f)
      have c1 := HW.out.cell' hc1 (fun f => f)
      have hd := HD.out
      rw [HST.out k d h8] at hd
      have HA : Hid (∀ o, Only (fun _ => False) w (wr.alloc o)) := Lib.hid (fun o => HW.out.alloc o)
      generalize ts.getD k default = x at *
      obtain ⟨u, p⟩ := x
      dsimp only at c0 c1 hd
      clear hcell hc0 hc1
      by_cases hx : d < p
      · rw [Int.max_eq_right (by omega)] at hd
        have HN := Lib.hid hd
        clear hd
        go_wp2_with fail
        go_roundw
        case rel => exact ⟨k + 1, p, by omega, by go_num, rfl, HN, Lib.hid (HA.out _)⟩
        case measure => simp [intOf]; omega
      · rw [Int.max_eq_left (by omega)] at hd
        have HN := Lib.hid hd
        clear hd
        go_wp2_with fail
        go_roundw
        case rel => exact ⟨k + 1, d, by omega, by go_num, rfl, HN, Lib.hid (HA.out _)⟩
        case measure => simp [intOf]; omega
    · obtain rfl : k = len := by omega
      have hd := HD.out
      rw [List.drop_of_length_le (by rw [HL.out]; omega)] at hd
      have HN : Hid (d = dearF 0 ts) := Lib.hid hd
      clear hd
      go_wp2_with fail
      go_ret
      exact ⟨by rw [← HN.out]; rfl, HW.out⟩

def dearP (t1 t2 : List Tr) : Int := max (dearF 0 t1) (dearF 0 t2)
set_option maxRecDepth 100000 in
set_option maxHeartbeats 1000000 in
theorem dearp_any (D F T G1 M1 B1 G2 M2 B2 : Int) (a1 a2 : Option Addr) (n1 n2 c1 c2 : Nat) (t1 t2 : List Tr) (w : World) (h1 : ReadsT w a1 n1 t1) (h2 : ReadsT w a2 n2 t2) :
    Calls Try.prog 50 #[.agg #[.int .i64 D, .int .i64 F, .int .i64 T, .int .i64 G1, .int .i64 M1, .int .i64 B1, .slice a1 n1 c1, .int .i64 G2, .int .i64 M2, .int .i64 B2, .slice a2 n2 c2]] w fun e w' => e = .returned (.int .i64 (dearP t1 t2)) ∧ Only (fun _ => False) w w' := by
  have HD1 := Lib.hid (fun w' (ho : Only (fun _ => False) w w') => dear_any G1 M1 B1 a1 n1 c1 t1 w' (h1.only ho (fun _ _ f => f)))
  have HD2 := Lib.hid (fun w' (ho : Only (fun _ => False) w w') => dear_any G2 M2 B2 a2 n2 c2 t2 w' (h2.only ho (fun _ _ f => f)))
  obtain ⟨P, hP⟩ : ∃ P, dearP t1 t2 = P := ⟨_, rfl⟩
  rw [hP]
  obtain ⟨W0, hW0⟩ : ∃ W0, W0 = w.alloc (.cells #[.int .i64 D, .int .i64 F, .int .i64 T, .int .i64 G1, .int .i64 M1, .int .i64 B1, .slice a1 n1 c1, .int .i64 G2, .int .i64 M2, .int .i64 B2, .slice a2 n2 c2] 39) := ⟨_, rfl⟩
  have HO0 : Hid (Only (fun _ => False) w W0) := Lib.hid (by rw [hW0]; exact (Only.refl _ w).alloc _)
  have HPA : Hid (PlanAt W0 w.heap.size D F T G1 M1 B1 G2 M2 B2 a1 a2 n1 n2 c1 c2) := Lib.hid (by rw [hW0]; exact PlanAt.new ..)
  unfold dearP at hP
  generalize dearF 0 t1 = e1 at *
  generalize dearF 0 t2 = e2 at *
  have HP := Lib.hid hP
  have HS : Hid (∀ w', Only (fun _ => False) W0 w' → Only (fun _ => False) W0 w' ∧ PlanAt w' w.heap.size D F T G1 M1 B1 G2 M2 B2 a1 a2 n1 n2 c1 c2) := Lib.hid (fun w' ho => ⟨ho, HPA.out.only ho (fun f => f)⟩)
  unfold PlanAt at HS
  have HX1 : Hid (∀ w', Only (fun _ => False) W0 w' → Calls Try.prog 73 #[.agg #[.int .i64 G1, .int .i64 M1, .int .i64 B1, .slice a1 n1 c1]] w' fun e w'' => e = .returned (.int .i64 e1) ∧ Only (fun _ => False) w' w'') := Lib.hid (fun w' ho => HD1.out w' (HO0.out.trans ho))
  have HX2 : Hid (∀ w', Only (fun _ => False) W0 w' → Calls Try.prog 73 #[.agg #[.int .i64 G2, .int .i64 M2, .int .i64 B2, .slice a2 n2 c2]] w' fun e w'' => e = .returned (.int .i64 e2) ∧ Only (fun _ => False) w' w'') := Lib.hid (fun w' ho => HD2.out w' (HO0.out.trans ho))
  clear h1 h2 hP HD1 HD2
  have hmx : (e1 < e2 ∧ P = e2) ∨ (¬ e1 < e2 ∧ P = e1) := by have := HP.out; omega
  go_enter Try.func50, Try.ntmps50
  obtain ⟨p0, p1, p2, p3, p4, p5, p6, p7, p8, p9, p10⟩ := HPA.out
  rw [hW0] at p0 p1 p2 p3 p4 p5 p6 p7 p8 p9 p10
  go_wp2_with fail
  rw [← hW0] at p0 p1 p2 p3 p4 p5 p6 p7 p8 p9 p10 ⊢
  clear hW0
  rcases hmx with ⟨hm, hp⟩ | ⟨hm, hp⟩
  all_goals
    have HPP := Lib.hid hp
    clear hp
    go_region_held3 (fun w' => Only (fun _ => False) W0 w' ∧ (w'.cell? ⟨w.heap.size, 0, none⟩ = some (.int .i64 D) ∧ w'.cell? ⟨w.heap.size, 1, none⟩ = some (.int .i64 F) ∧ w'.cell? ⟨w.heap.size, 2, none⟩ = some (.int .i64 T) ∧ w'.cell? ⟨w.heap.size, 3, none⟩ = some (.int .i64 G1) ∧ w'.cell? ⟨w.heap.size, 4, none⟩ = some (.int .i64 M1) ∧ w'.cell? ⟨w.heap.size, 5, none⟩ = some (.int .i64 B1) ∧ w'.cell? ⟨w.heap.size, 6, none⟩ = some (.slice a1 n1 c1) ∧ w'.cell? ⟨w.heap.size, 7, none⟩ = some (.int .i64 G2) ∧ w'.cell? ⟨w.heap.size, 8, none⟩ = some (.int .i64 M2) ∧ w'.cell? ⟨w.heap.size, 9, none⟩ = some (.int .i64 B2) ∧ w'.cell? ⟨w.heap.size, 10, none⟩ = some (.slice a2 n2 c2)))
      ((refine HS.out _ ?_; first | with_reducible exact Only.refl _ _ | with_reducible exact (Only.refl _ _).drew | with_reducible exact hot.out))
      (first | (go_at_call 73; (with_reducible refine (HX1.out _ (by go_split_ands; assumption)).mono ?_); rintro _ wn ⟨rfl, ho⟩; have hot := Lib.hid (show Only (fun _ => False) W0 wn from by go_split_ands; exact Only.trans (by assumption) ho)) | (go_at_call 73; (with_reducible refine (HX2.out _ (by go_split_ands; assumption)).mono ?_); rintro _ wn ⟨rfl, ho⟩; have hot := Lib.hid (show Only (fun _ => False) W0 wn from by go_split_ands; exact Only.trans (by assumption) ho)))
    have HFF : Hid (Only (fun _ => False) W0 wn) := Lib.hid (by go_split_ands; assumption)
    go_wp2_with fail
    go_ret
    exact ⟨by rw [HPP.out]; rfl, HO0.out.trans HFF.out⟩

/-- may so many units be rated by the plan? -/
def CanP (D F T G1 M1 B1 G2 M2 B2 : Int) (t1 t2 : List Tr) (u : Int) : Prop := 0 ≤ u ∧ u ≤ 1073741824 ∧ pchk D F T G1 M1 B1 G2 M2 B2 t1 t2 = 0
instance (D F T G1 M1 B1 G2 M2 B2 : Int) (t1 t2 : List Tr) (u : Int) : Decidable (CanP D F T G1 M1 B1 G2 M2 B2 t1 t2 u) := inferInstanceAs (Decidable (_ ∧ _))
set_option maxRecDepth 100000 in
set_option maxHeartbeats 1000000 in
theorem canrate_any (D F T G1 M1 B1 G2 M2 B2 : Int) (a1 a2 : Option Addr) (n1 n2 c1 c2 : Nat) (t1 t2 : List Tr) (u : Int) (w : World) (h1 : ReadsT w a1 n1 t1) (h2 : ReadsT w a2 n2 t2) :
    Calls Try.prog 46 #[.agg #[.int .i64 D, .int .i64 F, .int .i64 T, .int .i64 G1, .int .i64 M1, .int .i64 B1, .slice a1 n1 c1, .int .i64 G2, .int .i64 M2, .int .i64 B2, .slice a2 n2 c2], .int .i64 u] w fun e w' => e = .returned (.bool (decide (CanP D F T G1 M1 B1 G2 M2 B2 t1 t2 u))) ∧ Only (fun _ => False) w w' := by
  have HC := Lib.hid (fun w' (ho : Only (fun _ => False) w w') => cplan_any D F T G1 M1 B1 G2 M2 B2 a1 a2 n1 n2 c1 c2 t1 t2 w' (h1.only ho (fun _ _ f => f)) (h2.only ho (fun _ _ f => f)))
  obtain ⟨W0, hW0⟩ : ∃ W0, W0 = w.alloc (.cells #[.int .i64 D, .int .i64 F, .int .i64 T, .int .i64 G1, .int .i64 M1, .int .i64 B1, .slice a1 n1 c1, .int .i64 G2, .int .i64 M2, .int .i64 B2, .slice a2 n2 c2] 39) := ⟨_, rfl⟩
  have HO0 : Hid (Only (fun _ => False) w W0) := Lib.hid (by rw [hW0]; exact (Only.refl _ w).alloc _)
  have HOA : Hid (∀ o, Only (fun _ => False) w (w.alloc o)) := Lib.hid (fun o => (Only.refl _ w).alloc o)
  have HPA : Hid (PlanAt W0 w.heap.size D F T G1 M1 B1 G2 M2 B2 a1 a2 n1 n2 c1 c2) := Lib.hid (by rw [hW0]; exact PlanAt.new ..)
  clear h1 h2
  by_cases g1 : 0 ≤ u
  rotate_left
  · rw [decide_eq_false (fun e => g1 e.1)]
    go_enter Try.func46, Try.ntmps46
    go_wp2_with fail
    go_ret
    exact ⟨by simp [*], HOA.out _⟩
  by_cases g2 : u ≤ 1073741824
  rotate_left
  · rw [decide_eq_false (fun e => g2 e.2.1)]
    go_enter Try.func46, Try.ntmps46
    go_wp2_with fail
    go_ret
    exact ⟨by simp [*], HOA.out _⟩
  have HR : Hid (decide (CanP D F T G1 M1 B1 G2 M2 B2 t1 t2 u) = (pchk D F T G1 M1 B1 G2 M2 B2 t1 t2 == 0)) := Lib.hid (by
    by_cases e : pchk D F T G1 M1 B1 G2 M2 B2 t1 t2 = 0
    · rw [decide_eq_true (p := CanP D F T G1 M1 B1 G2 M2 B2 t1 t2 u) ⟨g1, g2, e⟩, e]; rfl
    · rw [decide_eq_false (p := CanP D F T G1 M1 B1 G2 M2 B2 t1 t2 u) (fun f => e f.2.2), (neI e).1])
  rw [HR.out]
  clear HR
  generalize pchk D F T G1 M1 B1 G2 M2 B2 t1 t2 = c at *
  go_enter Try.func46, Try.ntmps46
  obtain ⟨p0, p1, p2, p3, p4, p5, p6, p7, p8, p9, p10⟩ := HPA.out
  rw [hW0] at p0 p1 p2 p3 p4 p5 p6 p7 p8 p9 p10
  go_wp2_with fail
  rw [← hW0]
  clear hW0 p0 p1 p2 p3 p4 p5 p6 p7 p8 p9 p10
  refine (HC.out _ HO0.out).mono ?_
  rintro _ w1 ⟨rfl, k1⟩
  have K1 := Lib.hid (HO0.out.trans k1)
  clear k1
  go_wp2_with fail
  go_ret
  exact ⟨by simp, K1.out⟩
end Go.Proofs.Ytghajamcjcflaaa.tirw
