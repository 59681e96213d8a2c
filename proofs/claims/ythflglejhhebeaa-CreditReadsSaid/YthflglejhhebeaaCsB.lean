/- Sessions with grants: isSession, clone, find, New, Last. -/
import Derived.Test.YthflglejhhebeaaCsA
import Derived.Shelf.SlicesE.Clone
namespace Go.Proofs.Ythflglejhhebeaa.cs
open Go.RowKit mem rwg
set_option linter.unusedVariables false

theorem nat_dec (a b : Int) (h : ¬ a ≤ b) : (a ≤ b) = False ∧ decide (a ≤ b) = false := ⟨eq_false h, decide_eq_false h⟩
theorem isnum_any (n : Int) (w : World) : Calls Try.prog 59 #[.int .i64 n] w fun e w' => e = .returned (.bool (decide (numOk n))) ∧ w = w' := by
  by_cases h1 : 0 ≤ n
  · by_cases h2 : n ≤ 4611686018427387904
    · have hd : decide (numOk n) = true := decide_eq_true ⟨h1, h2⟩
      rw [hd]
      go_enter Try.func59, Try.ntmps59
      go_wp2_with fail
      go_ret
      exact ⟨rfl, rfl⟩
    · have hd : decide (numOk n) = false := decide_eq_false (fun x => h2 x.2)
      obtain ⟨y1, y2⟩ := nat_dec _ _ h2
      rw [hd]
      go_enter Try.func59, Try.ntmps59
      go_wp2_with fail
      go_ret
      exact ⟨rfl, rfl⟩
  · have hd : decide (numOk n) = false := decide_eq_false (fun x => h1 x.1)
    obtain ⟨y1, y2⟩ := nat_dec _ _ h1
    rw [hd]
    go_enter Try.func59, Try.ntmps59
    go_wp2_with fail
    go_ret
    exact ⟨rfl, rfl⟩
def gIdx (g : Int) : Int → List Gr → Int
  | _, [] => -1
  | s, x :: r => if x.g = g then s else gIdx g (s + 1) r
theorem gIdx_step {ps : List Gr} {k : Nat} (g : Int) (h : k < ps.length) : gIdx g k (ps.drop k) = if (ps.getD k default).g = g then (k : Int) else gIdx g ((k + 1 : Nat) : Int) (ps.drop (k + 1)) := by
  rw [drop_getG ps k h]
  show (if _ then _ else _) = _
  rw [show ((k : Int) + 1) = ((k + 1 : Nat) : Int) by omega]
theorem gIdx_is (g : Int) : ∀ (l : List Gr) (s : Int), 0 ≤ s → decide (0 ≤ gIdx g s l) = l.any (fun y => decide (y.g = g)) := by
  intro l
  induction l with
  | nil => intro s hs; rfl
  | cons x r ih =>
    intro s hs
    unfold gIdx
    rw [List.any_cons]
    by_cases h : x.g = g
    · rw [if_pos h, decide_eq_true h, decide_eq_true hs]; rfl
    · rw [if_neg h, decide_eq_false h, ih (s + 1) (by omega)]; rfl
set_option maxRecDepth 100000 in
theorem glit_any (p : Gr) (g : Int) (x : Nat) (w : World) (hq : w.cell? ⟨x, 0, none⟩ = some (.int .i64 g)) :
    Calls Try.prog 69 #[.agg #[.int .i64 p.g, .int .i64 p.u, .int .i64 p.a, .bool p.f], .pointer (some ⟨x, 0, none⟩)] w fun e w' => e = .returned (.bool (decide (p.g = g))) ∧ Only (fun _ => False) w w' := by
  have HO : Hid (∀ o, Only (fun _ => False) w (w.alloc o)) := Lib.hid (fun o => (Only.refl _ w).alloc o)
  have hq2 : ∀ o, (w.alloc o).cell? ⟨x, 0, none⟩ = some (.int .i64 g) := fun o => (HO.out o).cell' hq (fun f => f)
  obtain ⟨i, u, a, f⟩ := p
  dsimp only
  by_cases h0 : i = g
  · have e : (i == g) = true := by simpa using h0
    rw [decide_eq_true h0]
    subst h0
    go_enter Try.func69, Try.ntmps69
    go_wp2_with fail
    go_ret
    exact ⟨by simp, HO.out _⟩
  · have e : (i == g) = false := by simpa using h0
    rw [decide_eq_false h0]
    go_enter Try.func69, Try.ntmps69
    go_wp2_with fail
    go_ret
    exact ⟨by simp, HO.out _⟩
set_option maxRecDepth 100000 in
set_option maxHeartbeats 1000000 in
theorem gidx_any (a : Option Addr) (len cap : Nat) (ps : List Gr) (g : Int) (x : Nat) (w : World) (hm : len ≤ 100000) (h : ReadsG w a len ps) (hq : w.cell? ⟨x, 0, none⟩ = some (.int .i64 g)) :
    Calls Try.prog 77 #[.slice a len cap, .func (.func 69) #[] #[.pointer (some ⟨x, 0, none⟩)]] w fun e w' => e = .returned (.int .i64 (gIdx g 0 ps)) ∧ Only (fun _ => False) w w' := by
  have H := Lib.hid h
  have HL : Hid (ps.length = len) := Lib.hid h.1
  have HQ := Lib.hid hq
  clear h hq
  go_enter Try.func77, Try.ntmps77
  go_wp2_with fail
  go_loopw [8] (fun i wr => ∃ k : Nat, k ≤ len ∧ i = .int .i64 k ∧ Hid (gIdx g k (ps.drop k) = gIdx g 0 ps) ∧ Hid (Only (fun _ => False) w wr)) (fun i _ => len - (intOf i).toNat)
  case atStart => exact ⟨0, by omega, rfl, Lib.hid rfl, Lib.hid (Only.refl _ _)⟩
  case round =>
    obtain ⟨k, hk, rfl, HP, HW⟩ := hrel
    by_cases h8 : k < len
    · obtain ⟨b, off, rfl, hcell⟩ := H.out.cells (by omega)
      obtain ⟨c0, c1, c2, c3⟩ := hcell k h8
      replace c0 := HW.out.cell' c0 (fun f => f)
      replace c1 := HW.out.cell' c1 (fun f => f)
      replace c2 := HW.out.cell' c2 (fun f => f)
      replace c3 := HW.out.cell' c3 (fun f => f)
      have hst := HP.out
      rw [gIdx_step g (by rw [HL.out]; exact h8)] at hst
      have HUL := Lib.hid (fun w' hq' => glit_any (ps.getD k default) g x w' hq')
      generalize ps.getD k default = p at *
      obtain ⟨pi, pu, pa, pf⟩ := p
      dsimp only at c0 c1 c2 c3 hst HUL
      have HST := Lib.hid hst
      clear hcell hst
      go_wp2_with fail
      refine (HUL.out wr (HW.out.cell' HQ.out (fun f => f))).mono ?_
      rintro _ w1 ⟨rfl, h1⟩
      have HW1 := Lib.hid (HW.out.trans h1)
      clear h1 c0 c1 c2 c3
      by_cases h2 : pi = g
      · rw [decide_eq_true h2]
        have HR : Hid (gIdx g 0 ps = k) := Lib.hid (by rw [← HST.out, if_pos h2])
        clear h2
        go_wp2_with fail
        go_ret
        exact ⟨by rw [HR.out]; rfl, HW1.out⟩
      · rw [decide_eq_false h2]
        have HR := HST.out
        rw [if_neg h2] at HR
        replace HR := Lib.hid HR
        clear h2
        go_wp2_with fail
        go_round
        case rel => exact ⟨k + 1, by omega, by go_num, HR, HW1⟩
        case measure => simp [intOf]; omega
    · obtain rfl : k = len := by omega
      have HR : Hid (gIdx g 0 ps = -1) := Lib.hid (by rw [← HP.out, List.drop_eq_nil_of_le (by rw [HL.out]; omega)]; rfl)
      go_wp2_with fail
      go_ret
      exact ⟨by rw [HR.out]; rfl, HW.out⟩
theorem gcont_any (a : Option Addr) (len cap : Nat) (ps : List Gr) (g : Int) (x : Nat) (w : World) (hm : len ≤ 100000) (h : ReadsG w a len ps) (hq : w.cell? ⟨x, 0, none⟩ = some (.int .i64 g)) :
    Calls Try.prog 68 #[.slice a len cap, .func (.func 69) #[] #[.pointer (some ⟨x, 0, none⟩)]] w fun e w' => e = .returned (.bool (ps.any (fun y => decide (y.g = g)))) ∧ Only (fun _ => False) w w' := by
  have HI := Lib.hid (gidx_any a len cap ps g x w hm h hq)
  have HB := Lib.hid (gIdx_is g ps 0 (by omega))
  clear h hq
  generalize ps.any (fun y => decide (y.g = g)) = b at *
  generalize gIdx g 0 ps = k at *
  go_enter Try.func68, Try.ntmps68
  go_wp2_with fail
  refine HI.out.mono ?_
  rintro _ w1 ⟨rfl, h1⟩
  have H1 := Lib.hid h1
  clear h1
  go_wp2_with fail
  go_ret
  exact ⟨by rw [← HB.out]; rfl, H1.out⟩
theorem goodF_end (A l : List Gr) (k : Nat) (h : l.length ≤ k) : goodF A (l.drop k) = true := by rw [List.drop_eq_nil_of_le h]; rfl
set_option maxRecDepth 100000 in
set_option maxHeartbeats 4000000 in
theorem aregr_any (a : Option Addr) (n c : Nat) (gs : List Gr) (w : World) (h : ReadsG w a n gs) (hc : Cp a n c) : Calls Try.prog 60 #[.slice a n c] w fun e w' => e = .returned (.bool (grsB gs)) ∧ Only (fun _ => False) w w' := by
  have HRD := Lib.hid h
  have HL : Hid (gs.length = n) := Lib.hid h.1
  have hcm := hc.2.1
  have hnc := hc.1
  unfold maxLen at hcm
  clear h hc
  by_cases h4 : n ≤ 4
  rotate_left
  · have hi4 : (4 : Int) < (n : Int) := by omega
    have HB : Hid (grsB gs = false) := Lib.hid (by unfold grsB; rw [decide_eq_false (by rw [HL.out]; exact h4)]; rfl)
    go_enter Try.func60, Try.ntmps60
    go_wp2_with fail
    go_ret
    exact ⟨by rw [HB.out]; rfl, Only.refl _ _⟩
  have hi4 : ¬ (4 : Int) < (n : Int) := by omega
  have HB : Hid (goodF (gs.take 0) (gs.drop 0) = grsB gs) := Lib.hid (by unfold grsB; rw [decide_eq_true (by rw [HL.out]; exact h4)]; rfl)
  generalize grsB gs = RB at *
  go_enter Try.func60, Try.ntmps60
  go_wp2_with fail
  go_loopw [10] (fun iv wr => ∃ k : Nat, k ≤ n ∧ iv = .int .i64 (k : Int) ∧ Hid (goodF (gs.take k) (gs.drop k) = RB) ∧ Hid (Only (fun _ => False) w wr)) (fun iv _ => n - (intOf iv).toNat)
  case atStart => exact ⟨0, by omega, rfl, HB, Lib.hid (Only.refl _ _)⟩
  case round =>
    clear HB
    obtain ⟨k, hk, rfl, HP, HO⟩ := hrel
    rename World => wr
    by_cases h8 : k < n
    rotate_left
    · have h8' : ¬ (k : Int) < (n : Int) := by omega
      have HR : Hid (RB = true) := Lib.hid (by rw [← HP.out, goodF_end _ _ _ (by rw [HL.out]; omega)])
      go_wp2_with fail
      go_ret
      exact ⟨by rw [HR.out]; rfl, HO.out⟩
    have h8' : (k : Int) < (n : Int) := by omega
    have hk0 : (0 : Int) ≤ (k : Int) := by omega
    have hkc : k ≤ c := by omega
    obtain ⟨b, off, rfl, hcell⟩ := HRD.out.cells (by omega)
    obtain ⟨c0, c1, c2, c3⟩ := hcell k h8
    replace c0 := HO.out.cell' c0 (fun f => f)
    replace c1 := HO.out.cell' c1 (fun f => f)
    replace c2 := HO.out.cell' c2 (fun f => f)
    replace c3 := HO.out.cell' c3 (fun f => f)
    have hst := HP.out
    rw [goodF_step (by rw [HL.out]; exact h8)] at hst
    have hts : gs.take (k + 1) = gs.take k ++ [gs.getD k default] := take_getG gs k (by rw [HL.out]; exact h8)
    rw [← hts] at hst
    have HST := Lib.hid hst
    have HTR : Hid (ReadsG wr (some ⟨b, off, none⟩) k (gs.take k)) := Lib.hid ((HRD.out.quiet HO.out).take k (by omega))
    clear hcell hst hts HP
    generalize gs.getD k default = p at *
    obtain ⟨g, u, a, f⟩ := p
    dsimp only at c0 c1 c2 c3 HST
    obtain ⟨wq, hwq⟩ : ∃ z, z = wr.alloc (.cells #[.int .i64 g, .int .i64 u, .int .i64 a, .bool f] 80) := ⟨_, rfl⟩
    obtain ⟨g9, hg9⟩ : ∃ z, z = wr.heap.size := ⟨_, rfl⟩
    obtain ⟨e0, e1, e2, e3, hoq⟩ := gbox hwq hg9
    have HWQ := Lib.hid (HO.out.trans hoq)
    have HTQ := Lib.hid (HTR.out.quiet hoq)
    clear hoq HTR
    go_upto_region 6 with fail
    simp only [← hwq, ← hg9]
    clear hwq hg9 c0 c1 c2 c3
    by_cases q0 : g < 1
    · have HR : Hid (RB = false) := Lib.hid (by rw [← HST.out, if_neg (fun h : grOk ⟨g, u, a, f⟩ => by unfold grOk at h; dsimp only at h; omega)])
      clear HST
      go_wp2_with fail
      go_ret
      exact ⟨by rw [HR.out]; rfl, HWQ.out⟩
    by_cases q1 : 8 < g
    · have HR : Hid (RB = false) := Lib.hid (by rw [← HST.out, if_neg (fun h : grOk ⟨g, u, a, f⟩ => by unfold grOk at h; dsimp only at h; omega)])
      clear HST
      go_wp2_with fail
      go_ret
      exact ⟨by rw [HR.out]; rfl, HWQ.out⟩
    by_cases q2 : u < 0
    · have HR : Hid (RB = false) := Lib.hid (by rw [← HST.out, if_neg (fun h : grOk ⟨g, u, a, f⟩ => by unfold grOk at h; dsimp only at h; omega)])
      clear HST
      go_wp2_with fail
      go_ret
      exact ⟨by rw [HR.out]; rfl, HWQ.out⟩
    by_cases q3 : 1073741824 < u
    · have HR : Hid (RB = false) := Lib.hid (by rw [← HST.out, if_neg (fun h : grOk ⟨g, u, a, f⟩ => by unfold grOk at h; dsimp only at h; omega)])
      clear HST
      go_wp2_with fail
      go_ret
      exact ⟨by rw [HR.out]; rfl, HWQ.out⟩
    by_cases q4 : a < 0
    · have HR : Hid (RB = false) := Lib.hid (by rw [← HST.out, if_neg (fun h : grOk ⟨g, u, a, f⟩ => by unfold grOk at h; dsimp only at h; omega)])
      clear HST
      go_wp2_with fail
      go_ret
      exact ⟨by rw [HR.out]; rfl, HWQ.out⟩
    by_cases q5 : 9007199254740992 < a
    · have HR : Hid (RB = false) := Lib.hid (by rw [← HST.out, if_neg (fun h : grOk ⟨g, u, a, f⟩ => by unfold grOk at h; dsimp only at h; omega)])
      clear HST
      go_wp2_with fail
      go_ret
      exact ⟨by rw [HR.out]; rfl, HWQ.out⟩
    have HC := Lib.hid (gcont_any (some ⟨b, off, none⟩) k c (gs.take k) g g9 wq (by omega) HTQ.out e0)
    replace HST := Lib.hid (by have h := HST.out; rw [if_pos (show grOk ⟨g, u, a, f⟩ by unfold grOk; dsimp only; omega)] at h; exact h)
    generalize (gs.take k).any (fun y => decide (y.g = g)) = bb at *
    go_wp2_with fail
    refine HC.out.mono ?_
    rintro _ w1 ⟨rfl, h1⟩
    have HW1 := Lib.hid (HWQ.out.trans h1)
    clear h1
    cases bb
    · have HR := Lib.hid (by have h := HST.out; rw [if_neg (by decide)] at h; exact h)
      clear HST
      go_wp2_with fail
      go_roundw
      case rel => exact ⟨k + 1, by omega, by go_num, HR, HW1⟩
      case measure => (simp [intOf]; omega)
    · have HR : Hid (RB = false) := Lib.hid (by have h := HST.out; rw [if_pos rfl] at h; exact h.symm)
      clear HST
      go_wp2_with fail
      go_ret
      exact ⟨by rw [HR.out]; rfl, HW1.out⟩
end Go.Proofs.Ythflglejhhebeaa.cs
