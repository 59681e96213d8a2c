/- Several texts together: PuI, PuJ, PeriodPartsP. -/
import Derived.Test.YtkbaafgaaiekpaaZ3
import Derived.Test.YtkbaafgaaiekpaaOpU
import Derived.Deep.CutRange
import Derived.Deep.CutBlock
import Derived.Test.YtkbaafgaaiekpaaRows
import Derived.WalkKit
import Derived.ProofKit
import Derived.OpenShut
import Derived.ShutString
import Derived.ChangeOld
import Derived.Below
namespace Go.Proofs.Ytkbaafgaaiekpaa.puw
open Go.RowKit mem
set_option linter.unusedVariables false

/-- two purses, apart, and the slices of a path and of its limits -/
def Tw (base gP gL p q : Nat) (Ap Aq : List fnd.Ac) (n : Nat) (w : World) : Prop := ∃ (Sp Sq : Nat → Prop) (b1 j1 b2 j2 : Nat) (C1 C2 : AcC → Option (List Int)) (L1 L2 : List jnw.Ps), Pv Sp w p b1 j1 Ap n 0 C1 L1 ∧ Pv Sq w q b2 j2 Aq n 0 C2 L2 ∧ (∀ k, Sp k → base ≤ k ∧ ¬ Sq k ∧ k ≠ gP ∧ k ≠ gL) ∧ (∀ k, Sq k → base ≤ k ∧ k ≠ gP ∧ k ≠ gL) ∧ ReadsI w (some ⟨gP, 0, none⟩) 2 [1, 2] ∧ ReadsI w (some ⟨gL, 0, none⟩) 2 [-1, -1]
theorem Tw.symm {base gP gL p q : Nat} {Ap Aq : List fnd.Ac} {n : Nat} {w : World} (h : Tw base gP gL p q Ap Aq n w) : Tw base gP gL q p Aq Ap n w := by
  obtain ⟨Sp, Sq, b1, j1, b2, j2, C1, C2, L1, L2, h1, h2, h3, h4, h5, h6⟩ := h
  exact ⟨Sq, Sp, b2, j2, b1, j1, C2, C1, L2, L1, h2, h1, fun k hk => ⟨(h4 k hk).1, fun s => (h3 k s).2.1 hk, (h4 k hk).2⟩, fun k hk => ⟨(h3 k hk).1, (h3 k hk).2.2⟩, h5, h6⟩
theorem Tw.quiet {base gP gL p q : Nat} {Ap Aq : List fnd.Ac} {n : Nat} {w w' : World} (h : Tw base gP gL p q Ap Aq n w) (ho : Only (fun _ => False) w w') : Tw base gP gL p q Ap Aq n w' := by
  obtain ⟨Sp, Sq, b1, j1, b2, j2, C1, C2, L1, L2, h1, h2, h3, h4, h5, h6⟩ := h
  exact ⟨Sp, Sq, b1, j1, b2, j2, C1, C2, L1, L2, h1.quiet ho, h2.quiet ho, h3, h4, h5.only ho (fun _ _ f => f), h6.only ho (fun _ _ f => f)⟩
theorem reads_lt {w : World} {g n : Nat} {l : List Int} (h : ReadsI w (some ⟨g, 0, none⟩) n l) (hn : 0 < n) : g < w.heap.size := by
  obtain ⟨b, off, e, hc⟩ := h.2.2.2.resolve_left (by omega)
  injection e with e
  injection e with e1 e2
  subst e1
  exact World.block_lt_of_cell? w _ (hc 0 hn)
/-- what a move of the first answers, and leaves -/
def TwR (base gP gL p q : Nat) (A' Aq : List fnd.Ac) (E : Int) (n : Nat) (w : World) (e : Ending) (w' : World) : Prop := e = .returned (.int .i64 E) ∧ Only (fun x => base ≤ x) w w' ∧ Tw base gP gL p q A' Aq (n + 1) w'
theorem tw_step {base gP gL p q : Nat} {Sp Sq : Nat → Prop} {b1 j1 b2 j2 : Nat} {A' Aq : List fnd.Ac} {C1 C2 : AcC → Option (List Int)} {L1 L2 : List jnw.Ps} {n : Nat} {w w' : World} {kind m gr E : Int} {path : List Int} {e : Ending} (hb : base ≤ w.heap.size) (h2 : Pv Sq w q b2 j2 Aq n 0 C2 L2) (h3 : ∀ k, Sp k → base ≤ k ∧ ¬ Sq k ∧ k ≠ gP ∧ k ≠ gL) (h4 : ∀ k, Sq k → base ≤ k ∧ k ≠ gP ∧ k ≠ gL) (h5 : ReadsI w (some ⟨gP, 0, none⟩) 2 [1, 2]) (h6 : ReadsI w (some ⟨gL, 0, none⟩) 2 [-1, -1]) (h : PvR Sp w p b1 j1 n 0 C1 L1 kind m gr path A' E e w') : TwR base gP gL p q A' Aq E n w e w' := by
  obtain ⟨r1, r2, S', C', L', r3, r4, -⟩ := h
  have l5 := reads_lt h5 (by omega)
  have l6 := reads_lt h6 (by omega)
  refine ⟨r1, r2.mono (fun k _ s => (h3 k s).1), S', Sq, b1, j1, b2, j2, C', C2, L', L2, r4, (h2.only r2 (fun k a b => (h3 k b).2.1 a)).up (by omega), fun k hk => ?_, h4, h5.only r2 (fun x e s => by injection e with e; rw [← e] at s; exact (h3 _ s).2.2.1 rfl), h6.only r2 (fun x e s => by injection e with e; rw [← e] at s; exact (h3 _ s).2.2.2 rfl)⟩
  rcases r3 k hk with s | s
  · exact h3 k s
  · exact ⟨by omega, fun s2 => by have := h2.lt k s2; omega, by omega, by omega⟩
section
variable {base gP gL p q : Nat} {Ap Aq : List fnd.Ac} {n : Nat} {w : World}
theorem Tw.top (h : Tw base gP gL p q Ap Aq n w) (hb : base ≤ w.heap.size) (hn : n ≤ 126) (k x : Int) (hk : entw.InI k) : Calls Try.prog 8 #[.pointer (some ⟨p, 0, none⟩), .int .i64 k, .int .i64 x] w (TwR base gP gL p q (fnd.topA Ap k x) Aq (fnd.topE Ap k x) n w) := by
  obtain ⟨Sp, Sq, b1, j1, b2, j2, C1, C2, L1, L2, h1, h2, h3, h4, h5, h6⟩ := h
  exact (h1.top hn k x hk).mono (fun e w' hm => tw_step hb h2 h3 h4 h5 h6 hm)
theorem Tw.hold (h : Tw base gP gL p q Ap Aq n w) (hb : base ≤ w.heap.size) (hn : n ≤ 126) (x : Int) : Calls Try.prog 13 #[.pointer (some ⟨p, 0, none⟩), .slice (some ⟨gP, 0, none⟩) 2 2, .slice (some ⟨gL, 0, none⟩) 2 2, .int .i64 x] w (TwR base gP gL p q (fnd.holdA Ap [1, 2] [-1, -1] x) Aq (fnd.holdE Ap [1, 2] [-1, -1] x) n w) := by
  obtain ⟨Sp, Sq, b1, j1, b2, j2, C1, C2, L1, L2, h1, h2, h3, h4, h5, h6⟩ := h
  exact (h1.hold hn (some ⟨gP, 0, none⟩) 2 2 [1, 2] (some ⟨gL, 0, none⟩) 2 2 [-1, -1] x h5 (by omega) (by omega) h6 (fun y e s => by injection e with e; rw [← e] at s; exact (h3 _ s).2.2.1 rfl)).mono (fun e w' hm => tw_step hb h2 h3 h4 h5 h6 hm)
theorem Tw.rel (h : Tw base gP gL p q Ap Aq n w) (hb : base ≤ w.heap.size) (hn : n ≤ 126) (x : Int) : Calls Try.prog 15 #[.pointer (some ⟨p, 0, none⟩), .slice (some ⟨gP, 0, none⟩) 2 2, .int .i64 x] w (TwR base gP gL p q (fnd.shA Ap [1, 2] x (-x) 0) Aq (fnd.shE Ap [1, 2] x (-x) 0) n w) := by
  obtain ⟨Sp, Sq, b1, j1, b2, j2, C1, C2, L1, L2, h1, h2, h3, h4, h5, h6⟩ := h
  exact (h1.rel hn (some ⟨gP, 0, none⟩) 2 2 [1, 2] x h5 (by omega) (by omega) (fun y e s => by injection e with e; rw [← e] at s; exact (h3 _ s).2.2.1 rfl)).mono (fun e w' hm => tw_step hb h2 h3 h4 h5 h6 hm)
theorem Tw.com (h : Tw base gP gL p q Ap Aq n w) (hb : base ≤ w.heap.size) (hn : n ≤ 126) (x gr : Int) (hg : 1 ≤ gr ∧ gr ≤ 8) : Calls Try.prog 14 #[.pointer (some ⟨p, 0, none⟩), .slice (some ⟨gP, 0, none⟩) 2 2, .int .i64 x, .int .i64 gr] w (TwR base gP gL p q (fnd.shA Ap [1, 2] x (-x) x) Aq (fnd.shE Ap [1, 2] x (-x) x) n w) := by
  obtain ⟨Sp, Sq, b1, j1, b2, j2, C1, C2, L1, L2, h1, h2, h3, h4, h5, h6⟩ := h
  exact (h1.com hn (some ⟨gP, 0, none⟩) 2 2 [1, 2] x gr hg h5 (by omega) (by omega) (fun y e s => by injection e with e; rw [← e] at s; exact (h3 _ s).2.2.1 rfl)).mono (fun e w' hm => tw_step hb h2 h3 h4 h5 h6 hm)
theorem Tw.get (h : Tw base gP gL p q Ap Aq n w) (k : Int) : Calls Try.prog 16 #[.pointer (some ⟨p, 0, none⟩), .int .i64 k] w fun e w' => e = .returned (fnd.aggA (fnd.acG Ap k)) ∧ Only (fun _ => False) w w' := by
  obtain ⟨Sp, Sq, b1, j1, b2, j2, C1, C2, L1, L2, h1, -⟩ := h
  exact pget_any k w h1.pu
end
/-- the accounts of two nodes, both the same -/
def aF (u h : Int) : List fnd.Ac := fnd.zA :: ⟨2000, 0, 0, u, h⟩ :: ⟨2000, 0, 0, u, h⟩ :: List.replicate 30 fnd.zA
theorem aF_top1 : fnd.topE fnd.A0 1 2000 = 0 := by kernel_rfl
theorem aF_top2 : fnd.topE (fnd.topA fnd.A0 1 2000) 2 2000 = 0 := by kernel_rfl
theorem aF_start : fnd.topA (fnd.topA fnd.A0 1 2000) 2 2000 = aF 0 0 := by kernel_rfl
theorem path12 : fnd.PathOk [1, 2] := by decide
theorem aF_hold (x : Int) (h : 1 ≤ x ∧ x ≤ 1000) : fnd.holdE (aF 0 0) [1, 2] [-1, -1] x = 0 ∧ fnd.holdA (aF 0 0) [1, 2] [-1, -1] x = aF 0 x := by
  have h1 : fnd.holdE (aF 0 0) [1, 2] [-1, -1] x = 0 := by
    unfold fnd.holdE
    rw [if_pos ⟨⟨path12, rfl, by decide⟩, by unfold fnd.AmtOk; omega⟩]
    have e1 : fnd.left (fnd.nd (aF 0 0) 1) = 2000 := by kernel_rfl
    have e2 : fnd.left (fnd.nd (aF 0 0) 2) = 2000 := by kernel_rfl
    unfold fnd.holdR
    rw [e1, if_neg (by omega), if_neg (by omega)]
    unfold fnd.holdR
    rw [e2, if_neg (by omega), if_neg (by omega)]
    rfl
  refine ⟨h1, ?_⟩
  unfold fnd.holdA
  rw [if_pos h1]
  show fnd.zA :: (⟨2000, 0, 0, 0 + 0, 0 + x⟩ : fnd.Ac) :: ⟨2000, 0, 0, 0 + 0, 0 + x⟩ :: List.replicate 30 fnd.zA = _
  rw [Int.zero_add, Int.zero_add]
  rfl
theorem aF_sh (u h x dh du : Int) (hx : 1 ≤ x ∧ x ≤ 1000) (h1 : 0 ≤ h + dh) (h2 : 0 ≤ u + du) : fnd.shE (aF u h) [1, 2] x dh du = 0 ∧ fnd.shA (aF u h) [1, 2] x dh du = aF (u + du) (h + dh) := by
  have hb : fnd.badB (aF u h) dh du [1, 2] = false := by
    show ((decide (h + dh < 0) || decide (u + du < 0)) || ((decide (h + dh < 0) || decide (u + du < 0)) || false)) = false
    simp; omega
  have he : fnd.shE (aF u h) [1, 2] x dh du = 0 := by
    unfold fnd.shE
    rw [if_pos ⟨path12, by unfold fnd.AmtOk; omega⟩, if_neg (by rw [hb]; simp)]
  refine ⟨he, ?_⟩
  unfold fnd.shA
  rw [if_pos he]
  rfl
theorem aF_no (u x : Int) (hx : 1 ≤ x ∧ x ≤ 1000) (du : Int) : fnd.shE (aF u 0) [1, 2] x (-x) du = 20 := by
  have hb : fnd.badB (aF u 0) (-x) du [1, 2] = true := by
    show ((decide (0 + -x < 0) || decide (u + du < 0)) || ((decide (0 + -x < 0) || decide (u + du < 0)) || false)) = true
    have : decide (0 + -x < 0) = true := by rw [decide_eq_true_iff]; omega
    rw [this]; rfl
  unfold fnd.shE
  rw [if_pos ⟨path12, by unfold fnd.AmtOk; omega⟩, if_pos hb]
theorem aF_get (u h : Int) (k : Int) (hk : k = 1 ∨ k = 2) : fnd.acG (aF u h) k = ⟨2000, 0, 0, u, h⟩ := by
  rcases hk with rfl | rfl
  · unfold fnd.acG; rw [if_pos (by decide)]; rfl
  · unfold fnd.acG; rw [if_pos (by decide)]; rfl
theorem kmod2 (a m : Int) (h1 : 1 ≤ m) (h2 : m ≤ 1000000) : ∃ K : Int, wrap64 ((IntKind.u64.wrap a).tmod m) = K ∧ 0 ≤ K ∧ K < m := by
  have h0 : 0 ≤ IntKind.u64.wrap a := by rw [IntKind.wrap_u64]; omega
  rw [Int.tmod_eq_emod_of_nonneg h0]
  have h3 := Int.emod_nonneg (IntKind.u64.wrap a) (by omega : m ≠ 0)
  have h4 := Int.emod_lt_of_pos (IntKind.u64.wrap a) (by omega : 0 < m)
  generalize IntKind.u64.wrap a % m = r at *
  exact ⟨r, IntWalk.wrap64_in _ (by omega), h3, h4⟩
end Go.Proofs.Ytkbaafgaaiekpaa.puw

namespace Go.Proofs.Ytkbaafgaaiekpaa.puw
open Go.RowKit mem
set_option linter.unusedVariables false

theorem run_fieldP3 (t c e u h : Int) (w : World) : (Instr.field 40 (.agg #[.int .i64 t, .int .i64 c, .int .i64 e, .int .i64 u, .int .i64 h]) 3).run Try.prog w = .ok (.int .i64 u) w := by
  simp [Instr.field, run_underlying Try.underlying40, run_underlying Try.underlying3, part, asAgg, isAgg, go_sem]
theorem run_fieldP4 (t c e u h : Int) (w : World) : (Instr.field 40 (.agg #[.int .i64 t, .int .i64 c, .int .i64 e, .int .i64 u, .int .i64 h]) 4).run Try.prog w = .ok (.int .i64 h) w := by
  simp [Instr.field, run_underlying Try.underlying40, run_underlying Try.underlying3, part, asAgg, isAgg, go_sem]
set_option maxRecDepth 100000 in
set_option maxHeartbeats 16000000 in
theorem parts_walk (amount group : Int) (a : Option Addr) (len cap : Nat) (l : List Int) (w : World) (hr : ReadsI w a len l) : Calls Try.prog 4 #[.int .i64 amount, .slice a len cap, .int .i64 group] w fun e w' => e = .returned (.bool true) ∧ Only (fun _ => False) w w' := by
  obtain ⟨K1, hK1, k1a, k1b⟩ := kmod2 amount 1000 (by omega) (by omega)
  obtain ⟨K2, hK2, k2a, k2b⟩ := kmod2 group 8 (by omega) (by omega)
  obtain ⟨am, ham⟩ : ∃ x, x = 1 + K1 := ⟨_, rfl⟩
  obtain ⟨gr, hgr⟩ : ∃ x, x = 1 + K2 := ⟨_, rfl⟩
  have hw1 : wrap64 (1 + K1) = am := by rw [ham]; exact IntWalk.wrap64_in _ (by omega)
  have hw2 : wrap64 (1 + K2) = gr := by rw [hgr]; exact IntWalk.wrap64_in _ (by omega)
  have ham1 : 1 ≤ am ∧ am ≤ 1000 := by omega
  have hgr1 : 1 ≤ gr ∧ gr ≤ 8 := by omega
  obtain ⟨base, hbase⟩ : ∃ x, x = w.heap.size := ⟨_, rfl⟩
  have HB := Lib.hid hbase
  have HR := Lib.hid hr
  have hml := hr.2.1
  unfold maxLen at hml
  clear hr ham hgr k1a k1b k2a k2b hbase
  go_enter Try.func4, Try.ntmps4
  go_wp2_with fail
  refine (pnew_any w).mono ?_
  rintro _ w1 ⟨p, pb, pj, rfl, hp1, ho1⟩
  have HV1 := Lib.hid (pnew_v hp1)
  have HO1 := Lib.hid ho1
  clear hp1 ho1
  go_wp2_with fail
  refine (pnew_any w1).mono ?_
  rintro _ w2 ⟨q, qb, qj, rfl, hp2, ho2⟩
  obtain ⟨w3, hw3⟩ : ∃ y, y = (w2.alloc (.cells #[.int .i64 1, .int .i64 2] 3)).alloc (.cells #[.int .i64 (-1), .int .i64 (-1)] 3) := ⟨_, rfl⟩
  obtain ⟨gP, hgP⟩ : ∃ y, y = w2.heap.size := ⟨_, rfl⟩
  obtain ⟨gL, hgL⟩ : ∃ y, y = gP + 1 := ⟨_, rfl⟩
  have ho3 : Only (fun _ => False) w2 w3 := by rw [hw3]; exact ((Only.refl _ _).alloc _).alloc _
  have HTW : Hid (Tw base gP gL p q fnd.A0 fnd.A0 0 w3) := Lib.hid (by
    have hb := HB.out
    have hs1 := HO1.out.size
    have hs2 := ho2.size
    refine ⟨_, _, pb, pj, qb, qj, _, _, _, _, HV1.out.quiet (ho2.trans ho3), (pnew_v hp2).quiet ho3, fun k hk => ⟨by have := hk.1; omega, fun s => by have := hk.2; have := s.1; omega, by have := hk.2; omega, by have := hk.2; omega⟩, fun k hk => ⟨by have := hk.1; omega, by have := hk.2; omega, by have := hk.2; omega⟩, ?_, ?_⟩
    · exact (read2 w2 3 1 2 (in_small 1 (by omega)) (in_small 2 (by omega)) rfl hgP).only (S := fun _ => False) (by rw [hw3]; exact (Only.refl _ _).alloc _) (fun _ _ f => f)
    · exact read2 (w2.alloc (.cells #[.int .i64 1, .int .i64 2] 3)) 3 (-1) (-1) (in_small (-1) (by omega)) (in_small (-1) (by omega)) hw3 (by simp [hgL, hgP]))
  have HO3 : Hid (Only (fun _ => False) w w3) := Lib.hid (HO1.out.trans (ho2.trans ho3))
  clear hp2 ho2 ho3 HV1 HO1
  go_upto_region 4 with fail
  try simp only [← hgP]
  try simp only [← hw3, ← hgL]
  clear hw3 hgL hgP
  go_wp2_with fail
  refine (purses_any w3).mono ?_
  rintro _ w4 ⟨rfl, ho4⟩
  have HT4 := Lib.hid (HTW.out.quiet ho4)
  have HO4 : Hid (Only (fun x => base ≤ x) w w4) := Lib.hid ((HO3.out.trans ho4).mono (fun _ _ f => f.elim))
  clear ho4 HTW HO3
  go_wp2_with fail
  go_loopw [11] (fun iv wx => (iv = .int .i64 1 ∧ Hid (Tw base gP gL p q fnd.A0 fnd.A0 0 wx) ∧ Hid (Only (fun x => base ≤ x) w wx)) ∨ (iv = .int .i64 2 ∧ Hid (Tw base gP gL p q (fnd.topA fnd.A0 1 2000) (fnd.topA fnd.A0 1 2000) 2 wx) ∧ Hid (Only (fun x => base ≤ x) w wx)) ∨ (iv = .int .i64 3 ∧ Hid (Tw base gP gL p q (aF 0 0) (aF 0 0) 4 wx) ∧ Hid (Only (fun x => base ≤ x) w wx))) (fun iv _ => 3 - (intOf iv).toNat)
  case atStart => exact .inl ⟨rfl, HT4, HO4⟩
  case round =>
    clear HT4 HO4
    rename World => wx
    rcases hrel with ⟨rfl, HT, HX⟩ | ⟨rfl, HT, HX⟩ | ⟨rfl, HT, HX⟩
    · have HBW : Hid (base ≤ wx.heap.size) := Lib.hid (by have := HX.out.size; have := HB.out; omega)
      have HTP := HT.out.top HBW.out (by omega) 1 2000 (in_small 1 (by omega))
      rw [aF_top1] at HTP
      have HTP := Lib.hid HTP
      go_wp2_with fail
      refine HTP.out.mono ?_
      rintro _ w5 ⟨rfl, ho5, ht5⟩
      have HX5 := Lib.hid (HX.out.trans ho5)
      have HTQ := ht5.symm.top (by have := HX5.out.size; have := HB.out; omega) (by omega) 1 2000 (in_small 1 (by omega))
      rw [aF_top1] at HTQ
      have HTQ := Lib.hid HTQ
      clear ho5 ht5 HTP HT HX
      go_wp2_with fail
      refine HTQ.out.mono ?_
      rintro _ w6 ⟨rfl, ho6, ht6⟩
      have HX6 := Lib.hid (HX5.out.trans ho6)
      have HT6 := Lib.hid ht6.symm
      clear ho6 ht6 HTQ HX5
      go_wp2_with fail
      go_roundw
      case rel => exact .inr (.inl ⟨rfl, HT6, HX6⟩)
      case measure => decide
    · have HBW : Hid (base ≤ wx.heap.size) := Lib.hid (by have := HX.out.size; have := HB.out; omega)
      have HTP := HT.out.top HBW.out (by omega) 2 2000 (in_small 2 (by omega))
      rw [aF_top2] at HTP
      have HTP := Lib.hid HTP
      go_wp2_with fail
      refine HTP.out.mono ?_
      rintro _ w5 ⟨rfl, ho5, ht5⟩
      have HX5 := Lib.hid (HX.out.trans ho5)
      have HTQ := ht5.symm.top (by have := HX5.out.size; have := HB.out; omega) (by omega) 2 2000 (in_small 2 (by omega))
      rw [aF_top2] at HTQ
      have HTQ := Lib.hid HTQ
      clear ho5 ht5 HTP HT HX
      go_wp2_with fail
      refine HTQ.out.mono ?_
      rintro _ w6 ⟨rfl, ho6, ht6⟩
      have HX6 := Lib.hid (HX5.out.trans ho6)
      rw [aF_start] at ht6
      have HT6 := Lib.hid ht6.symm
      clear ho6 ht6 HTQ HX5
      go_wp2_with fail
      go_roundw
      case rel => exact .inr (.inr ⟨rfl, HT6, HX6⟩)
      case measure => decide
    · have HBW : Hid (base ≤ wx.heap.size) := Lib.hid (by have := HX.out.size; have := HB.out; omega)
      have HTP := HT.out.hold HBW.out (by omega) am
      rw [(aF_hold am ham1).1, (aF_hold am ham1).2] at HTP
      have HTP := Lib.hid HTP
      go_wp2_with fail
      refine HTP.out.mono ?_
      rintro _ w5 ⟨rfl, ho5, ht5⟩
      have HX5 := Lib.hid (HX.out.trans ho5)
      have HTQ := ht5.symm.hold (by have := HX5.out.size; have := HB.out; omega) (by omega) am
      rw [(aF_hold am ham1).1, (aF_hold am ham1).2] at HTQ
      have HTQ := Lib.hid HTQ
      clear ho5 ht5 HTP HT HX
      go_wp2_with fail
      refine HTQ.out.mono ?_
      rintro _ w6 ⟨rfl, ho6, ht6⟩
      have HX6 := Lib.hid (HX5.out.trans ho6)
      have HT6 : Hid (Tw base gP gL p q (aF 0 am) (aF 0 am) 6 w6) := Lib.hid ht6.symm
      clear ho6 ht6 HTQ HX5 HBW
      go_upto_block 2 with fail
      go_cut [12] from 61 to 93 (fun lv wx => ∃ lf : Int, lv = .int .i64 lf ∧ 0 ≤ lf ∧ lf ≤ am ∧ Hid (Tw base gP gL p q (aF (am - lf) lf) (aF 0 am) 18 wx) ∧ Hid (Only (fun x => base ≤ x) w wx))
      case first =>
        go_wp2_with fail
        go_loopw [12, 13] (fun lv iv wx => ∃ (lf : Int) (i : Nat), lv = .int .i64 lf ∧ i ≤ 12 ∧ iv = .int .i64 (i : Int) ∧ 0 ≤ lf ∧ lf ≤ am ∧ Hid (Tw base gP gL p q (aF (am - lf) lf) (aF 0 am) (6 + i) wx) ∧ Hid (Only (fun x => base ≤ x) w wx)) (fun _ iv _ => 12 - (intOf iv).toNat)
        case atStart => exact ⟨am, 0, rfl, by omega, rfl, by omega, by omega, by rw [Int.sub_self]; exact HT6, HX6⟩
        case round =>
          clear HT6 HX6
          obtain ⟨lf, i, rfl, hi, rfl, hl0, hl1, HT, HX⟩ := hrel
          rename World => wy
          by_cases h1 : i < len
          · by_cases h2 : i < 12
            · by_cases h3 : 0 < lf
              · have hin : (i : Int) < (len : Int) := by omega
                have hi12 : (i : Int) < 12 := by omega
                have hi0 : (0 : Int) ≤ (i : Int) := by omega
                obtain ⟨b, off, rfl, hcell⟩ := HR.out.2.2.2.resolve_left (by omega)
                have hbl : b < w.heap.size := World.block_lt_of_cell? w _ (hcell i h1)
                have hci := HX.out.cell' (hcell i h1) (show ¬ base ≤ b by have := HB.out; omega)
                obtain ⟨y, hy⟩ : ∃ y, l.getD i 0 = y := ⟨_, rfl⟩
                rw [hy] at hci
                have hlz : ¬ lf = 0 := by omega
                have hlu : IntKind.u64.wrap lf = lf := by rw [IntKind.wrap_u64]; omega
                obtain ⟨K, hK, ka, kb⟩ := kmod2 y lf (by omega) (by omega)
                obtain ⟨kk, hkk⟩ : ∃ x, x = 1 + K := ⟨_, rfl⟩
                have hwk : wrap64 (1 + K) = kk := by rw [hkk]; exact IntWalk.wrap64_in _ (by omega)
                have hk1 : 1 ≤ kk ∧ kk ≤ lf := by omega
                have hws : wrap64 (lf - kk) = lf - kk := IntWalk.wrap64_in _ (by omega)
                have HTP := HT.out.com (by have := HX.out.size; have := HB.out; omega) (by omega) kk gr hgr1
                rw [(aF_sh (am - lf) lf kk (-kk) kk (by omega) (by omega) (by omega)).1, (aF_sh (am - lf) lf kk (-kk) kk (by omega) (by omega) (by omega)).2] at HTP
                have HTP := Lib.hid HTP
                clear hcell hy hkk ka kb
                go_wp2_with fail
                refine HTP.out.mono ?_
                rintro _ w7 ⟨rfl, ho7, ht7⟩
                have HX7 := Lib.hid (HX.out.trans ho7)
                have HT7 : Hid (Tw base gP gL p q (aF (am - (lf - kk)) (lf - kk)) (aF 0 am) (6 + (i + 1)) w7) := Lib.hid (by
                  have e1 : am - lf + kk = am - (lf - kk) := by omega
                  have e2 : lf + -kk = lf - kk := by omega
                  rw [e1, e2] at ht7
                  exact ht7)
                clear ho7 ht7 HTP HT HX hci
                go_wp2_with fail
                go_roundw
                case rel => exact ⟨lf - kk, i + 1, rfl, by omega, by go_num, by omega, by omega, HT7, HX7⟩
                case measure => (simp [intOf]; omega)
              · have hin : (i : Int) < (len : Int) := by omega
                have hi12 : (i : Int) < 12 := by omega
                obtain rfl : lf = 0 := by omega
                clear h3 hl0
                have HT8 : Hid (Tw base gP gL p q (aF (am - 0) 0) (aF 0 am) 18 wy) := Lib.hid (by
                  obtain ⟨Sp, Sq, b1, j1, b2, j2, C1, C2, L1, L2, g1, g2, g3⟩ := HT.out
                  exact ⟨Sp, Sq, b1, j1, b2, j2, C1, C2, L1, L2, g1.up (by omega), g2.up (by omega), g3⟩)
                clear HT
                go_wp2_with fail
                go_meet
                exact ⟨0, rfl, by omega, hl1, HT8, HX⟩
            · have hin : (i : Int) < (len : Int) := by omega
              have hi12 : ¬ (i : Int) < 12 := by omega
              have HT8 : Hid (Tw base gP gL p q (aF (am - lf) lf) (aF 0 am) 18 wy) := Lib.hid (by
                obtain ⟨Sp, Sq, b1, j1, b2, j2, C1, C2, L1, L2, g1, g2, g3⟩ := HT.out
                exact ⟨Sp, Sq, b1, j1, b2, j2, C1, C2, L1, L2, g1.up (by omega), g2.up (by omega), g3⟩)
              clear HT
              go_wp2_with fail
              go_meet
              exact ⟨lf, rfl, hl0, hl1, HT8, HX⟩
          · have hin : ¬ (i : Int) < (len : Int) := by omega
            have HT8 : Hid (Tw base gP gL p q (aF (am - lf) lf) (aF 0 am) 18 wy) := Lib.hid (by
              obtain ⟨Sp, Sq, b1, j1, b2, j2, C1, C2, L1, L2, g1, g2, g3⟩ := HT.out
              exact ⟨Sp, Sq, b1, j1, b2, j2, C1, C2, L1, L2, g1.up (by omega), g2.up (by omega), g3⟩)
            clear HT
            go_wp2_with fail
            go_meet
            exact ⟨lf, rfl, hl0, hl1, HT8, HX⟩
      clear HT6 HX6
      obtain ⟨lf, rfl, hl0, hl1, HT, HX⟩ := hcut
      rename World => wy
      obtain ⟨us, hus⟩ : ∃ x, x = am - lf := ⟨_, rfl⟩
      have hwu : wrap64 (am - lf) = am - lf := IntWalk.wrap64_in _ (by omega)
      rw [← hus] at HT
      have hus1 : 0 ≤ us := by omega
      have hus2 : us + lf = am := by omega
      go_upto_region 22 with fail
      rw [← hus]
      clear hus hwu
      go_cut [124] from 97 to 124 (fun cv wx => cv = .bool false ∧ Hid (Tw base gP gL p q (aF us 0) (aF us 0) 22 wx) ∧ Hid (Only (fun x => base ≤ x) w wx))
      case first =>
        by_cases hlz : 0 < lf
        · have HBW : Hid (base ≤ wy.heap.size) := Lib.hid (by have := HX.out.size; have := HB.out; omega)
          have HRP := HT.out.rel HBW.out (by omega) lf
          rw [(aF_sh us lf lf (-lf) 0 (by omega) (by omega) (by omega)).1, (aF_sh us lf lf (-lf) 0 (by omega) (by omega) (by omega)).2, Int.add_zero, Int.add_right_neg] at HRP
          have HRP := Lib.hid HRP
          go_wp2_with fail
          refine HRP.out.mono ?_
          rintro _ w7 ⟨rfl, ho7, ht7⟩
          have HX7 := Lib.hid (HX.out.trans ho7)
          have HRQ := ht7.symm.rel (by have := HX7.out.size; have := HB.out; omega) (by omega) lf
          rw [(aF_sh 0 am lf (-lf) 0 (by omega) (by omega) (by omega)).1, (aF_sh 0 am lf (-lf) 0 (by omega) (by omega) (by omega)).2, Int.add_zero, show am + -lf = us by omega] at HRQ
          have HRQ := Lib.hid HRQ
          clear ho7 ht7 HRP HT HX
          go_wp2_with fail
          refine HRQ.out.mono ?_
          rintro _ w8 ⟨rfl, ho8, ht8⟩
          have HX8 := Lib.hid (HX7.out.trans ho8)
          clear HRQ ho8 HX7
          by_cases huz : 0 < us
          · have HCQ := ht8.com (by have := HX8.out.size; have := HB.out; omega) (by omega) us gr hgr1
            rw [(aF_sh 0 us us (-us) us (by omega) (by omega) (by omega)).1, (aF_sh 0 us us (-us) us (by omega) (by omega) (by omega)).2, Int.zero_add, Int.add_right_neg] at HCQ
            have HCQ := Lib.hid HCQ
            clear ht8
            go_wp2_with fail
            refine HCQ.out.mono ?_
            rintro _ w9 ⟨rfl, ho9, ht9⟩
            have HX9 := Lib.hid (HX8.out.trans ho9)
            have HT9 : Hid (Tw base gP gL p q (aF us 0) (aF us 0) 22 w9) := Lib.hid (by
              obtain ⟨Sp, Sq, b1, j1, b2, j2, C1, C2, L1, L2, g1, g2, g3⟩ := ht9.symm
              exact ⟨Sp, Sq, b1, j1, b2, j2, C1, C2, L1, L2, g1.up (by omega), g2.up (by omega), g3⟩)
            clear ho9 ht9 HCQ HX8
            go_wp2_with fail
            go_meet
            exact ⟨rfl, HT9, HX9⟩
          · have huz' : ¬ 0 < us := huz
            have HT9 : Hid (Tw base gP gL p q (aF us 0) (aF us 0) 22 w8) := Lib.hid (by
              have e : us = 0 := by omega
              rw [e] at ht8 ⊢
              obtain ⟨Sp, Sq, b1, j1, b2, j2, C1, C2, L1, L2, g1, g2, g3⟩ := ht8.symm
              exact ⟨Sp, Sq, b1, j1, b2, j2, C1, C2, L1, L2, g1.up (by omega), g2.up (by omega), g3⟩)
            clear ht8
            go_wp2_with fail
            go_meet
            exact ⟨rfl, HT9, HX8⟩
        · have hlz' : ¬ 0 < lf := hlz
          have huz : 0 < us := by omega
          have hl00 : lf = 0 := by omega
          have HCQ := HT.out.symm.com (by have := HX.out.size; have := HB.out; omega) (by omega) us gr hgr1
          rw [show am = us by omega, (aF_sh 0 us us (-us) us (by omega) (by omega) (by omega)).1, (aF_sh 0 us us (-us) us (by omega) (by omega) (by omega)).2, Int.zero_add, Int.add_right_neg, hl00] at HCQ
          have HCQ := Lib.hid HCQ
          clear HT hl00
          go_wp2_with fail
          refine HCQ.out.mono ?_
          rintro _ w9 ⟨rfl, ho9, ht9⟩
          have HX9 := Lib.hid (HX.out.trans ho9)
          have HT9 : Hid (Tw base gP gL p q (aF us 0) (aF us 0) 22 w9) := Lib.hid (by
            obtain ⟨Sp, Sq, b1, j1, b2, j2, C1, C2, L1, L2, g1, g2, g3⟩ := ht9.symm
            exact ⟨Sp, Sq, b1, j1, b2, j2, C1, C2, L1, L2, g1.up (by omega), g2.up (by omega), g3⟩)
          clear ho9 ht9 HCQ HX
          go_wp2_with fail
          go_meet
          exact ⟨rfl, HT9, HX9⟩
      clear HT HX
      obtain ⟨rfl, HT, HX⟩ := hcut
      rename World => wc
      have HGP := Lib.hid (fun k (hk : k = 1 ∨ k = 2) w' (ho : Only (fun _ => False) wc w') => (HT.out.quiet ho).get k)
      have HGQ := Lib.hid (fun k (hk : k = 1 ∨ k = 2) w' (ho : Only (fun _ => False) wc w') => (HT.out.symm.quiet ho).get k)
      have HG : Hid (∀ k, (k = 1 ∨ k = 2) → ∀ x, (x = p ∨ x = q) → ∀ w', Only (fun _ => False) wc w' → Calls Try.prog 16 #[.pointer (some ⟨x, 0, none⟩), .int .i64 k] w' fun e w2 => e = .returned (.agg #[.int .i64 2000, .int .i64 0, .int .i64 0, .int .i64 us, .int .i64 0]) ∧ Only (fun _ => False) w' w2) := Lib.hid (fun k hk x hx w' ho => by
        have e : fnd.aggA (fnd.acG (aF us 0) k) = .agg #[.int .i64 2000, .int .i64 0, .int .i64 0, .int .i64 us, .int .i64 0] := by rw [aF_get us 0 k hk]; rfl
        rw [← e]
        rcases hx with rfl | rfl
        · exact HGP.out k hk w' ho
        · exact HGQ.out k hk w' ho)
      have hcmp := fun w' => fnd.ac_cmp ⟨2000, 0, 0, us, 0⟩ ⟨2000, 0, 0, us, 0⟩ (fnd.right_ins (by refine ⟨?_, ?_, ?_, ?_, ?_⟩ <;> (unfold fnd.InM; dsimp only; omega))) (fnd.right_ins (by refine ⟨?_, ?_, ?_, ?_, ?_⟩ <;> (unfold fnd.InM; dsimp only; omega))) w'
      simp only [fnd.aggA, decide_true] at hcmp
      have HCM := Lib.hid (fun w' (ho : Only (fun _ => False) wc w') (hb : base ≤ w'.heap.size) => (HT.out.quiet ho).com hb (by omega) 1 gr hgr1)
      have HNO := Lib.hid (aF_no us 1 (by omega) 1)
      have HBC : Hid (base ≤ wc.heap.size) := Lib.hid (by have := HX.out.size; have := HB.out; omega)
      have hcu : (us == us) = true := by simp
      have hf3 := fun w' => run_fieldP3 2000 0 0 us 0 w'
      have hf4 := fun w' => run_fieldP4 2000 0 0 us 0 w'
      clear HGP HGQ
      go_wp2_with fail
      refine (HG.out 1 (.inl rfl) p (.inl rfl) wc (Only.refl _ _)).mono ?_
      rintro _ v1 ⟨rfl, ho⟩
      have HO := Lib.hid ho
      clear ho
      go_wp2_with fail
      refine (HG.out 1 (.inl rfl) q (.inr rfl) v1 HO.out).mono ?_
      rintro _ v2 ⟨rfl, ho⟩
      replace HO := Lib.hid (HO.out.trans ho)
      clear ho
      go_wp2_with fail
      refine (HG.out 2 (.inr rfl) p (.inl rfl) v2 HO.out).mono ?_
      rintro _ v3 ⟨rfl, ho⟩
      replace HO := Lib.hid (HO.out.trans ho)
      clear ho
      go_wp2_with fail
      refine (HG.out 2 (.inr rfl) q (.inr rfl) v3 HO.out).mono ?_
      rintro _ v4 ⟨rfl, ho⟩
      replace HO := Lib.hid (HO.out.trans ho)
      clear ho
      go_wp2_with fail
      refine (HG.out 1 (.inl rfl) p (.inl rfl) v4 HO.out).mono ?_
      rintro _ v5 ⟨rfl, ho⟩
      replace HO := Lib.hid (HO.out.trans ho)
      clear ho
      go_wp2_with fail
      refine (HG.out 1 (.inl rfl) p (.inl rfl) v5 HO.out).mono ?_
      rintro _ v6 ⟨rfl, ho⟩
      replace HO := Lib.hid (HO.out.trans ho)
      clear ho
      go_wp2_with fail
      refine (HCM.out v6 HO.out (by have := HO.out.size; have := HBC.out; omega)).mono ?_
      rintro _ v7 ⟨rfl, ho, -⟩
      rw [HNO.out]
      have HEND : Hid (Only (fun _ => False) w v7) := Lib.hid ((Only.refl (fun _ => False) w).then (HX.out.trans ((HO.out.mono (fun _ _ f => f.elim)).trans ho)) (fun k hk s => by have := HB.out; omega))
      clear ho HO HCM HG hcmp
      go_wp2_with fail
      go_ret
      exact ⟨rfl, HEND.out⟩
theorem parts_below (amount group : Int) (a : Option Addr) (len cap : Nat) (l : List Int) (w : World) (hr : ReadsI w a len l) : Calls Try.prog 4 #[.int .i64 amount, .slice a len cap, .int .i64 group] w fun e w' => e = .returned (.bool true) ∧ Below w.heap.size w w' := (parts_walk amount group a len cap l w hr).mono (fun e w' h => ⟨h.1, h.2.none⟩)
theorem parts_open (amount group : Int) (a : Option Addr) (len cap : Nat) (w : World) (hr : ∃ l, IntsR w a len cap l) : Calls Try.prog 4 #[.int .i64 amount, .slice a len cap, .int .i64 group] w fun e w' => e = .returned (.bool true) ∧ Below w.heap.size w w' := by
  obtain ⟨l, hl⟩ := hr
  exact parts_below amount group a len cap l w hl.1
end Go.Proofs.Ytkbaafgaaiekpaa.puw

namespace Go.Proofs.Ytkbaafgaaiekpaa.periodParts
open Go.ChangeShapes Go.WideShapes Go.ChangeAt Go.RowKit
set_option linter.unusedVariables false

theorem own : ownKnob Try.prog.godebug = none := by kernel_rfl
theorem laidOut : laidOutB Try.prog = true := by kernel_rfl

set_option maxRecDepth 100000 in
theorem lifted (os : Os) (started : os.Started) (H : Type) (enc : TypeId × Value → H) :
    ReturnsInHanded {} Try.checked os 4 .any (Rows.periodPartsSpec.pre6 enc Try.prog Try.f4 Rows.periodPartsRow.domain false) (Rows.periodPartsSpec.post enc Try.prog Try.f4 false true false false) := by
  refine returnsInHanded_of_change (C := Try.checked) own started (by kernel_rfl) Try.func4
    (ChangeSpec.witness6 (enc := enc) (C := Try.checked) false ⟨#[], #[.int .i64 0, .slice none 0 0, .int .i64 0], []⟩ 8 (by kernel_rfl) (by kernel_rfl) (by kernel_rfl) (by kernel_rfl)) ?_
  intro W base args ds gs before hval0 hW hcnd _
  have hval : ∀ (j : Nat) t v, Try.f4.params[j]? = some t → args[j]? = some v → Value.okWide Try.prog W .any base t v := hval0
  have hW' := hW
  obtain ⟨p, q, hA0, hV, rfl, hfz, hnd⟩ := hW
  have hA : DataW.TrodAll enc Try.prog W 0 (fun _ => true) true Try.f4.params.toList args.toList ds p := hA0
  rw [Try.params4] at hA hval
  obtain ⟨v0, vs0, d0, ds0, p0, q0, hargs, rfl, rfl, h0, r0⟩ := trodAll_cons hA
  obtain ⟨v1, vs1, d1, ds1, p1, q1, rfl, rfl, rfl, h1, r1⟩ := trodAll_cons r0
  obtain ⟨v2, vs2, d2, ds2, p2, q2, rfl, rfl, rfl, h2, r2⟩ := trodAll_cons r1
  obtain ⟨rfl, rfl, rfl⟩ := trodAll_nil r2
  obtain rfl : args = #[v0, v1, v2] := by cases args; simp_all
  obtain ⟨rfl, rfl⟩ := trodVars_none hV
  obtain ⟨a0, rfl, rfl, rfl, w0⟩ := open_int Try.underlying3 (hval 0 3 v0 rfl rfl) h0
  obtain ⟨a1, len1, cap1, rfl⟩ := okWide_slice Try.underlying28 (hval 1 28 v1 rfl rfl)
  have k1 := h1
  have lt1 : ∀ x ∈ p1, x.block < W.heap.size := by obtain ⟨m, hm⟩ := k1; exact DataW.trod_lt m _ _ _ hm
  have w1 := Exists.elim h1 (fun _ hf => opu.ints_open hf)
  obtain ⟨a2, rfl, rfl, rfl, w2⟩ := open_int Try.underlying3 (hval 2 3 v2 rfl rfl) h2
  clear hA0 hval0
  refine Calls.mono (puw.parts_open a0 a2 a1 len1 cap1 W w1) fun e W' ⟨he, bel⟩ => ?_
  subst he
  exact ⟨_, rfl, _, _, _, [], _, [], hW', trodAll_mk1 (shut_bool Try.underlying4 _), (trodAll_cons_mk (shut_int Try.underlying3 w0) (trodAll_cons_mk (Below.trod laidOut (by kernel_rfl) (of_decide_eq_true (by kernel_rfl)) k1 bel lt1) (trodAll_cons_mk (shut_int Try.underlying3 w2) trodAll_mk0))), rfl, bel.frame _, fun h => by cases h⟩

theorem over : Rows.periodPartsRow.holds Try.pinned (OpenSpec.ofChange Rows.periodPartsSpec) :=
  OpenClaim.holds_of_wide 4 Try.f4 rfl rfl rfl rfl rfl rfl rfl ⟨rfl, rfl, rfl, rfl, rfl⟩ rfl rfl rfl rfl rfl (by kernel_rfl) Try.func4 (by kernel_rfl)
    (of_decide_eq_true (by kernel_rfl)) (by unfold Func.isWrapper; first | (rw [if_pos (by decide +kernel)]; kernel_rfl) | (rw [if_neg (by decide +kernel)]; exact ⟨rfl, rfl⟩))
    (fun os started H enc _ => lifted os started H enc)

/-- THE STATEMENT -/
theorem proved : Rows.PeriodPartsSaid := over
end Go.Proofs.Ytkbaafgaaiekpaa.periodParts

