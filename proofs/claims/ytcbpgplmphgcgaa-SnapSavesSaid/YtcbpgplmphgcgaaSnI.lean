/- The program's Load. -/
import Derived.Test.YtcbpgplmphgcgaaSnH
namespace Go.Proofs.Ytcbpgplmphgcgaa.snw
open Go.RowKit mem snm crcm dskw
set_option linter.unusedVariables false

/-- the newer one -/
def newer (P Q : Nat × List Nat) : Nat × List Nat := if P.1 < Q.1 then Q else P
def Lded (w : World) (N : Nat × List Nat) (e : Ending) (w' : World) : Prop := Only (fun _ => False) w w' ∧ ((N.1 = 0 ∧ e = .returned (.tuple #[.int .i64 0, .slice none 0 0, .int .i64 7])) ∨ (N.1 ≠ 0 ∧ ∃ va vc, e = .returned (.tuple #[.int .i64 (N.1 : Int), .slice va N.2.length vc, .int .i64 0]) ∧ OwnB w' (.slice va N.2.length vc) N.2 ∧ ∀ y, va = some y → w.heap.size ≤ y.block))
theorem own_far {v : Option Addr} {l : List Nat} {c g b : Nat} {w : World} (h : OwnB w (.slice v l.length c) l) (hy : ∀ y, v = some y → b ≤ y.block) (hg : g < b) : ∀ k, (.slice v l.length c : Value).ownBlock = some k → ¬ k = g := fun k e e2 => by
  cases v with
  | none => cases e
  | some y =>
    have := hy y rfl
    have e3 : y.block = k := by simpa [Value.ownBlock] using e
    omega
set_option maxRecDepth 100000 in
set_option maxHeartbeats 4000000 in
theorem load_yes (p bl bm n : Nat) (L : Nat → List Nat) (C : Nat → Option (List Nat)) (cut : Int) (first size : Nat) (w : World) (h : DskAt w p bl bm n L C cut false) (hin : first + 2 * size ≤ n) (hs : 1 ≤ size) :
    Calls Try.prog 37 #[.pointer (some ⟨p, 0, none⟩), .int .i64 (first : Int), .int .i64 (size : Int)] w (Lded w (newer (slotL L C first size 0) (slotL L C first size 1))) := by
  have HRD := Lib.hid (sread_yes p bl bm n L C cut first size w h hin hs)
  generalize slotL L C first size 0 = P at *
  generalize slotL L C first size 1 = Q at *
  obtain ⟨pg, pim⟩ := P
  obtain ⟨qg, qim⟩ := Q
  have HNW : Hid (newer (pg, pim) (qg, qim) = if pg < qg then (qg, qim) else (pg, pim)) := Lib.hid rfl
  clear h
  go_enter Try.func37, Try.ntmps37
  go_wp2_with fail
  refine HRD.out.mono ?_
  rintro _ w1 ⟨va, vc, vb, vd, rfl, ho1, ho2, hy1, hy2, ho⟩
  have HP := Lib.hid ho1
  have HQ := Lib.hid ho2
  have HY : Hid ((∀ y, va = some y → w.heap.size ≤ y.block) ∧ ∀ y, vb = some y → w.heap.size ≤ y.block) := Lib.hid ⟨hy1, hy2⟩
  have HO1 := Lib.hid ho
  dsimp only at HP HQ ⊢
  generalize hpl : pim.length = pl at *
  generalize hql : qim.length = ql at *
  have HPL : Hid (pim.length = pl ∧ qim.length = ql) := Lib.hid ⟨hpl, hql⟩
  clear ho1 ho2 hy1 hy2 ho HRD hpl hql
  obtain ⟨w2, hw2⟩ : ∃ x, x = w1.alloc (.cells #[.int .i64 (pg : Int), .slice va pl vc, .int .i64 (qg : Int), .slice vb ql vd] 120) := ⟨_, rfl⟩
  obtain ⟨g2, hg2⟩ : ∃ x, x = w1.heap.size := ⟨_, rfl⟩
  obtain ⟨⟨b0, b1, b2, b3, -⟩, hal2⟩ := bx4_new hw2 hg2
  go_upto_region 2 with fail
  simp only [← hw2, ← hg2]
  clear hw2 hg2
  obtain ⟨w3, hw3⟩ : ∃ x, x = w2.alloc (.cells #[.int .i64 (pg : Int), .slice va pl vc] 119) := ⟨_, rfl⟩
  obtain ⟨g3, hg3⟩ : ∃ x, x = w2.heap.size := ⟨_, rfl⟩
  obtain ⟨s0, s1, sf, hal3⟩ := slbox hw3 hg3
  go_upto_region 5 with fail
  simp only [← hw3, ← hg3]
  have HG3 : Hid (w1.heap.size ≤ g3) := Lib.hid (by rw [hg3]; exact hal2.size)
  clear hw3 hg3
  replace b0 := hal3.cell' b0 (fun f => f)
  replace b1 := hal3.cell' b1 (fun f => f)
  replace b2 := hal3.cell' b2 (fun f => f)
  replace b3 := hal3.cell' b3 (fun f => f)
  have HO3 : Hid (Only (fun _ => False) w1 w3) := Lib.hid (hal2.trans hal3)
  clear hal2 hal3
  by_cases hlt : pg < qg
  · rw [if_pos hlt] at HNW
    have hlt' : (pg : Int) < qg := by omega
    have hq0 : ¬ (qg : Int) = 0 := by omega
    have hqb : ((qg : Int) == 0) = false := beq_eq_false_iff_ne.2 hq0
    obtain ⟨y0, y1, hoW⟩ := put2_facts (x0 := .int .i64 (qg : Int)) (x1 := .slice vb ql vd) s0 s1
    obtain ⟨w4, hw4⟩ : ∃ x, x = put2 w3 g3 (.int .i64 (qg : Int)) (.slice vb ql vd) := ⟨_, rfl⟩
    rw [← hw4] at y0 y1 hoW
    unfold put2 at hw4
    go_upto_region 7 with fail
    simp only [← hw4]
    have HF : Hid (∀ w', Only (fun _ => False) w4 w' → Lded w (qg, qim) (.returned (.tuple #[.int .i64 (qg : Int), .slice vb ql vd, .int .i64 0])) w') := Lib.hid (fun w' h5 => by
      have hl := HPL.out.2
      subst hl
      refine ⟨((HO1.out.trans HO3.out).then hoW (fun q hq e => by have := HG3.out; have := HO1.out.size; have e : q = g3 := e; omega)).trans h5, .inr ⟨by show qg ≠ 0; omega, vb, vd, rfl, ((HQ.out.only HO3.out (fun _ _ f => f)).only hoW ?_).only h5 (fun _ _ f => f), HY.out.2⟩⟩
      intro k e e2
      have h1 := OwnB.lt HQ.out k e
      have := HG3.out
      have e2 : k = g3 := e2
      omega)
    clear hw4 b0 b1 b2 b3 s0 s1 sf hoW HP HQ HY
    go_wp2_with fail
    go_quiet (fail)
    go_wp2_with fail
    go_ret3
    (rw [HNW.out]; exact HF.out _ (drewN_sn (Only.refl _ _) _))
  · rw [if_neg hlt] at HNW
    have hlt' : ¬ (pg : Int) < qg := by omega
    by_cases h0 : pg = 0
    · have hqb : ((pg : Int) == 0) = true := by rw [beq_iff_eq]; omega
      have HF : Hid (Lded w (pg, pim) (.returned (.tuple #[.int .i64 0, .slice none 0 0, .int .i64 7])) w3) := Lib.hid ⟨HO1.out.trans HO3.out, .inl ⟨h0, rfl⟩⟩
      clear HP HQ HY h0
      go_wp2_with fail
      go_ret3
      (rw [HNW.out]; exact HF.out)
    · have hqb : ((pg : Int) == 0) = false := beq_eq_false_iff_ne.2 (by omega)
      have HF : Hid (∀ w', Only (fun _ => False) w3 w' → Lded w (pg, pim) (.returned (.tuple #[.int .i64 (pg : Int), .slice va pl vc, .int .i64 0])) w') := Lib.hid (fun w' h5 => by
        have hl := HPL.out.1
        subst hl
        exact ⟨(HO1.out.trans HO3.out).trans h5, .inr ⟨h0, va, vc, rfl, (HP.out.only HO3.out (fun _ _ f => f)).only h5 (fun _ _ f => f), HY.out.1⟩⟩)
      clear HP HQ HY h0
      go_wp2_with fail
      go_quiet (fail)
      go_wp2_with fail
      go_ret3
      (rw [HNW.out]; exact HF.out _ (drewN_sn (Only.refl _ _) _))
end Go.Proofs.Ytcbpgplmphgcgaa.snw
