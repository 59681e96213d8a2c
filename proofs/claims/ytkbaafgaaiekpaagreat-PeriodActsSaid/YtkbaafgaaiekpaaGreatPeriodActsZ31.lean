/- Several texts together: DkA. -/
import Derived.Test.YtkbaafgaaiekpaaGreatPeriodActsZ1
import Derived.Test.YtkbaafgaaiekpaaGreatPeriodActsZ14
import Derived.Test.YtkbaafgaaiekpaaGreatPeriodActsZ30
namespace Go.Proofs.YtkbaafgaaiekpaaGreat.dkw
open Go.RowKit mem accm accn entw entm acck jnw
set_option linter.unusedVariables false
variable {AB : List fnd.Ac}

theorem bk_far {w : World} {p : Nat} {A : List fnd.Ac} (h : fnd.BkAt w p A) {j : Nat} (hj : 165 ≤ j) (v : Value) : fnd.BkAt (w.setCell ⟨p, j, none⟩ v) p A :=
  ⟨fun k hk => by
    obtain ⟨h0, h1, h2, h3, h4⟩ := h.1 k hk
    exact ⟨(cell_other (off_ne (by omega))).trans h0, (cell_other (off_ne (by omega))).trans h1, (cell_other (off_ne (by omega))).trans h2, (cell_other (off_ne (by omega))).trans h3, (cell_other (off_ne (by omega))).trans h4⟩, fun i hi => frozen_set.trans (h.2 i hi)⟩
structure DkAt (AB : List fnd.Ac) (S : Nat → Prop) (w : World) (p : Nat) (vL vW : Value) (op : Nat) (D : List Es) : Prop where
  c0 : w.cell? ⟨p, 165, none⟩ = some vL
  c1 : w.cell? ⟨p, 166, none⟩ = some vW
  c2 : w.cell? ⟨p, 167, none⟩ = some (.int .i64 (op : Int))
  f0 : w.frozen? ⟨p, 165, none⟩ = false
  f1 : w.frozen? ⟨p, 166, none⟩ = false
  f2 : w.frozen? ⟨p, 167, none⟩ = false
  le : op < 32
  oL : OwnE w vL D
  oW : OwnN w vW (whens D)
  sp : S p
  sL : ∀ q, vL.ownBlock = some q → S q ∧ q ≠ p
  sW : ∀ q, vW.ownBlock = some q → S q ∧ q ≠ p ∧ vL.ownBlock ≠ some q
  ls : ∀ x ∈ D, ReadsL w x.a x.n x.ls ∧ chk x.kd x.ls = 0 ∧ x.per ≤ op ∧ ∀ y, x.a = some y → S y.block ∧ y.block ≠ p ∧ vL.ownBlock ≠ some y.block ∧ vW.ownBlock ≠ some y.block
  len : D.length ≤ 16384
  bk : fnd.BkAt w p AB
theorem DkAt.lt {S : Nat → Prop} {w : World} {p : Nat} {vL vW : Value} {op : Nat} {D : List Es} (h : DkAt AB S w p vL vW op D) : p < w.heap.size := World.block_lt_of_cell? w _ h.c0
theorem DkAt.only {S T : Nat → Prop} {w w' : World} {p : Nat} {vL vW : Value} {op : Nat} {D : List Es} (h : DkAt AB S w p vL vW op D) (ho : Only T w w') (hT : ∀ q, S q → ¬ T q) : DkAt AB S w' p vL vW op D :=
  ⟨ho.cell' h.c0 (hT _ h.sp), ho.cell' h.c1 (hT _ h.sp), ho.cell' h.c2 (hT _ h.sp), (ho.frozen (p := ⟨p, 165, none⟩) h.lt (hT _ h.sp)).trans h.f0, (ho.frozen (p := ⟨p, 166, none⟩) h.lt (hT _ h.sp)).trans h.f1, (ho.frozen (p := ⟨p, 167, none⟩) h.lt (hT _ h.sp)).trans h.f2, h.le,
    owns_only ho h.oL (fun k e => hT _ (h.sL k e).1), owns_only ho h.oW (fun k e => hT _ (h.sW k e).1), h.sp, h.sL, h.sW, fun x hx => ⟨(h.ls x hx).1.only ho (fun y e => hT _ ((h.ls x hx).2.2.2 y e).1), (h.ls x hx).2⟩, h.len, h.bk.only ho (hT _ h.sp)⟩
theorem DkAt.quiet {S : Nat → Prop} {w w' : World} {p : Nat} {vL vW : Value} {op : Nat} {D : List Es} (h : DkAt AB S w p vL vW op D) (ho : Only (fun _ => False) w w') : DkAt AB S w' p vL vW op D := h.only ho (fun _ _ f => f)
theorem DkAt.mono {S T : Nat → Prop} {w : World} {p : Nat} {vL vW : Value} {op : Nat} {D : List Es} (h : DkAt AB S w p vL vW op D) (hT : ∀ q, S q → T q) : DkAt AB T w p vL vW op D :=
  ⟨h.c0, h.c1, h.c2, h.f0, h.f1, h.f2, h.le, h.oL, h.oW, hT _ h.sp, fun q e => ⟨hT _ (h.sL q e).1, (h.sL q e).2⟩, fun q e => ⟨hT _ (h.sW q e).1, (h.sW q e).2⟩, fun x hx => ⟨(h.ls x hx).1, (h.ls x hx).2.1, (h.ls x hx).2.2.1, fun y e => ⟨hT _ ((h.ls x hx).2.2.2 y e).1, ((h.ls x hx).2.2.2 y e).2⟩⟩, h.len, h.bk⟩
theorem DkAt.monoS {S T : Nat → Prop} {w : World} {p : Nat} {vL vW : Value} {op : Nat} {D : List Es} (h : DkAt AB S w p vL vW op D) (hT : ∀ q, q < w.heap.size → S q → T q) : DkAt AB T w p vL vW op D :=
  ⟨h.c0, h.c1, h.c2, h.f0, h.f1, h.f2, h.le, h.oL, h.oW, hT _ h.lt h.sp, fun q e => ⟨hT _ (own_lt h.oL e) (h.sL q e).1, (h.sL q e).2⟩, fun q e => ⟨hT _ (own_lt h.oW e) (h.sW q e).1, (h.sW q e).2⟩, fun x hx => by
    obtain ⟨h1, h2, h3, h4⟩ := h.ls x hx
    have hl := ((chk_ok _ _).1 h2).2.1
    exact ⟨h1, h2, h3, fun y e => ⟨hT _ (readsL_block h1 e (by have := h1.1; omega)) (h4 y e).1, (h4 y e).2⟩⟩, h.len, h.bk⟩
theorem rclose_yes (p op : Nat) (vL vW : Value) (D : List Es) {S : Nat → Prop} (w : World) (h : DkAt AB S w p vL vW op D) (ho : op < 31) : Calls Tryz.prog 88 #[.pointer (some ⟨p, 165, none⟩)] w fun e w' => e = .returned (.tuple #[.int .i64 ((op + 1 : Nat) : Int), .int .i64 0]) ∧ DkAt AB S w' p vL vW (op + 1) D ∧ Only (fun q => q = p) w w' := by
  have c2 := h.c2
  have f2 := h.f2
  have hb : ¬ (32 : Int) ≤ (op : Int) + 1 := by omega
  have hw : wrap64 ((op : Int) + 1) = (op : Int) + 1 := by unfold wrap64; omega
  have hc : ((op + 1 : Nat) : Int) = (op : Int) + 1 := by omega
  have HO : Hid (Only (fun q => q = p) w (w.setCell ⟨p, 167, none⟩ (.int .i64 ((op : Int) + 1)))) := Lib.hid (Only.set (fun q => q = p) w p 167 _ rfl)
  have H : Hid (DkAt AB S (w.setCell ⟨p, 167, none⟩ (.int .i64 ((op : Int) + 1))) p vL vW (op + 1) D) := Lib.hid (by
    refine ⟨by rw [cell_other (fun e => by injection e with _ e; omega)]; exact h.c0, by rw [cell_other (fun e => by injection e with _ e; omega)]; exact h.c1, ?_, by rw [frozen_set]; exact h.f0, by rw [frozen_set]; exact h.f1, by rw [frozen_set]; exact h.f2, by omega, owns_only HO.out h.oL (fun k e f => (h.sL k e).2 f), owns_only HO.out h.oW (fun k e f => (h.sW k e).2.1 f), h.sp, h.sL, h.sW, fun x hx => ?_, h.len, bk_far h.bk (by omega) _⟩
    · rw [hc]; exact cell_same h.c2
    · obtain ⟨h1, h2, h3, h4⟩ := h.ls x hx
      exact ⟨h1.only HO.out (fun y e f => (h4 y e).2.1 f), h2, by omega, h4⟩)
  have hn : (w.setCell ⟨p, 167, none⟩ (.int .i64 ((op : Int) + 1))).cell? ⟨p, 167, none⟩ = some (.int .i64 ((op : Int) + 1)) := cell_same c2
  rw [hc]
  clear h hc
  go_enter Tryz.func88, Tryz.ntmps88
  go_wp2_with fail
  go_ret2
  exact ⟨rfl, H.out, HO.out⟩
set_option maxRecDepth 100000 in
set_option maxHeartbeats 4000000 in
theorem rmoved_any {S : Nat → Prop} (p op : Nat) (vL vW : Value) (D : List Es) (x : Lg) (per : Int) (w : World) (h : DkAt AB S w p vL vW op D) :
    Calls Tryz.prog 105 #[.pointer (some ⟨p, 165, none⟩), .agg #[.int .i64 x.k, .int .i64 x.n, .int .i64 x.g, .int .i64 x.a], .int .i64 per] w fun e w' => e = .returned (.int .i64 (wrap64 (movD (lgA x) per D))) ∧ Only (fun _ => False) w w' := by
  obtain ⟨xk, xn, xg, xa⟩ := x
  obtain ⟨w1, hw1⟩ : ∃ y, y = w.alloc (.cells #[.int .i64 xk, .int .i64 xn, .int .i64 xg, .int .i64 xa] 94) := ⟨_, rfl⟩
  obtain ⟨q4, hq4⟩ : ∃ y, y = w.heap.size := ⟨_, rfl⟩
  have ho1 : Only (fun _ => False) w w1 := by rw [hw1]; exact (Only.refl _ w).alloc _
  have HO1 := Lib.hid ho1
  have HQ4 : Hid (∀ w', Only (fun _ => False) w1 w' → w'.cell? ⟨q4, 0, none⟩ = some (.int .i64 xk) ∧ w'.cell? ⟨q4, 1, none⟩ = some (.int .i64 xn) ∧ w'.cell? ⟨q4, 2, none⟩ = some (.int .i64 xg) ∧ w'.cell? ⟨q4, 3, none⟩ = some (.int .i64 xa)) := Lib.hid (fun w' ho =>
    ⟨ho.cell' (by rw [hw1]; exact alloc_new _ _ _ _ _ _ hq4 rfl) (fun f => f), ho.cell' (by rw [hw1]; exact alloc_new _ _ _ _ _ _ hq4 rfl) (fun f => f), ho.cell' (by rw [hw1]; exact alloc_new _ _ _ _ _ _ hq4 rfl) (fun f => f), ho.cell' (by rw [hw1]; exact alloc_new _ _ _ _ _ _ hq4 rfl) (fun f => f)⟩)
  have HDJ : Hid (∀ w', Only (fun _ => False) w1 w' → DkAt AB S w' p vL vW op D) := Lib.hid (fun w' ho => h.quiet (ho1.trans ho))
  have hlen := h.len
  obtain ⟨aL, cL, hvL⟩ : ∃ a c, vL = .slice a D.length c := by
    rcases own_form h.oL with ⟨hv, h0⟩ | ⟨g, cap, hv, _⟩
    · exact ⟨none, 0, by rw [hv, h0]⟩
    · exact ⟨_, cap, hv⟩
  subst hvL
  obtain ⟨aW, cW, hvW⟩ : ∃ a c, vW = .slice a D.length c := by
    have hl : (whens D).length = D.length := by simp [whens]
    rcases own_form h.oW with ⟨hv, h0⟩ | ⟨g, cap, hv, _⟩
    · exact ⟨none, 0, by rw [hv, ← hl, h0]⟩
    · exact ⟨_, cap, by rw [hv, hl]⟩
  subst hvW
  clear h ho1
  show Calls _ _ #[_, .agg #[.int .i64 xk, .int .i64 xn, .int .i64 xg, .int .i64 xa], _] _ _
  obtain ⟨ac, hac⟩ : ∃ y, y = lgA ⟨xk, xn, xg, xa⟩ := ⟨_, rfl⟩
  have HAC := Lib.hid hac
  rw [← hac]
  clear hac
  go_enter Tryz.func105, Tryz.ntmps105
  go_upto_region 1 with fail
  simp only [← hw1, ← hq4]
  clear hw1 hq4
  go_wp2_with fail
  go_loopw [8, 7] (fun i n wr => ∃ k : Nat, k ≤ D.length ∧ i = .int .i64 (k : Int) ∧ n = .int .i64 (wrap64 (movD ac per (D.take k))) ∧ Hid (Only (fun _ => False) w1 wr)) (fun i _ _ => D.length - (intOf i).toNat)
  case atStart => exact ⟨0, by omega, rfl, by simp [movD, wrap64], Lib.hid (Only.refl _ _)⟩
  case round =>
    obtain ⟨k, hk, rfl, rfl, HW⟩ := hrel
    rename World => wr
    have c0 := (HDJ.out wr HW.out).c0
    have c1 := (HDJ.out wr HW.out).c1
    by_cases h8 : k < D.length
    · have hin : (k : Int) < (D.length : Int) := by omega
      have hk0 : (0 : Int) ≤ (k : Int) := by omega
      obtain ⟨gL, rfl⟩ : ∃ g, aL = some ⟨g, 0, none⟩ := by
        rcases own_form (HDJ.out wr HW.out).oL with ⟨hv, h0⟩ | ⟨g, cap, hv, _⟩
        · omega
        · injection hv with hv; exact ⟨g, hv⟩
      obtain ⟨gW, rfl⟩ : ∃ g, aW = some ⟨g, 0, none⟩ := by
        rcases own_form (HDJ.out wr HW.out).oW with ⟨hv, h0⟩ | ⟨g, cap, hv, _⟩
        · have hl : (whens D).length = D.length := by simp [whens]
          omega
        · injection hv with hv; exact ⟨g, hv⟩
      have hwl : (whens D).length = D.length := by simp [whens]
      have cw : wr.cell? ⟨gW, k, none⟩ = some (.int .i64 ((D.getD k default).per : Int)) := by
        have h := (HDJ.out wr HW.out).oW.cell (i := k) (by rw [hwl]; exact h8) hwl.symm
        rw [h]
        simp [whens, List.getD, h8]
      have HMT := Lib.hid (movD_take (a := ac) (per := per) h8)
      have hmem : D.getD k default ∈ D := by rw [List.getD_eq_getElem?_getD, List.getElem?_eq_getElem h8]; exact List.getElem_mem h8
      have HLE := Lib.hid (fun w' ho => ((HDJ.out w' ho).oL.cell h8 rfl).2)
      have HLR := Lib.hid (fun w' ho => ((HDJ.out w' ho).ls _ hmem).1)
      have HCH := Lib.hid (((HDJ.out wr HW.out).ls _ hmem).2.1)
      obtain ⟨⟨ek, ea, en, ec, ep, es⟩, he⟩ : ∃ x, D.getD k default = x := ⟨_, rfl⟩
      rw [he] at cw HMT HLE HLR HCH
      dsimp only at cw HMT HLE HLR HCH
      clear hmem he hwl
      by_cases hsk : 0 ≤ per ∧ (ep : Int) ≠ per
      · have hmv : movD ac per (D.take (k + 1)) = movD ac per (D.take k) := by rw [HMT.out, if_pos hsk]; omega
        obtain ⟨hs1, hs2⟩ := hsk
        have hb2 : ((ep : Int) != per) = true := by simpa using hs2
        have HMV := Lib.hid hmv
        clear hmv hs2
        go_wp2_with fail
        go_roundw
        case rel => exact ⟨k + 1, by omega, by go_num, by rw [HMV.out], HW⟩
        case measure => (simp [intOf]; omega)
      · have hsk0 := hsk
        have hsk' : per < 0 ∨ (0 ≤ per ∧ (ep : Int) = per) := by omega
        have HEN : Hid (es.length = en) := Lib.hid (HLR.out wr HW.out).1
        have hen64 : en ≤ 64 := by have := ((chk_ok _ _).1 HCH.out).2.1; have := HEN.out; omega
        clear hsk
        rcases hsk' with hneg | ⟨hpos, heq⟩
        · have hng : ¬ 0 ≤ per := by omega
          have HCF : Hid (movD ac per (D.take (k + 1)) = movD ac per (D.take k) + legSum ac es) := Lib.hid (by rw [HMT.out, if_neg hsk0])
          clear HMT
          go_wp2_with fail
          clear c0 c1 cw
          go_loopw [9, 7] (fun j n wx => ∃ t : Nat, t ≤ en ∧ j = .int .i64 (t : Int) ∧ n = .int .i64 (wrap64 (movD ac per (D.take k) + legSum ac (es.take t))) ∧ Hid (Only (fun _ => False) w1 wx)) (fun j _ _ => en - (intOf j).toNat)
          case atStart => exact ⟨0, by omega, rfl, by simp [legSum], HW⟩
          case round =>
            obtain ⟨t, ht, rfl, rfl, HX⟩ := hrel
            rename World => wx
            have c0 := (HDJ.out wx HX.out).c0
            have c2 := HLE.out wx HX.out
            by_cases ht8 : t < en
            · have hti : (t : Int) < (en : Int) := by omega
              have ht0 : (0 : Int) ≤ (t : Int) := by omega
              obtain ⟨b, off, rfl, hcell⟩ := (HLR.out wx HX.out).2.2.2.resolve_left (by omega)
              obtain ⟨y0, y1, y2, y3⟩ := hcell t ht8
              have HLT := Lib.hid (legSum_take (a := ac) (ls := es) (k := t) (by rw [HEN.out]; exact ht8))
              obtain ⟨⟨lk, lm, lg, lb⟩, hle⟩ : ∃ x, es.getD t default = x := ⟨_, rfl⟩
              rw [hle] at y0 y1 y2 y3 HLT
              dsimp only at y0 y1 y2 y3
              have HS9 : Hid (∀ w', Only (fun _ => False) wx w' → w'.cell? ⟨p, 165, none⟩ = some (.slice (some ⟨gL, 0, none⟩) D.length cL) ∧ w'.cell? ⟨gL, k * 2 + 1, none⟩ = some (.slice (some ⟨b, off, none⟩) en ec) ∧ w'.cell? ⟨b, off + t * 4, none⟩ = some (.int .i64 lk) ∧ w'.cell? ⟨b, off + t * 4 + 1, none⟩ = some (.int .i64 lm) ∧ w'.cell? ⟨b, off + t * 4 + 2, none⟩ = some (.int .i64 lg) ∧ w'.cell? ⟨b, off + t * 4 + 3, none⟩ = some (.int .i64 lb) ∧ w'.cell? ⟨q4, 0, none⟩ = some (.int .i64 xk) ∧ w'.cell? ⟨q4, 1, none⟩ = some (.int .i64 xn) ∧ w'.cell? ⟨q4, 2, none⟩ = some (.int .i64 xg) ∧ w'.cell? ⟨q4, 3, none⟩ = some (.int .i64 xa)) := Lib.hid (fun w' ho => by
                obtain ⟨z0, z1, z2, z3⟩ := HQ4.out w' (HX.out.trans ho)
                exact ⟨(HDJ.out w' (HX.out.trans ho)).c0, HLE.out w' (HX.out.trans ho), ho.cell' y0 (fun f => f), ho.cell' y1 (fun f => f), ho.cell' y2 (fun f => f), ho.cell' y3 (fun f => f), z0, z1, z2, z3⟩)
              have HSM := Lib.hid (fun w' => same_any ⟨lk, lm, lg, lb⟩ ⟨xk, xn, xg, xa⟩ w')
              clear hcell hle y0 y1 y2 y3
              go_upto_region 9 with fail
              clear c0 c2
              refine wp_region_noPanic ?_
              refine late.region (fun w' => w'.cell? ⟨p, 165, none⟩ = some (.slice (some ⟨gL, 0, none⟩) D.length cL) ∧ w'.cell? ⟨gL, k * 2 + 1, none⟩ = some (.slice (some ⟨b, off, none⟩) en ec) ∧ w'.cell? ⟨b, off + t * 4, none⟩ = some (.int .i64 lk) ∧ w'.cell? ⟨b, off + t * 4 + 1, none⟩ = some (.int .i64 lm) ∧ w'.cell? ⟨b, off + t * 4 + 2, none⟩ = some (.int .i64 lg) ∧ w'.cell? ⟨b, off + t * 4 + 3, none⟩ = some (.int .i64 lb) ∧ w'.cell? ⟨q4, 0, none⟩ = some (.int .i64 xk) ∧ w'.cell? ⟨q4, 1, none⟩ = some (.int .i64 xn) ∧ w'.cell? ⟨q4, 2, none⟩ = some (.int .i64 xg) ∧ w'.cell? ⟨q4, 3, none⟩ = some (.int .i64 xa)) (fun j => [].contains j) (by kernel_rfl) (HS9.out _ (Only.refl _ _).drew) (fun hHeld => ?_)
              obtain ⟨z0, hz0⟩ : ∃ x, x = wx.drew := ⟨_, rfl⟩
              rw [← hz0] at hHeld ⊢
              have hot : Hid (Only (fun _ => False) wx z0) := Lib.hid (by rw [hz0]; exact (Only.refl _ _).drew)
              clear hz0
              refine sho.lt 0 [1, 2, 3, 5, 6, 7, 9, 10, 12] ?_
              refine sho.lt 1 [2, 3, 5, 6, 7, 9, 10, 12] ?_
              refine sho.lt 2 [3, 5, 6, 7, 9, 10, 12] ?_
              refine sho.lt 3 [5, 6, 7, 9, 10, 12] ?_
              refine sho.lt 4 [5, 6, 7, 9, 10, 12] ?_
              refine sho.lt 5 [6, 7, 9, 10, 12] ?_
              refine sho.lt 6 [7, 9, 10, 12] ?_
              refine sho.lt 7 [9, 10, 12] ?_
              refine sho.lt 8 [9, 10, 12] ?_
              refine sho.lt 9 [10, 12] ?_
              refine sho.lt 10 [12] ?_
              refine sho.lt 11 [12] ?_
              refine late.ready (rs := [12]) (by kernel_rfl) (by simp) ?_
              refine late.Each.cons rfl (fun K hK => ?_) late.Each.nil
              try simp only [List.getElem_toArray, List.getElem_cons_zero, List.getElem_cons_succ]
              go_simp
              go_at_call 112
              with_reducible refine (HSM.out _).mono ?_
              rintro _ W1 ⟨rfl, ho⟩
              replace hot := Lib.hid (hot.out.trans ho)
              clear ho
              try dsimp only
              refine hK.out _ _ (fun _ => HS9.out _ hot.out) (fun hHeld1 => ?_)
              replace hHeld1 := hHeld1 rfl
              clear hK K
              try simp only [List.getElem_toArray, List.getElem_cons_zero, List.getElem_cons_succ, Act.put, List.setIfInBounds_toArray, List.set_cons_zero, List.set_cons_succ]
              refine late.done (by kernel_rfl) ?_ _
              refine NoPanic.normal ?_
              have HX2 := Lib.hid (HX.out.trans hot.out)
              obtain ⟨d0, d1, d2, d3, d4, d5, -⟩ := HS9.out _ hot.out
              clear hHeld hot HS9 HSM
              by_cases hsm : lgA ⟨lk, lm, lg, lb⟩ = lgA ⟨xk, xn, xg, xa⟩
              · have hw := wrap_add (movD ac per (D.take k) + legSum ac (es.take t)) lb
                have hl : movD ac per (D.take k) + legSum ac (es.take (t + 1)) = movD ac per (D.take k) + legSum ac (es.take t) + lb := by rw [HLT.out, if_pos (by rw [HAC.out]; exact hsm)]; dsimp only; omega
                rw [← hl] at hw
                rw [decide_eq_true hsm]
                obtain ⟨s1, hs1⟩ : ∃ x, x = wrap64 (movD ac per (D.take k) + legSum ac (es.take (t + 1))) := ⟨_, rfl⟩
                rw [← hs1] at hw
                have HSS := Lib.hid hs1
                clear hs1 hl hsm
                generalize wrap64 (movD ac per (D.take k) + legSum ac (es.take t)) = s0 at *
                go_wp2_with fail
                go_roundw
                case rel => exact ⟨t + 1, by omega, by go_num, by first | rw [HSS.out] | rw [hw, HSS.out], HX2⟩
                case measure => (simp [intOf]; omega)
              · have hl : movD ac per (D.take k) + legSum ac (es.take (t + 1)) = movD ac per (D.take k) + legSum ac (es.take t) := by rw [HLT.out, if_neg (by rw [HAC.out]; exact hsm)]; omega
                rw [decide_eq_false hsm]
                have HL1 := Lib.hid hl
                clear hl hsm d0 d1 d2 d3 d4 d5
                generalize hs0 : wrap64 (movD ac per (D.take k) + legSum ac (es.take t)) = s0
                have HS0 := Lib.hid hs0
                clear hs0
                go_wp2_with fail
                go_roundw
                case rel => exact ⟨t + 1, by omega, by go_num, by rw [HL1.out, HS0.out], HX2⟩
                case measure => (simp [intOf]; omega)
            · have hti : ¬ (t : Int) < (en : Int) := by omega
              obtain rfl : t = en := by omega
              have hfull : es.take t = es := List.take_of_length_le (by rw [HEN.out]; omega)
              rw [hfull, ← HCF.out]
              clear hfull
              go_wp2_with fail
              go_roundw
              case rel => exact ⟨k + 1, by omega, by go_num, rfl, HX⟩
              case measure => (simp [intOf]; omega)
        · have hb2 : ((ep : Int) != per) = false := by simpa using heq
          have HCF : Hid (movD ac per (D.take (k + 1)) = movD ac per (D.take k) + legSum ac es) := Lib.hid (by rw [HMT.out, if_neg hsk0])
          clear HMT
          go_wp2_with fail
          clear c0 c1 cw
          go_loopw [9, 7] (fun j n wx => ∃ t : Nat, t ≤ en ∧ j = .int .i64 (t : Int) ∧ n = .int .i64 (wrap64 (movD ac per (D.take k) + legSum ac (es.take t))) ∧ Hid (Only (fun _ => False) w1 wx)) (fun j _ _ => en - (intOf j).toNat)
          case atStart => exact ⟨0, by omega, rfl, by simp [legSum], HW⟩
          case round =>
            obtain ⟨t, ht, rfl, rfl, HX⟩ := hrel
            rename World => wx
            have c0 := (HDJ.out wx HX.out).c0
            have c2 := HLE.out wx HX.out
            by_cases ht8 : t < en
            · have hti : (t : Int) < (en : Int) := by omega
              have ht0 : (0 : Int) ≤ (t : Int) := by omega
              obtain ⟨b, off, rfl, hcell⟩ := (HLR.out wx HX.out).2.2.2.resolve_left (by omega)
              obtain ⟨y0, y1, y2, y3⟩ := hcell t ht8
              have HLT := Lib.hid (legSum_take (a := ac) (ls := es) (k := t) (by rw [HEN.out]; exact ht8))
              obtain ⟨⟨lk, lm, lg, lb⟩, hle⟩ : ∃ x, es.getD t default = x := ⟨_, rfl⟩
              rw [hle] at y0 y1 y2 y3 HLT
              dsimp only at y0 y1 y2 y3
              have HS9 : Hid (∀ w', Only (fun _ => False) wx w' → w'.cell? ⟨p, 165, none⟩ = some (.slice (some ⟨gL, 0, none⟩) D.length cL) ∧ w'.cell? ⟨gL, k * 2 + 1, none⟩ = some (.slice (some ⟨b, off, none⟩) en ec) ∧ w'.cell? ⟨b, off + t * 4, none⟩ = some (.int .i64 lk) ∧ w'.cell? ⟨b, off + t * 4 + 1, none⟩ = some (.int .i64 lm) ∧ w'.cell? ⟨b, off + t * 4 + 2, none⟩ = some (.int .i64 lg) ∧ w'.cell? ⟨b, off + t * 4 + 3, none⟩ = some (.int .i64 lb) ∧ w'.cell? ⟨q4, 0, none⟩ = some (.int .i64 xk) ∧ w'.cell? ⟨q4, 1, none⟩ = some (.int .i64 xn) ∧ w'.cell? ⟨q4, 2, none⟩ = some (.int .i64 xg) ∧ w'.cell? ⟨q4, 3, none⟩ = some (.int .i64 xa)) := Lib.hid (fun w' ho => by
                obtain ⟨z0, z1, z2, z3⟩ := HQ4.out w' (HX.out.trans ho)
                exact ⟨(HDJ.out w' (HX.out.trans ho)).c0, HLE.out w' (HX.out.trans ho), ho.cell' y0 (fun f => f), ho.cell' y1 (fun f => f), ho.cell' y2 (fun f => f), ho.cell' y3 (fun f => f), z0, z1, z2, z3⟩)
              have HSM := Lib.hid (fun w' => same_any ⟨lk, lm, lg, lb⟩ ⟨xk, xn, xg, xa⟩ w')
              clear hcell hle y0 y1 y2 y3
              go_upto_region 9 with fail
              clear c0 c2
              refine wp_region_noPanic ?_
              refine late.region (fun w' => w'.cell? ⟨p, 165, none⟩ = some (.slice (some ⟨gL, 0, none⟩) D.length cL) ∧ w'.cell? ⟨gL, k * 2 + 1, none⟩ = some (.slice (some ⟨b, off, none⟩) en ec) ∧ w'.cell? ⟨b, off + t * 4, none⟩ = some (.int .i64 lk) ∧ w'.cell? ⟨b, off + t * 4 + 1, none⟩ = some (.int .i64 lm) ∧ w'.cell? ⟨b, off + t * 4 + 2, none⟩ = some (.int .i64 lg) ∧ w'.cell? ⟨b, off + t * 4 + 3, none⟩ = some (.int .i64 lb) ∧ w'.cell? ⟨q4, 0, none⟩ = some (.int .i64 xk) ∧ w'.cell? ⟨q4, 1, none⟩ = some (.int .i64 xn) ∧ w'.cell? ⟨q4, 2, none⟩ = some (.int .i64 xg) ∧ w'.cell? ⟨q4, 3, none⟩ = some (.int .i64 xa)) (fun j => [].contains j) (by kernel_rfl) (HS9.out _ (Only.refl _ _).drew) (fun hHeld => ?_)
              obtain ⟨z0, hz0⟩ : ∃ x, x = wx.drew := ⟨_, rfl⟩
              rw [← hz0] at hHeld ⊢
              have hot : Hid (Only (fun _ => False) wx z0) := Lib.hid (by rw [hz0]; exact (Only.refl _ _).drew)
              clear hz0
              refine sho.lt 0 [1, 2, 3, 5, 6, 7, 9, 10, 12] ?_
              refine sho.lt 1 [2, 3, 5, 6, 7, 9, 10, 12] ?_
              refine sho.lt 2 [3, 5, 6, 7, 9, 10, 12] ?_
              refine sho.lt 3 [5, 6, 7, 9, 10, 12] ?_
              refine sho.lt 4 [5, 6, 7, 9, 10, 12] ?_
              refine sho.lt 5 [6, 7, 9, 10, 12] ?_
              refine sho.lt 6 [7, 9, 10, 12] ?_
              refine sho.lt 7 [9, 10, 12] ?_
              refine sho.lt 8 [9, 10, 12] ?_
              refine sho.lt 9 [10, 12] ?_
              refine sho.lt 10 [12] ?_
              refine sho.lt 11 [12] ?_
              refine late.ready (rs := [12]) (by kernel_rfl) (by simp) ?_
              refine late.Each.cons rfl (fun K hK => ?_) late.Each.nil
              try simp only [List.getElem_toArray, List.getElem_cons_zero, List.getElem_cons_succ]
              go_simp
              go_at_call 112
              with_reducible refine (HSM.out _).mono ?_
              rintro _ W1 ⟨rfl, ho⟩
              replace hot := Lib.hid (hot.out.trans ho)
              clear ho
              try dsimp only
              refine hK.out _ _ (fun _ => HS9.out _ hot.out) (fun hHeld1 => ?_)
              replace hHeld1 := hHeld1 rfl
              clear hK K
              try simp only [List.getElem_toArray, List.getElem_cons_zero, List.getElem_cons_succ, Act.put, List.setIfInBounds_toArray, List.set_cons_zero, List.set_cons_succ]
              refine late.done (by kernel_rfl) ?_ _
              refine NoPanic.normal ?_
              have HX2 := Lib.hid (HX.out.trans hot.out)
              obtain ⟨d0, d1, d2, d3, d4, d5, -⟩ := HS9.out _ hot.out
              clear hHeld hot HS9 HSM
              by_cases hsm : lgA ⟨lk, lm, lg, lb⟩ = lgA ⟨xk, xn, xg, xa⟩
              · have hw := wrap_add (movD ac per (D.take k) + legSum ac (es.take t)) lb
                have hl : movD ac per (D.take k) + legSum ac (es.take (t + 1)) = movD ac per (D.take k) + legSum ac (es.take t) + lb := by rw [HLT.out, if_pos (by rw [HAC.out]; exact hsm)]; dsimp only; omega
                rw [← hl] at hw
                rw [decide_eq_true hsm]
                obtain ⟨s1, hs1⟩ : ∃ x, x = wrap64 (movD ac per (D.take k) + legSum ac (es.take (t + 1))) := ⟨_, rfl⟩
                rw [← hs1] at hw
                have HSS := Lib.hid hs1
                clear hs1 hl hsm
                generalize wrap64 (movD ac per (D.take k) + legSum ac (es.take t)) = s0 at *
                go_wp2_with fail
                go_roundw
                case rel => exact ⟨t + 1, by omega, by go_num, by first | rw [HSS.out] | rw [hw, HSS.out], HX2⟩
                case measure => (simp [intOf]; omega)
              · have hl : movD ac per (D.take k) + legSum ac (es.take (t + 1)) = movD ac per (D.take k) + legSum ac (es.take t) := by rw [HLT.out, if_neg (by rw [HAC.out]; exact hsm)]; omega
                rw [decide_eq_false hsm]
                have HL1 := Lib.hid hl
                clear hl hsm d0 d1 d2 d3 d4 d5
                generalize hs0 : wrap64 (movD ac per (D.take k) + legSum ac (es.take t)) = s0
                have HS0 := Lib.hid hs0
                clear hs0
                go_wp2_with fail
                go_roundw
                case rel => exact ⟨t + 1, by omega, by go_num, by rw [HL1.out, HS0.out], HX2⟩
                case measure => (simp [intOf]; omega)
            · have hti : ¬ (t : Int) < (en : Int) := by omega
              obtain rfl : t = en := by omega
              have hfull : es.take t = es := List.take_of_length_le (by rw [HEN.out]; omega)
              rw [hfull, ← HCF.out]
              clear hfull
              go_wp2_with fail
              go_roundw
              case rel => exact ⟨k + 1, by omega, by go_num, rfl, HX⟩
              case measure => (simp [intOf]; omega)
    · have hin : ¬ (k : Int) < (D.length : Int) := by omega
      obtain rfl : k = D.length := by omega
      rw [List.take_length]
      have HO := Lib.hid (HO1.out.trans HW.out)
      go_wp2_with fail
      go_ret
      exact ⟨rfl, HO.out⟩
def RPostAt (AB : List fnd.Ac) (S : Nat → Prop) (p op : Nat) (vL vW : Value) (D : List Es) (kind : Int) (a : Option Addr) (n c : Nat) (ls : List Lg) (w : World) (e : Ending) (w' : World) : Prop :=
  (dErr D kind ls ≠ 0 ∧ e = .returned (.tuple #[.int .i64 0, .int .i64 (dErr D kind ls)]) ∧ Only (fun _ => False) w w') ∨
  (dErr D kind ls = 0 ∧ chk kind ls = 0 ∧ e = .returned (.tuple #[.int .i64 (D.length : Int), .int .i64 0]) ∧ (∃ vL' vW', DkAt AB (fun q => S q ∨ w.heap.size ≤ q) w' p vL' vW' op (D ++ [⟨kind, a, n, c, op, ls⟩])) ∧ Only (fun q => q = p ∨ vL.ownBlock = some q ∨ vW.ownBlock = some q) w w')
set_option maxRecDepth 100000 in
set_option maxHeartbeats 8000000 in
theorem rpost_any {S : Nat → Prop} (p op : Nat) (vL vW : Value) (D : List Es) (kind : Int) (a : Option Addr) (n c : Nat) (ls : List Lg) (w : World) (h : DkAt AB S w p vL vW op D) (hr : ReadsL w a n ls) (hn0 : D.length < 16384)
    (ha : ∀ y, a = some y → S y.block ∧ y.block ≠ p ∧ vL.ownBlock ≠ some y.block ∧ vW.ownBlock ≠ some y.block) :
    Calls Tryz.prog 87 #[.pointer (some ⟨p, 165, none⟩), .agg #[.int .i64 kind, .slice a n c]] w (RPostAt AB S p op vL vW D kind a n c ls w) := by
  obtain ⟨w1, hw1⟩ : ∃ x, x = w.alloc (.cells #[.int .i64 kind, .slice a n c] 75) := ⟨_, rfl⟩
  obtain ⟨q3, hq3⟩ : ∃ x, x = w.heap.size := ⟨_, rfl⟩
  have ho1 : Only (fun _ => False) w w1 := by rw [hw1]; exact (Only.refl _ w).alloc _
  have k0 : w1.cell? ⟨q3, 0, none⟩ = some (.int .i64 kind) := by rw [hw1]; exact alloc_new _ _ _ _ _ _ hq3 rfl
  have k1 : w1.cell? ⟨q3, 1, none⟩ = some (.slice a n c) := by rw [hw1]; exact alloc_new _ _ _ _ _ _ hq3 rfl
  have HO1 := Lib.hid ho1
  have HQW : Hid (w.heap.size ≤ q3) := Lib.hid (by omega)
  have HCK := Lib.hid (rcheck_any kind a n c ls w1 (hr.only ho1 (fun _ _ f => f)))
  have HLN : Hid (ls.length = n) := Lib.hid hr.1
  have HR0 := Lib.hid hr
  have HD0 := Lib.hid h
  have HAY0 := Lib.hid ha
  by_cases hc : chk kind ls = 0
  · rw [hc] at HCK
    have HCZ := Lib.hid hc
    have hn64 : n ≤ 64 := by have := ((chk_ok kind ls).1 hc).2.1; have := hr.1; omega
    have hn2 : 2 ≤ n := by have := ((chk_ok kind ls).1 hc).2.1; have := hr.1; omega
    obtain ⟨b, off, rfl, -⟩ := hr.2.2.2.resolve_left (by omega)
    have HAY := Lib.hid (ha _ rfl)
    have HBL : Hid (b < w.heap.size) := Lib.hid (readsL_lt hr (by omega))
    have HEXI : Hid ((∃ j, j < ls.length ∧ overD D (ls.getD j default)) → dErr D kind ls = 6) := Lib.hid (fun hex => by unfold dErr; rw [if_neg (by simpa using hc), if_pos hex])
    have HNOX : Hid ((¬ ∃ j, j < ls.length ∧ overD D (ls.getD j default)) → dErr D kind ls = 0) := Lib.hid (fun hex => by unfold dErr; rw [if_neg (by simpa using hc), if_neg hex])
    obtain ⟨aL, cL, hvL⟩ : ∃ a c, vL = .slice a D.length c := by
      rcases own_form h.oL with ⟨hv, h0⟩ | ⟨g, cap, hv, _⟩
      · exact ⟨none, 0, by rw [hv, h0]⟩
      · exact ⟨_, cap, hv⟩
    subst hvL
    have hwl : (whens D).length = D.length := by simp [whens]
    obtain ⟨aW, cW, hvW⟩ : ∃ a c, vW = .slice a D.length c := by
      rcases own_form h.oW with ⟨hv, h0⟩ | ⟨g, cap, hv, _⟩
      · exact ⟨none, 0, by rw [hv, ← hwl, h0]⟩
      · exact ⟨_, cap, by rw [hv, hwl]⟩
    subst hvW
    have HWL := Lib.hid hwl
    clear hr hc ho1 h ha hwl HAY0
    go_enter Tryz.func87, Tryz.ntmps87
    go_upto_region 1 with fail
    simp only [← hw1, ← hq3]
    clear hw1 hq3
    go_wp2_with fail
    refine HCK.out.mono ?_
    rintro _ w2 ⟨rfl, ho⟩
    have HO2 := Lib.hid (HO1.out.trans ho)
    have HQB : Hid (∀ w', Only (fun _ => False) w2 w' → w'.cell? ⟨q3, 0, none⟩ = some (.int .i64 kind) ∧ w'.cell? ⟨q3, 1, none⟩ = some (.slice (some ⟨b, off, none⟩) n c)) := Lib.hid (fun w' ho2 => ⟨(ho.trans ho2).cell' k0 (fun f => f), (ho.trans ho2).cell' k1 (fun f => f)⟩)
    have c0 := (HD0.out.quiet HO2.out).c0
    have hnb : ¬ (16384 : Int) ≤ (D.length : Int) := by omega
    have HDW : Hid (∀ w', Only (fun _ => False) w2 w' → DkAt AB S w' p (.slice aL D.length cL) (.slice aW D.length cW) op D) := Lib.hid (fun w' ho => HD0.out.quiet (HO2.out.trans ho))
    have HRL : Hid (∀ w', Only (fun _ => False) w2 w' → ReadsL w' (some ⟨b, off, none⟩) n ls) := Lib.hid (fun w' ho => HR0.out.only (HO2.out.trans ho) (fun _ _ f => f))
    clear ho HCK k0 k1 HO1 HR0
    go_wp2_with fail
    clear c0 hnb
    go_loopw [7] (fun i wx => ∃ t : Nat, t ≤ n ∧ i = .int .i64 (t : Int) ∧ (∀ j, j < t → ¬ overD D (ls.getD j default)) ∧ Hid (Only (fun _ => False) w2 wx)) (fun i _ => n - (intOf i).toNat)
    case atStart => exact ⟨0, by omega, rfl, fun j hj => absurd hj (by omega), Lib.hid (Only.refl _ _)⟩
    case round =>
      obtain ⟨t, ht, rfl, hno, HX⟩ := hrel
      have HNO := Lib.hid hno
      clear hno
      rename World => wx
      have k1 := (HQB.out wx HX.out).2
      by_cases ht8 : t < n
      · obtain ⟨b', off', hbe, hcell⟩ := (HRL.out wx HX.out).2.2.2.resolve_left (by omega)
        injection hbe with hbe
        injection hbe with hb1 hb2
        subst hb1 hb2
        obtain ⟨y0, y1, y2, y3⟩ := hcell t ht8
        obtain ⟨⟨lk, lm, lg, lb⟩, hle⟩ : ∃ x, ls.getD t default = x := ⟨_, rfl⟩
        have HLE := Lib.hid hle
        rw [hle] at y0 y1 y2 y3
        dsimp only at y0 y1 y2 y3
        have ht0 : (0 : Int) ≤ (t : Int) := by omega
        have hti : (t : Int) < (n : Int) := by omega
        have HS9 : Hid (∀ w', Only (fun _ => False) wx w' → w'.cell? ⟨q3, 1, none⟩ = some (.slice (some ⟨b, off, none⟩) n c) ∧ w'.cell? ⟨b, off + t * 4, none⟩ = some (.int .i64 lk) ∧ w'.cell? ⟨b, off + t * 4 + 1, none⟩ = some (.int .i64 lm) ∧ w'.cell? ⟨b, off + t * 4 + 2, none⟩ = some (.int .i64 lg) ∧ w'.cell? ⟨b, off + t * 4 + 3, none⟩ = some (.int .i64 lb)) := Lib.hid (fun w' ho => ⟨(HQB.out w' (HX.out.trans ho)).2, ho.cell' y0 (fun f => f), ho.cell' y1 (fun f => f), ho.cell' y2 (fun f => f), ho.cell' y3 (fun f => f)⟩)
        obtain ⟨y, hy⟩ : ∃ x, x = wrap64 (movD (lgA ⟨lk, lm, lg, lb⟩) (-1) D) := ⟨_, rfl⟩
        have HMV : Hid (∀ w', Only (fun _ => False) w2 w' → Calls Tryz.prog 105 #[.pointer (some ⟨p, 165, none⟩), .agg #[.int .i64 lk, .int .i64 lm, .int .i64 lg, .int .i64 lb], .int .i64 (-1)] w' fun e w'' => e = .returned (.int .i64 y) ∧ Only (fun _ => False) w' w'') := Lib.hid (fun w' ho => by rw [hy]; exact rmoved_any p op _ _ D ⟨lk, lm, lg, lb⟩ (-1) w' (HDW.out w' ho))
        obtain ⟨z, hz⟩ : ∃ x, x = wrap64 (y + lb) := ⟨_, rfl⟩
        have HZ : Hid (IntKind.i64.wrap (y + lb) = z) := Lib.hid (by rw [hz, IntKind.wrap_i64]; simp only [wrap64])
        have HOV : Hid (overD D (ls.getD t default) ↔ 1152921504606846976 < z ∨ z < -1152921504606846976) := Lib.hid (by rw [HLE.out, hz, hy]; exact Iff.rfl)
        clear hy hz hcell hle y0 y1 y2 y3
        go_upto_region 9 with fail
        clear k1
        refine wp_region_noPanic ?_
        refine late.region (fun w' => w'.cell? ⟨q3, 1, none⟩ = some (.slice (some ⟨b, off, none⟩) n c) ∧ w'.cell? ⟨b, off + t * 4, none⟩ = some (.int .i64 lk) ∧ w'.cell? ⟨b, off + t * 4 + 1, none⟩ = some (.int .i64 lm) ∧ w'.cell? ⟨b, off + t * 4 + 2, none⟩ = some (.int .i64 lg) ∧ w'.cell? ⟨b, off + t * 4 + 3, none⟩ = some (.int .i64 lb)) (fun j => [].contains j) (by kernel_rfl) (HS9.out _ (Only.refl _ _).drew) (fun hHeld => ?_)
        obtain ⟨z0, hz0⟩ : ∃ x, x = wx.drew := ⟨_, rfl⟩
        rw [← hz0] at hHeld ⊢
        have hot : Hid (Only (fun _ => False) wx z0) := Lib.hid (by rw [hz0]; exact (Only.refl _ _).drew)
        clear hz0
        refine sho.lt 0 [6, 13, 14] ?_
        refine sho.lt 1 [2, 4, 5, 6, 13, 14] ?_
        refine sho.lt 2 [4, 5, 6, 13, 14] ?_
        refine sho.lt 3 [4, 5, 6, 13, 14] ?_
        refine sho.lt 4 [5, 6, 13, 14] ?_
        refine sho.lt 5 [6, 13, 14] ?_
        refine sho.lt 7 [8, 10, 11, 12, 13, 14] ?_
        refine sho.lt 8 [10, 11, 12, 13, 14] ?_
        refine sho.lt 9 [10, 11, 12, 13, 14] ?_
        refine sho.lt 10 [11, 12, 13, 14] ?_
        refine sho.lt 11 [12, 13, 14] ?_
        refine sho.lt 12 [13, 14] ?_
        refine late.ready (rs := [6]) (by kernel_rfl) (by simp) ?_
        refine late.Each.cons rfl (fun K hK => ?_) late.Each.nil
        try simp only [List.getElem_toArray, List.getElem_cons_zero, List.getElem_cons_succ]
        go_simp
        go_at_call 105
        with_reducible refine (HMV.out _ (HX.out.trans hot.out)).mono ?_
        rintro _ W1 ⟨rfl, ho⟩
        replace hot := Lib.hid (hot.out.trans ho)
        clear ho
        try dsimp only
        refine hK.out _ _ (fun _ => HS9.out _ hot.out) (fun hHeld1 => ?_)
        replace hHeld1 := hHeld1 rfl
        clear hK K
        try simp only [List.getElem_toArray, List.getElem_cons_zero, List.getElem_cons_succ, Act.put, List.setIfInBounds_toArray, List.set_cons_zero, List.set_cons_succ]
        refine sho.lt 13 [14] ?_
        refine sho.lt 14 [] ?_
        refine late.done (by kernel_rfl) ?_ _
        refine NoPanic.normal ?_
        have HX2 := Lib.hid (HX.out.trans hot.out)
        have hwz := HZ.out
        clear hHeld hot HS9
        by_cases g1 : 1152921504606846976 < z
        · have hex := HEXI.out ⟨t, by rw [HLN.out]; exact ht8, HOV.out.2 (.inl g1)⟩
          go_wp2_with fail
          go_ret2
          exact .inl ⟨by rw [hex]; decide, by rw [hex]; rfl, HO2.out.trans HX2.out⟩
        · by_cases g2 : z < -1152921504606846976
          · have hex := HEXI.out ⟨t, by rw [HLN.out]; exact ht8, HOV.out.2 (.inr g2)⟩
            go_wp2_with fail
            go_ret2
            exact .inl ⟨by rw [hex]; decide, by rw [hex]; rfl, HO2.out.trans HX2.out⟩
          · have HNV : Hid (¬ overD D (ls.getD t default)) := Lib.hid (fun h => by rcases HOV.out.1 h with h | h; exact g1 h; exact g2 h)
            go_wp2_with fail
            go_roundw
            case rel => exact ⟨t + 1, by omega, by go_num, below_succ HNO.out HNV.out, HX2⟩
            case measure => (simp [intOf]; omega)
      · have hti : ¬ (t : Int) < (n : Int) := by omega
        obtain rfl : n = t := by omega
        have HER0 : Hid (dErr D kind ls = 0) := Lib.hid (HNOX.out (by rintro ⟨j, hj, hov⟩; exact HNO.out j (by rw [← HLN.out]; exact hj) hov))
        have HDJ : Hid (∀ w', Only (fun _ => False) wx w' → DkAt AB S w' p (.slice aL D.length cL) (.slice aW D.length cW) op D) := Lib.hid (fun w' ho => HDW.out w' (HX.out.trans ho))
        obtain ⟨wr, hwr⟩ : ∃ x, x = wx := ⟨_, rfl⟩
        rw [← hwr] at HX HDJ k1 ⊢
        clear hwr
        have HS12 : Hid (∀ w', Only (fun q => (.slice aL D.length cL : Value).ownBlock = some q ∨ (.slice aW D.length cW : Value).ownBlock = some q) wr w' → w'.cell? ⟨p, 166, none⟩ = some (.slice aW D.length cW) ∧ w'.cell? ⟨p, 167, none⟩ = some (.int .i64 (op : Int)) ∧ w'.cell? ⟨q3, 0, none⟩ = some (.int .i64 kind) ∧ w'.cell? ⟨q3, 1, none⟩ = some (.slice (some ⟨b, off, none⟩) n c)) := Lib.hid (fun w' ho => by
          have hd := HDJ.out wr (Only.refl _ _)
          have hp : ¬ ((.slice aL D.length cL : Value).ownBlock = some p ∨ (.slice aW D.length cW : Value).ownBlock = some p) := fun e => e.elim (fun e => (hd.sL p e).2 rfl) (fun e => (hd.sW p e).2.1 rfl)
          have hq : ¬ ((.slice aL D.length cL : Value).ownBlock = some q3 ∨ (.slice aW D.length cW : Value).ownBlock = some q3) := fun e => e.elim (fun e => by have := own_lt HD0.out.oL e; have := HQW.out; omega) (fun e => by have := own_lt HD0.out.oW e; have := HQW.out; omega)
          obtain ⟨z0, z1⟩ := HQB.out wr HX.out
          exact ⟨ho.cell' hd.c1 hp, ho.cell' hd.c2 hp, ho.cell' z0 hq, ho.cell' z1 hq⟩)
        have HC0 : Hid (∀ w', Only (fun q => (.slice aL D.length cL : Value).ownBlock = some q ∨ (.slice aW D.length cW : Value).ownBlock = some q) wr w' → w'.cell? ⟨p, 165, none⟩ = some (.slice aL D.length cL)) := Lib.hid (fun w' ho => by
          have hd := HDJ.out wr (Only.refl _ _)
          exact ho.cell' hd.c0 (fun e => e.elim (fun e => (hd.sL p e).2 rfl) (fun e => (hd.sW p e).2.1 rfl)))
        have HQP : Hid (¬ q3 = p) := Lib.hid (by have := HD0.out.lt; have := HQW.out; omega)
        have HFZ : Hid (∀ j : Nat, j < 3 → ∀ w', Only (fun q => (.slice aL D.length cL : Value).ownBlock = some q ∨ (.slice aW D.length cW : Value).ownBlock = some q) wr w' → w'.frozen? ⟨p, 165 + j, none⟩ = false) := Lib.hid (fun j hj w' ho => by
          have hd := HDJ.out wr (Only.refl _ _)
          have hp : ¬ ((.slice aL D.length cL : Value).ownBlock = some p ∨ (.slice aW D.length cW : Value).ownBlock = some p) := fun e => e.elim (fun e => (hd.sL p e).2 rfl) (fun e => (hd.sW p e).2.1 rfl)
          have hf := fun j => ho.frozen (p := ⟨p, 165 + j, none⟩) hd.lt hp
          have : j = 0 ∨ j = 1 ∨ j = 2 := by omega
          rcases this with rfl | rfl | rfl
          · exact (hf 0).trans hd.f0
          · exact (hf 1).trans hd.f1
          · exact (hf 2).trans hd.f2)
        go_upto_region 12 with fail
        clear k1
        refine wp_region_noPanic ?_
        refine late.region (fun w' => w'.cell? ⟨p, 166, none⟩ = some (.slice aW D.length cW) ∧ w'.cell? ⟨p, 167, none⟩ = some (.int .i64 (op : Int)) ∧ w'.cell? ⟨q3, 0, none⟩ = some (.int .i64 kind) ∧ w'.cell? ⟨q3, 1, none⟩ = some (.slice (some ⟨b, off, none⟩) n c)) (fun j => [24].contains j) (by kernel_rfl) (HS12.out _ ((Only.refl _ _).drew)) (fun hHeld => ?_)
        obtain ⟨z0, hz0⟩ : ∃ x, x = wr.drew := ⟨_, rfl⟩
        rw [← hz0] at hHeld ⊢
        have hdr : Only (fun _ => False) wr z0 := by rw [hz0]; exact (Only.refl _ _).drew
        have hot : Hid (Only (fun q => (.slice aL D.length cL : Value).ownBlock = some q) wr z0) := Lib.hid (hdr.mono (fun _ _ f => f.elim))
        have HOE : Hid (OwnE z0 (.slice aL D.length cL) D) := Lib.hid (owns_only hdr (HDJ.out wr (Only.refl _ _)).oL (fun _ _ f => f))
        clear hz0 hdr
        refine sho.lt 0 [19, 20, 21, 22, 23, 24] ?_
        refine sho.lt 1 [22, 23, 24] ?_
        refine sho.lt 2 [3, 4, 5, 8, 18, 19, 20, 21, 22, 23, 24] ?_
        refine sho.lt 3 [4, 5, 8, 18, 19, 20, 21, 22, 23, 24] ?_
        refine sho.lt 4 [5, 8, 18, 19, 20, 21, 22, 23, 24] ?_
        refine sho.lt 6 [7, 8, 18, 19, 20, 21, 22, 23, 24] ?_
        refine sho.lt 9 [10, 11, 12, 18, 19, 20, 21, 22, 23, 24] ?_
        refine sho.lt 10 [11, 12, 18, 19, 20, 21, 22, 23, 24] ?_
        refine sho.lt 11 [12, 18, 19, 20, 21, 22, 23, 24] ?_
        refine sho.lt 12 [18, 19, 20, 21, 22, 23, 24] ?_
        refine sho.lt 13 [14, 15, 16, 17, 18, 19, 20, 21, 22, 23, 24] ?_
        refine sho.lt 14 [15, 16, 17, 18, 19, 20, 21, 22, 23, 24] ?_
        refine sho.lt 15 [16, 17, 18, 19, 20, 21, 22, 23, 24] ?_
        refine sho.lt 16 [17, 18, 19, 20, 21, 22, 23, 24] ?_
        refine late.ready (rs := [5, 7, 17]) (by kernel_rfl) (by simp) ?_
        refine late.Each.cons rfl (fun K hK => ?_) (late.Each.cons rfl (fun K hK => ?_) (late.Each.cons rfl (fun K hK => ?_) late.Each.nil))
        · have hc5 := HC0.out _ (hot.out.mono (fun _ _ e => .inl e))
          try simp only [List.getElem_toArray, List.getElem_cons_zero, List.getElem_cons_succ]
          go_simp
          refine hK.out _ _ (fun _ => HS12.out _ (hot.out.mono (fun _ _ e => .inl e))) (fun hHeld1 => ?_)
          replace hHeld1 := hHeld1 rfl
          clear hK K
          clear hc5
          try simp only [List.getElem_toArray, List.getElem_cons_zero, List.getElem_cons_succ, Act.put, List.setIfInBounds_toArray, List.set_cons_zero, List.set_cons_succ]
          refine late.ready (rs := [7, 17]) (by kernel_rfl) (by simp) ?_
          refine late.Each.cons rfl (fun K hK => ?_) (late.Each.cons rfl (fun K hK => ?_) late.Each.nil)
          · try simp only [List.getElem_toArray, List.getElem_cons_zero, List.getElem_cons_succ]
            go_simp
            obtain ⟨x2, hx2⟩ : ∃ x, x = z0 := ⟨_, rfl⟩
            rw [← hx2] at hot ⊢
            rw [← hx2] at HOE
            obtain ⟨W2, hW2⟩ : ∃ x, x = x2.alloc (.cells #[.int .i64 kind, .slice (some ⟨b, off, none⟩) n c] 75) := ⟨_, rfl⟩
            obtain ⟨gE, hgE⟩ : ∃ x, x = x2.heap.size := ⟨_, rfl⟩
            rw [← hW2, ← hgE]
            have hal : Only (fun _ => False) x2 W2 := by rw [hW2]; exact (Only.refl _ _).alloc _
            have HgE : Hid (wr.heap.size ≤ gE) := Lib.hid (by rw [hgE]; exact hot.out.size)
            have hsz2 : W2.heap.size = gE + 1 := by rw [hW2, hgE]; exact size_alloc _ _
            have HSZgE : Hid (W2.heap.size = gE + 1) := Lib.hid hsz2
            have HNE : Hid (∀ j u, (encE ⟨kind, some ⟨b, off, none⟩, n, c, op, ls⟩)[j]? = some u → W2.cell? ⟨gE, j, none⟩ = some u) := Lib.hid (fun j u hu => by rw [hW2]; exact alloc_new _ _ _ _ _ _ hgE (by rw [← hu]; simp [encE]))
            replace HOE := Lib.hid (owns_only hal HOE.out (fun _ _ f => f) : OwnE _ _ D)
            replace hot := Lib.hid (hot.out.trans (hal.mono (fun _ _ f => f.elim)))
            clear hW2 hgE hal hx2 hsz2
            refine hK.out _ _ (fun _ => HS12.out _ (hot.out.mono (fun _ _ e => .inl e))) (fun hHeld2 => ?_)
            replace hHeld2 := hHeld2 rfl
            clear hK K
            try simp only [List.getElem_toArray, List.getElem_cons_zero, List.getElem_cons_succ, Act.put, List.setIfInBounds_toArray, List.set_cons_zero, List.set_cons_succ]
            refine late.ready (rs := [8, 17]) (by kernel_rfl) (by simp) ?_
            refine late.Each.cons rfl (fun K hK => ?_) (late.Each.cons rfl (fun K hK => ?_) late.Each.nil)
            · refine step_entry (a := { tmps := _, defers := _ }) rfl _ _ rfl _ D rfl HOE.out gE 1 ⟨kind, some ⟨b, off, none⟩, n, c, op, ls⟩ rfl HNE.out (by omega) ?_
              rintro v3 W3 hown hgrow hkk
              obtain ⟨gq, bc, hvf, -, -, hbc, -⟩ := owns_form hown (by simp)
              have hl1 : (D ++ [(⟨kind, some ⟨b, off, none⟩, n, c, op, ls⟩ : Es)]).length = D.length + 1 := by simp
              rw [hl1] at hvf hbc
              subst hvf
              have hgo := Only.of_grown hgrow
              have HOE2 : Hid (OwnE W3 (.slice (some ⟨gq, 0, none⟩) (D.length + 1) bc) (D ++ [⟨kind, some ⟨b, off, none⟩, n, c, op, ls⟩])) := Lib.hid hown
              have HKE : Hid (∀ k, (.slice (some ⟨gq, 0, none⟩) (D.length + 1) bc : Value).ownBlock = some k → (.slice aL D.length cL : Value).ownBlock = some k ∨ wr.heap.size ≤ k) := Lib.hid (fun k e => (hkk k e).imp (fun x => x) (fun e2 => Nat.le_trans hot.out.size e2))
              replace hot := Lib.hid (hot.out.trans (hgo.mono (fun k _ e => e)))
              clear hown hgrow hkk hgo HNE HOE
              refine hK.out _ _ (fun _ => HS12.out _ (hot.out.mono (fun _ _ e => .inl e))) (fun hHeld3 => ?_)
              replace hHeld3 := hHeld3 rfl
              clear hK K
              try simp only [List.getElem_toArray, List.getElem_cons_zero, List.getElem_cons_succ, Act.put, List.setIfInBounds_toArray, List.set_cons_zero, List.set_cons_succ]
              refine late.ready (rs := [17]) (by kernel_rfl) (by simp) ?_
              refine late.Each.cons rfl (fun K hK => ?_) late.Each.nil
              try simp only [List.getElem_toArray, List.getElem_cons_zero, List.getElem_cons_succ]
              go_simp
              obtain ⟨x4, hx4⟩ : ∃ x, x = W3 := ⟨_, rfl⟩
              rw [← hx4] at hot ⊢
              rw [← hx4] at HOE2
              obtain ⟨W4, hW4⟩ : ∃ x, x = x4.alloc (.cells #[.int .i64 (op : Int)] 3) := ⟨_, rfl⟩
              obtain ⟨gI, hgI⟩ : ∃ x, x = x4.heap.size := ⟨_, rfl⟩
              rw [← hW4, ← hgI]
              have hal : Only (fun _ => False) x4 W4 := by rw [hW4]; exact (Only.refl _ _).alloc _
              have HgI : Hid (wr.heap.size ≤ gI) := Lib.hid (by rw [hgI]; exact hot.out.size)
              have hsz4 : W4.heap.size = gI + 1 := by rw [hW4, hgI]; exact size_alloc _ _
              have HSZgI : Hid (W4.heap.size = gI + 1) := Lib.hid hsz4
              have HNI : Hid (W4.cell? ⟨gI, 0, none⟩ = some (.int .i64 (op : Int))) := Lib.hid (by rw [hW4]; exact alloc_new _ _ _ _ _ _ hgI rfl)
              replace HOE2 : Hid (OwnE W4 (.slice (some ⟨gq, 0, none⟩) (D.length + 1) bc) (D ++ [⟨kind, some ⟨b, off, none⟩, n, c, op, ls⟩])) := Lib.hid (owns_only hal HOE2.out (fun _ _ f => f))
              replace hot := Lib.hid (hot.out.trans (hal.mono (fun _ _ f => f.elim)))
              clear hW4 hgI hal hx4 hsz4
              refine hK.out _ _ (fun _ => HS12.out _ (hot.out.mono (fun _ _ e => .inl e))) (fun hHeld4 => ?_)
              replace hHeld4 := hHeld4 rfl
              clear hK K
              try simp only [List.getElem_toArray, List.getElem_cons_zero, List.getElem_cons_succ, Act.put, List.setIfInBounds_toArray, List.set_cons_zero, List.set_cons_succ]
              refine late.ready (rs := [18]) (by kernel_rfl) (by simp) ?_
              refine late.Each.cons rfl (fun K hK => ?_) late.Each.nil
              obtain ⟨x18, hx18⟩ : ∃ x, x = W4 := ⟨_, rfl⟩
              rw [← hx18] at hot HOE2 HNI ⊢
              clear hx18
              refine step_when (a := { tmps := _, defers := _ }) rfl _ _ rfl _ (whens D) rfl (owns_only hot.out (HDJ.out wr (Only.refl _ _)).oW (fun k e f => ((HDJ.out wr (Only.refl _ _)).sW k e).2.2 f)) gI 1 (op : Int) rfl HNI.out (by rw [HWL.out]; omega) ?_
              rintro v5 W5 hown hgrow hkk
              obtain ⟨gw, bw, hvf, -, -, hbw, -⟩ := owns_form hown (by simp)
              have hl2 : (whens D ++ [(op : Int)]).length = D.length + 1 := by simp [whens]
              rw [hl2] at hvf hbw
              subst hvf
              have hgo := Only.of_grown hgrow
              have HOW2 : Hid (OwnN W5 (.slice (some ⟨gw, 0, none⟩) (D.length + 1) bw) (whens D ++ [(op : Int)])) := Lib.hid hown
              have HKW : Hid (∀ k, (.slice (some ⟨gw, 0, none⟩) (D.length + 1) bw : Value).ownBlock = some k → (.slice aW D.length cW : Value).ownBlock = some k ∨ x18.heap.size ≤ k) := Lib.hid hkk
              have HOE3 : Hid (OwnE W5 (.slice (some ⟨gq, 0, none⟩) (D.length + 1) bc) (D ++ [⟨kind, some ⟨b, off, none⟩, n, c, op, ls⟩])) := Lib.hid (owns_only hgo HOE2.out (fun k e f => by
                rcases HKE.out k e with h | h
                · exact ((HDJ.out wr (Only.refl _ _)).sW k f).2.2 h
                · have := own_lt (HDJ.out wr (Only.refl _ _)).oW f
                  omega))
              have HLX : Hid (∀ k, (.slice (some ⟨gq, 0, none⟩) (D.length + 1) bc : Value).ownBlock = some k → k < x18.heap.size) := Lib.hid (fun k e => own_lt HOE2.out e)
              have HWX : Hid (wr.heap.size ≤ x18.heap.size) := Lib.hid hot.out.size
              have hot2 : Hid (Only (fun q => (.slice aL D.length cL : Value).ownBlock = some q ∨ (.slice aW D.length cW : Value).ownBlock = some q) wr W5) := Lib.hid ((hot.out.mono (fun _ _ e => .inl e)).trans (hgo.mono (fun k _ e => .inr e)))
              have d0 := HC0.out _ hot2.out
              obtain ⟨d1, d2, b0, b1⟩ := HS12.out _ hot2.out
              have f0 := HFZ.out 0 (by omega) _ hot2.out
              rw [Nat.add_zero] at f0
              have f1 := HFZ.out 1 (by omega) _ hot2.out
              rw [show 165 + 1 = 166 by omega] at f1
              have HBK2 := Lib.hid ((HDJ.out wr (Only.refl _ _)).bk.only hot2.out (fun e => e.elim (fun e => ((HDJ.out wr (Only.refl _ _)).sL p e).2 rfl) (fun e => ((HDJ.out wr (Only.refl _ _)).sW p e).2.1 rfl)))
              have hl1z : IntKind.i64.wrap (((D.length + 1 : Nat) : Int) - 1) = (D.length : Int) := by rw [IntKind.wrap_i64]; omega
              clear hown hgrow hkk hgo HNI HOE2 hot
              refine hK.out _ _ (fun _ => HS12.out _ hot2.out) (fun hHeld5 => ?_)
              replace hHeld5 := hHeld5 rfl
              clear hK K
              try simp only [List.getElem_toArray, List.getElem_cons_zero, List.getElem_cons_succ, Act.put, List.setIfInBounds_toArray, List.set_cons_zero, List.set_cons_succ]
              refine sho.lt 19 [20, 21, 22, 23, 24] ?_
              refine sho.lt 20 [21, 22, 23, 24] ?_
              refine late.ready (rs := [21]) (by kernel_rfl) (by simp) ?_
              refine late.Each.cons rfl (fun K hK => ?_) late.Each.nil
              try simp only [List.getElem_toArray, List.getElem_cons_zero, List.getElem_cons_succ]
              go_simp
              obtain ⟨w21, hw21⟩ : ∃ x, x = W5.setCell ⟨p, 165, none⟩ (.slice (some ⟨gq, 0, none⟩) (D.length + 1) bc) := ⟨_, rfl⟩
              have e0 : w21.cell? ⟨p, 165, none⟩ = some (.slice (some ⟨gq, 0, none⟩) (D.length + 1) bc) := by rw [hw21]; exact cell_same d0
              have e1 : w21.cell? ⟨p, 166, none⟩ = some (.slice aW D.length cW) := by rw [hw21, cell_other (fun e => by injection e with _ e _; omega)]; exact d1
              have e2 : w21.cell? ⟨p, 167, none⟩ = some (.int .i64 (op : Int)) := by rw [hw21, cell_other (fun e => by injection e with _ e _; omega)]; exact d2
              have k0 : w21.frozen? ⟨p, 165, none⟩ = false := by rw [hw21]; exact frozen_set.trans f0
              have k1 : w21.frozen? ⟨p, 166, none⟩ = false := by rw [hw21]; exact frozen_set.trans f1
              have HBK3 : Hid (fnd.BkAt w21 p AB) := Lib.hid (by rw [hw21]; exact bk_far HBK2.out (by omega) _)
              have k2 : w21.frozen? ⟨p, 167, none⟩ = false := by rw [hw21]; exact frozen_set.trans (HFZ.out 2 (by omega) _ hot2.out)
              have HO21 : Hid (Only (fun q => q = p) W5 w21) := Lib.hid (by rw [hw21]; exact Only.set _ _ p 165 _ rfl)
              clear d0 d1 d2 f0 f1
              have b2 := HO21.out.cell' b0 HQP.out
              have b3 := HO21.out.cell' b1 HQP.out
              clear b0 b1
              rw [← hw21]
              clear hw21
              refine hK.out _ _ (fun _ => ⟨e1, e2, b2, b3⟩) (fun hHeld6 => ?_)
              replace hHeld6 := hHeld6 rfl
              clear hK K
              clear b2 b3
              try simp only [List.getElem_toArray, List.getElem_cons_zero, List.getElem_cons_succ, Act.put, List.setIfInBounds_toArray, List.set_cons_zero, List.set_cons_succ]
              refine sho.lt 22 [23, 24] ?_
              refine sho.lt 23 [24] ?_
              refine late.ready (rs := [24]) (by kernel_rfl) (by simp) ?_
              refine late.Each.cons rfl (fun K hK => ?_) late.Each.nil
              try simp only [List.getElem_toArray, List.getElem_cons_zero, List.getElem_cons_succ]
              go_simp
              refine hK.out _ _ (fun h => by cases h) (fun _ => ?_)
              clear hK K
              try simp only [List.getElem_toArray, List.getElem_cons_zero, List.getElem_cons_succ, Act.put, List.setIfInBounds_toArray, List.set_cons_zero, List.set_cons_succ]
              refine late.done (by kernel_rfl) ?_ _
              refine NoPanic.normal ?_
              obtain ⟨w24, hw24⟩ : ∃ x, x = w21.setCell ⟨p, 166, none⟩ (.slice (some ⟨gw, 0, none⟩) (D.length + 1) bw) := ⟨_, rfl⟩
              have m0 : w24.cell? ⟨p, 165, none⟩ = some (.slice (some ⟨gq, 0, none⟩) (D.length + 1) bc : Value) := by rw [hw24, cell_other (fun e => by injection e with _ e _; omega)]; exact e0
              have HM : Hid (w24.cell? ⟨p, 165, none⟩ = some (.slice (some ⟨gq, 0, none⟩) (D.length + 1) bc : Value) ∧ w24.cell? ⟨p, 166, none⟩ = some (.slice (some ⟨gw, 0, none⟩) (D.length + 1) bw : Value) ∧ w24.cell? ⟨p, 167, none⟩ = some (.int .i64 (op : Int)) ∧ w24.frozen? ⟨p, 165, none⟩ = false ∧ w24.frozen? ⟨p, 166, none⟩ = false ∧ w24.frozen? ⟨p, 167, none⟩ = false) := Lib.hid ⟨m0, by rw [hw24]; exact cell_same e1, by rw [hw24, cell_other (fun e => by injection e with _ e _; omega)]; exact e2, by rw [hw24]; exact frozen_set.trans k0, by rw [hw24]; exact frozen_set.trans k1, by rw [hw24]; exact frozen_set.trans k2⟩
              have HBK4 : Hid (fnd.BkAt w24 p AB) := Lib.hid (by rw [hw24]; exact bk_far HBK3.out (by omega) _)
              have HOP : Hid (Only (fun q => q = p) _ w24) := Lib.hid (HO21.out.trans (by rw [hw24]; exact Only.set _ _ p 166 _ rfl))
              have HALL : Hid (Only (fun q => q = p ∨ (.slice aL D.length cL : Value).ownBlock = some q ∨ (.slice aW D.length cW : Value).ownBlock = some q) w w24) := Lib.hid (((HO2.out.trans HX.out).mono (fun _ _ f => f.elim)).trans ((hot2.out.mono (fun _ _ e => .inr e)).trans (HOP.out.mono (fun _ _ e => .inl e))))
              have HDX := Lib.hid (HDJ.out wr (Only.refl _ _))
              have HWW : Hid (w.heap.size ≤ wr.heap.size) := Lib.hid (HO2.out.trans HX.out).size
              have HPLT : Hid (p < wr.heap.size) := Lib.hid HDX.out.lt
              have HEND : Hid (DkAt AB (fun q => S q ∨ w.heap.size ≤ q) w24 p (.slice (some ⟨gq, 0, none⟩) (D.length + 1) bc : Value) (.slice (some ⟨gw, 0, none⟩) (D.length + 1) bw : Value) op (D ++ [⟨kind, some ⟨b, off, none⟩, n, c, op, ls⟩])) := Lib.hid ⟨HM.out.1, HM.out.2.1, HM.out.2.2.1, HM.out.2.2.2.1, HM.out.2.2.2.2.1, HM.out.2.2.2.2.2, HDX.out.le,
                owns_only HOP.out HOE3.out (fun k e f => by
                  have f : k = p := f
                  rcases HKE.out k e with h | h
                  · exact (HDX.out.sL k h).2 f
                  · have := HPLT.out; omega),
                by
                  have h := owns_only HOP.out HOW2.out (fun k e f => by
                    have f : k = p := f
                    rcases HKW.out k e with h | h
                    · exact (HDX.out.sW k h).2.1 f
                    · have := HPLT.out; have := HWX.out; omega)
                  have e : whens (D ++ [⟨kind, some ⟨b, off, none⟩, n, c, op, ls⟩]) = whens D ++ [(op : Int)] := by simp [whens]
                  rw [e]
                  exact h,
                .inl HDX.out.sp,
                (fun k e => by
                  rcases HKE.out k e with h | h
                  · exact ⟨.inl (HDX.out.sL k h).1, (HDX.out.sL k h).2⟩
                  · exact ⟨.inr (by have := HWW.out; omega), by have := HPLT.out; omega⟩),
                (fun k e => by
                  rcases HKW.out k e with h | h
                  · refine ⟨.inl (HDX.out.sW k h).1, (HDX.out.sW k h).2.1, fun f => ?_⟩
                    rcases HKE.out k f with h2 | h2
                    · exact (HDX.out.sW k h).2.2 h2
                    · have := own_lt HDX.out.oW h; omega
                  · exact ⟨.inr (by have := HWW.out; have := HWX.out; omega), by have := HPLT.out; have := HWX.out; omega, fun f => by have := HLX.out k f; omega⟩),
                (fun x hx => by
                  rcases List.mem_append.1 hx with hx | hx
                  · obtain ⟨h1, h2, h3, h4⟩ := HDX.out.ls x hx
                    refine ⟨readsL_keep (readsL_keep h1 hot2.out (fun y e h0 f => f.elim (h4 y e).2.2.1 (h4 y e).2.2.2)) HOP.out (fun y e h0 f => (h4 y e).2.1 f), h2, h3, fun y e => ⟨.inl (h4 y e).1, (h4 y e).2.1, fun f => ?_, fun f => ?_⟩⟩
                    · rcases HKE.out _ f with h | h
                      · exact (h4 y e).2.2.1 h
                      · have h5 := readsL_block h1 e (by have := ((chk_ok _ _).1 h2).2.1; have := h1.1; omega)
                        omega
                    · rcases HKW.out _ f with h | h
                      · exact (h4 y e).2.2.2 h
                      · have h5 := readsL_block h1 e (by have := ((chk_ok _ _).1 h2).2.1; have := h1.1; omega)
                        have := HWX.out
                        omega
                  · rw [List.mem_singleton] at hx
                    subst hx
                    obtain ⟨a1, a2, a3, a4⟩ := HAY.out
                    have hb : b < wr.heap.size := by have := HBL.out; have := HWW.out; omega
                    refine ⟨readsL_keep (readsL_keep (HRL.out wr HX.out) hot2.out (fun y e h0 f => by cases e; exact f.elim a3 a4)) HOP.out (fun y e h0 f => by cases e; exact a2 f), HCZ.out, Nat.le_refl _, fun y e => ?_⟩
                    cases e
                    refine ⟨.inl a1, a2, fun f => ?_, fun f => ?_⟩
                    · rcases HKE.out _ f with h | h
                      · exact a3 h
                      · have h : wr.heap.size ≤ b := h; omega
                    · rcases HKW.out _ f with h | h
                      · exact a4 h
                      · have h : _ ≤ b := h; have := HWX.out; omega),
                by simp; omega, HBK4.out⟩
              rw [← hw24]
              clear hw24 hHeld e0 e1 e2 k0 k1 k2
              go_wp2_with fail
              go_ret2
              exact .inr ⟨HER0.out, HCZ.out, rfl, ⟨_, _, HEND.out⟩, HALL.out⟩

            · try simp only [List.getElem_toArray, List.getElem_cons_zero, List.getElem_cons_succ]
              go_simp
              obtain ⟨x8, hx8⟩ : ∃ x, x = W2 := ⟨_, rfl⟩
              rw [← hx8] at hot ⊢
              rw [← hx8] at HOE
              rw [← hx8] at HNE
              obtain ⟨W8, hW8⟩ : ∃ x, x = x8.alloc (.cells #[.int .i64 (op : Int)] 3) := ⟨_, rfl⟩
              obtain ⟨gI, hgI⟩ : ∃ x, x = x8.heap.size := ⟨_, rfl⟩
              rw [← hW8, ← hgI]
              have hal : Only (fun _ => False) x8 W8 := by rw [hW8]; exact (Only.refl _ _).alloc _
              have HgI : Hid (wr.heap.size ≤ gI) := Lib.hid (by rw [hgI]; exact hot.out.size)
              have hsz8 : W8.heap.size = gI + 1 := by rw [hW8, hgI]; exact size_alloc _ _
              have HSZgI : Hid (W8.heap.size = gI + 1) := Lib.hid hsz8
              have HNI : Hid (W8.cell? ⟨gI, 0, none⟩ = some (.int .i64 (op : Int))) := Lib.hid (by rw [hW8]; exact alloc_new _ _ _ _ _ _ hgI rfl)
              replace HOE := Lib.hid (owns_only hal HOE.out (fun _ _ f => f) : OwnE _ _ D)
              replace HNE := Lib.hid (fun j u hu => hal.cell' (HNE.out j u hu) (fun f => f))
              replace hot := Lib.hid (hot.out.trans (hal.mono (fun _ _ f => f.elim)))
              clear hW8 hgI hal hx8 hsz8
              refine hK.out _ _ (fun _ => HS12.out _ (hot.out.mono (fun _ _ e => .inl e))) (fun hHeld8 => ?_)
              replace hHeld8 := hHeld8 rfl
              clear hK K
              try simp only [List.getElem_toArray, List.getElem_cons_zero, List.getElem_cons_succ, Act.put, List.setIfInBounds_toArray, List.set_cons_zero, List.set_cons_succ]
              refine late.ready (rs := [8]) (by kernel_rfl) (by simp) ?_
              refine late.Each.cons rfl (fun K hK => ?_) late.Each.nil
              refine step_entry (a := { tmps := _, defers := _ }) rfl _ _ rfl _ D rfl HOE.out gE 1 ⟨kind, some ⟨b, off, none⟩, n, c, op, ls⟩ rfl HNE.out (by omega) ?_
              rintro v9 W9 hown hgrow hkk
              obtain ⟨gq, bc, hvf, -, -, hbc, -⟩ := owns_form hown (by simp)
              have hl1 : (D ++ [(⟨kind, some ⟨b, off, none⟩, n, c, op, ls⟩ : Es)]).length = D.length + 1 := by simp
              rw [hl1] at hvf hbc
              subst hvf
              have hgo := Only.of_grown hgrow
              have HOE2 : Hid (OwnE W9 (.slice (some ⟨gq, 0, none⟩) (D.length + 1) bc) (D ++ [⟨kind, some ⟨b, off, none⟩, n, c, op, ls⟩])) := Lib.hid hown
              have HKE : Hid (∀ k, (.slice (some ⟨gq, 0, none⟩) (D.length + 1) bc : Value).ownBlock = some k → (.slice aL D.length cL : Value).ownBlock = some k ∨ wr.heap.size ≤ k) := Lib.hid (fun k e => (hkk k e).imp (fun x => x) (fun e2 => Nat.le_trans hot.out.size e2))
              replace HNI := Lib.hid (hgo.cell' HNI.out (fun e => by have h1 := own_lt (HDJ.out wr (Only.refl _ _)).oL e; have h2 := HgI.out; have h1 : gI < wr.heap.size := h1; omega))
              replace hot := Lib.hid (hot.out.trans (hgo.mono (fun k _ e => e)))
              clear hown hgrow hkk hgo HNE HOE
              refine hK.out _ _ (fun _ => HS12.out _ (hot.out.mono (fun _ _ e => .inl e))) (fun hHeld9 => ?_)
              replace hHeld9 := hHeld9 rfl
              clear hK K
              try simp only [List.getElem_toArray, List.getElem_cons_zero, List.getElem_cons_succ, Act.put, List.setIfInBounds_toArray, List.set_cons_zero, List.set_cons_succ]
              refine late.ready (rs := [18]) (by kernel_rfl) (by simp) ?_
              refine late.Each.cons rfl (fun K hK => ?_) late.Each.nil
              obtain ⟨x18, hx18⟩ : ∃ x, x = W9 := ⟨_, rfl⟩
              rw [← hx18] at hot HOE2 HNI ⊢
              clear hx18
              refine step_when (a := { tmps := _, defers := _ }) rfl _ _ rfl _ (whens D) rfl (owns_only hot.out (HDJ.out wr (Only.refl _ _)).oW (fun k e f => ((HDJ.out wr (Only.refl _ _)).sW k e).2.2 f)) gI 1 (op : Int) rfl HNI.out (by rw [HWL.out]; omega) ?_
              rintro v10 W10 hown hgrow hkk
              obtain ⟨gw, bw, hvf, -, -, hbw, -⟩ := owns_form hown (by simp)
              have hl2 : (whens D ++ [(op : Int)]).length = D.length + 1 := by simp [whens]
              rw [hl2] at hvf hbw
              subst hvf
              have hgo := Only.of_grown hgrow
              have HOW2 : Hid (OwnN W10 (.slice (some ⟨gw, 0, none⟩) (D.length + 1) bw) (whens D ++ [(op : Int)])) := Lib.hid hown
              have HKW : Hid (∀ k, (.slice (some ⟨gw, 0, none⟩) (D.length + 1) bw : Value).ownBlock = some k → (.slice aW D.length cW : Value).ownBlock = some k ∨ x18.heap.size ≤ k) := Lib.hid hkk
              have HOE3 : Hid (OwnE W10 (.slice (some ⟨gq, 0, none⟩) (D.length + 1) bc) (D ++ [⟨kind, some ⟨b, off, none⟩, n, c, op, ls⟩])) := Lib.hid (owns_only hgo HOE2.out (fun k e f => by
                rcases HKE.out k e with h | h
                · exact ((HDJ.out wr (Only.refl _ _)).sW k f).2.2 h
                · have := own_lt (HDJ.out wr (Only.refl _ _)).oW f
                  omega))
              have HLX : Hid (∀ k, (.slice (some ⟨gq, 0, none⟩) (D.length + 1) bc : Value).ownBlock = some k → k < x18.heap.size) := Lib.hid (fun k e => own_lt HOE2.out e)
              have HWX : Hid (wr.heap.size ≤ x18.heap.size) := Lib.hid hot.out.size
              have hot2 : Hid (Only (fun q => (.slice aL D.length cL : Value).ownBlock = some q ∨ (.slice aW D.length cW : Value).ownBlock = some q) wr W10) := Lib.hid ((hot.out.mono (fun _ _ e => .inl e)).trans (hgo.mono (fun k _ e => .inr e)))
              have d0 := HC0.out _ hot2.out
              obtain ⟨d1, d2, b0, b1⟩ := HS12.out _ hot2.out
              have f0 := HFZ.out 0 (by omega) _ hot2.out
              rw [Nat.add_zero] at f0
              have f1 := HFZ.out 1 (by omega) _ hot2.out
              rw [show 165 + 1 = 166 by omega] at f1
              have HBK2 := Lib.hid ((HDJ.out wr (Only.refl _ _)).bk.only hot2.out (fun e => e.elim (fun e => ((HDJ.out wr (Only.refl _ _)).sL p e).2 rfl) (fun e => ((HDJ.out wr (Only.refl _ _)).sW p e).2.1 rfl)))
              have hl1z : IntKind.i64.wrap (((D.length + 1 : Nat) : Int) - 1) = (D.length : Int) := by rw [IntKind.wrap_i64]; omega
              clear hown hgrow hkk hgo HNI HOE2 hot
              refine hK.out _ _ (fun _ => HS12.out _ hot2.out) (fun hHeld10 => ?_)
              replace hHeld10 := hHeld10 rfl
              clear hK K
              try simp only [List.getElem_toArray, List.getElem_cons_zero, List.getElem_cons_succ, Act.put, List.setIfInBounds_toArray, List.set_cons_zero, List.set_cons_succ]
              refine sho.lt 19 [20, 21, 22, 23, 24] ?_
              refine sho.lt 20 [21, 22, 23, 24] ?_
              refine late.ready (rs := [21]) (by kernel_rfl) (by simp) ?_
              refine late.Each.cons rfl (fun K hK => ?_) late.Each.nil
              try simp only [List.getElem_toArray, List.getElem_cons_zero, List.getElem_cons_succ]
              go_simp
              obtain ⟨w21, hw21⟩ : ∃ x, x = W10.setCell ⟨p, 165, none⟩ (.slice (some ⟨gq, 0, none⟩) (D.length + 1) bc) := ⟨_, rfl⟩
              have e0 : w21.cell? ⟨p, 165, none⟩ = some (.slice (some ⟨gq, 0, none⟩) (D.length + 1) bc) := by rw [hw21]; exact cell_same d0
              have e1 : w21.cell? ⟨p, 166, none⟩ = some (.slice aW D.length cW) := by rw [hw21, cell_other (fun e => by injection e with _ e _; omega)]; exact d1
              have e2 : w21.cell? ⟨p, 167, none⟩ = some (.int .i64 (op : Int)) := by rw [hw21, cell_other (fun e => by injection e with _ e _; omega)]; exact d2
              have k0 : w21.frozen? ⟨p, 165, none⟩ = false := by rw [hw21]; exact frozen_set.trans f0
              have k1 : w21.frozen? ⟨p, 166, none⟩ = false := by rw [hw21]; exact frozen_set.trans f1
              have HBK3 : Hid (fnd.BkAt w21 p AB) := Lib.hid (by rw [hw21]; exact bk_far HBK2.out (by omega) _)
              have k2 : w21.frozen? ⟨p, 167, none⟩ = false := by rw [hw21]; exact frozen_set.trans (HFZ.out 2 (by omega) _ hot2.out)
              have HO21 : Hid (Only (fun q => q = p) W10 w21) := Lib.hid (by rw [hw21]; exact Only.set _ _ p 165 _ rfl)
              clear d0 d1 d2 f0 f1
              have b2 := HO21.out.cell' b0 HQP.out
              have b3 := HO21.out.cell' b1 HQP.out
              clear b0 b1
              rw [← hw21]
              clear hw21
              refine hK.out _ _ (fun _ => ⟨e1, e2, b2, b3⟩) (fun hHeld11 => ?_)
              replace hHeld11 := hHeld11 rfl
              clear hK K
              clear b2 b3
              try simp only [List.getElem_toArray, List.getElem_cons_zero, List.getElem_cons_succ, Act.put, List.setIfInBounds_toArray, List.set_cons_zero, List.set_cons_succ]
              refine sho.lt 22 [23, 24] ?_
              refine sho.lt 23 [24] ?_
              refine late.ready (rs := [24]) (by kernel_rfl) (by simp) ?_
              refine late.Each.cons rfl (fun K hK => ?_) late.Each.nil
              try simp only [List.getElem_toArray, List.getElem_cons_zero, List.getElem_cons_succ]
              go_simp
              refine hK.out _ _ (fun h => by cases h) (fun _ => ?_)
              clear hK K
              try simp only [List.getElem_toArray, List.getElem_cons_zero, List.getElem_cons_succ, Act.put, List.setIfInBounds_toArray, List.set_cons_zero, List.set_cons_succ]
              refine late.done (by kernel_rfl) ?_ _
              refine NoPanic.normal ?_
              obtain ⟨w24, hw24⟩ : ∃ x, x = w21.setCell ⟨p, 166, none⟩ (.slice (some ⟨gw, 0, none⟩) (D.length + 1) bw) := ⟨_, rfl⟩
              have m0 : w24.cell? ⟨p, 165, none⟩ = some (.slice (some ⟨gq, 0, none⟩) (D.length + 1) bc : Value) := by rw [hw24, cell_other (fun e => by injection e with _ e _; omega)]; exact e0
              have HM : Hid (w24.cell? ⟨p, 165, none⟩ = some (.slice (some ⟨gq, 0, none⟩) (D.length + 1) bc : Value) ∧ w24.cell? ⟨p, 166, none⟩ = some (.slice (some ⟨gw, 0, none⟩) (D.length + 1) bw : Value) ∧ w24.cell? ⟨p, 167, none⟩ = some (.int .i64 (op : Int)) ∧ w24.frozen? ⟨p, 165, none⟩ = false ∧ w24.frozen? ⟨p, 166, none⟩ = false ∧ w24.frozen? ⟨p, 167, none⟩ = false) := Lib.hid ⟨m0, by rw [hw24]; exact cell_same e1, by rw [hw24, cell_other (fun e => by injection e with _ e _; omega)]; exact e2, by rw [hw24]; exact frozen_set.trans k0, by rw [hw24]; exact frozen_set.trans k1, by rw [hw24]; exact frozen_set.trans k2⟩
              have HBK4 : Hid (fnd.BkAt w24 p AB) := Lib.hid (by rw [hw24]; exact bk_far HBK3.out (by omega) _)
              have HOP : Hid (Only (fun q => q = p) _ w24) := Lib.hid (HO21.out.trans (by rw [hw24]; exact Only.set _ _ p 166 _ rfl))
              have HALL : Hid (Only (fun q => q = p ∨ (.slice aL D.length cL : Value).ownBlock = some q ∨ (.slice aW D.length cW : Value).ownBlock = some q) w w24) := Lib.hid (((HO2.out.trans HX.out).mono (fun _ _ f => f.elim)).trans ((hot2.out.mono (fun _ _ e => .inr e)).trans (HOP.out.mono (fun _ _ e => .inl e))))
              have HDX := Lib.hid (HDJ.out wr (Only.refl _ _))
              have HWW : Hid (w.heap.size ≤ wr.heap.size) := Lib.hid (HO2.out.trans HX.out).size
              have HPLT : Hid (p < wr.heap.size) := Lib.hid HDX.out.lt
              have HEND : Hid (DkAt AB (fun q => S q ∨ w.heap.size ≤ q) w24 p (.slice (some ⟨gq, 0, none⟩) (D.length + 1) bc : Value) (.slice (some ⟨gw, 0, none⟩) (D.length + 1) bw : Value) op (D ++ [⟨kind, some ⟨b, off, none⟩, n, c, op, ls⟩])) := Lib.hid ⟨HM.out.1, HM.out.2.1, HM.out.2.2.1, HM.out.2.2.2.1, HM.out.2.2.2.2.1, HM.out.2.2.2.2.2, HDX.out.le,
                owns_only HOP.out HOE3.out (fun k e f => by
                  have f : k = p := f
                  rcases HKE.out k e with h | h
                  · exact (HDX.out.sL k h).2 f
                  · have := HPLT.out; omega),
                by
                  have h := owns_only HOP.out HOW2.out (fun k e f => by
                    have f : k = p := f
                    rcases HKW.out k e with h | h
                    · exact (HDX.out.sW k h).2.1 f
                    · have := HPLT.out; have := HWX.out; omega)
                  have e : whens (D ++ [⟨kind, some ⟨b, off, none⟩, n, c, op, ls⟩]) = whens D ++ [(op : Int)] := by simp [whens]
                  rw [e]
                  exact h,
                .inl HDX.out.sp,
                (fun k e => by
                  rcases HKE.out k e with h | h
                  · exact ⟨.inl (HDX.out.sL k h).1, (HDX.out.sL k h).2⟩
                  · exact ⟨.inr (by have := HWW.out; omega), by have := HPLT.out; omega⟩),
                (fun k e => by
                  rcases HKW.out k e with h | h
                  · refine ⟨.inl (HDX.out.sW k h).1, (HDX.out.sW k h).2.1, fun f => ?_⟩
                    rcases HKE.out k f with h2 | h2
                    · exact (HDX.out.sW k h).2.2 h2
                    · have := own_lt HDX.out.oW h; omega
                  · exact ⟨.inr (by have := HWW.out; have := HWX.out; omega), by have := HPLT.out; have := HWX.out; omega, fun f => by have := HLX.out k f; omega⟩),
                (fun x hx => by
                  rcases List.mem_append.1 hx with hx | hx
                  · obtain ⟨h1, h2, h3, h4⟩ := HDX.out.ls x hx
                    refine ⟨readsL_keep (readsL_keep h1 hot2.out (fun y e h0 f => f.elim (h4 y e).2.2.1 (h4 y e).2.2.2)) HOP.out (fun y e h0 f => (h4 y e).2.1 f), h2, h3, fun y e => ⟨.inl (h4 y e).1, (h4 y e).2.1, fun f => ?_, fun f => ?_⟩⟩
                    · rcases HKE.out _ f with h | h
                      · exact (h4 y e).2.2.1 h
                      · have h5 := readsL_block h1 e (by have := ((chk_ok _ _).1 h2).2.1; have := h1.1; omega)
                        omega
                    · rcases HKW.out _ f with h | h
                      · exact (h4 y e).2.2.2 h
                      · have h5 := readsL_block h1 e (by have := ((chk_ok _ _).1 h2).2.1; have := h1.1; omega)
                        have := HWX.out
                        omega
                  · rw [List.mem_singleton] at hx
                    subst hx
                    obtain ⟨a1, a2, a3, a4⟩ := HAY.out
                    have hb : b < wr.heap.size := by have := HBL.out; have := HWW.out; omega
                    refine ⟨readsL_keep (readsL_keep (HRL.out wr HX.out) hot2.out (fun y e h0 f => by cases e; exact f.elim a3 a4)) HOP.out (fun y e h0 f => by cases e; exact a2 f), HCZ.out, Nat.le_refl _, fun y e => ?_⟩
                    cases e
                    refine ⟨.inl a1, a2, fun f => ?_, fun f => ?_⟩
                    · rcases HKE.out _ f with h | h
                      · exact a3 h
                      · have h : wr.heap.size ≤ b := h; omega
                    · rcases HKW.out _ f with h | h
                      · exact a4 h
                      · have h : _ ≤ b := h; have := HWX.out; omega),
                by simp; omega, HBK4.out⟩
              rw [← hw24]
              clear hw24 hHeld e0 e1 e2 k0 k1 k2
              go_wp2_with fail
              go_ret2
              exact .inr ⟨HER0.out, HCZ.out, rfl, ⟨_, _, HEND.out⟩, HALL.out⟩

          · try simp only [List.getElem_toArray, List.getElem_cons_zero, List.getElem_cons_succ]
            go_simp
            obtain ⟨x13, hx13⟩ : ∃ x, x = z0 := ⟨_, rfl⟩
            rw [← hx13] at hot ⊢
            rw [← hx13] at HOE
            obtain ⟨W13, hW13⟩ : ∃ x, x = x13.alloc (.cells #[.int .i64 (op : Int)] 3) := ⟨_, rfl⟩
            obtain ⟨gI, hgI⟩ : ∃ x, x = x13.heap.size := ⟨_, rfl⟩
            rw [← hW13, ← hgI]
            have hal : Only (fun _ => False) x13 W13 := by rw [hW13]; exact (Only.refl _ _).alloc _
            have HgI : Hid (wr.heap.size ≤ gI) := Lib.hid (by rw [hgI]; exact hot.out.size)
            have hsz13 : W13.heap.size = gI + 1 := by rw [hW13, hgI]; exact size_alloc _ _
            have HSZgI : Hid (W13.heap.size = gI + 1) := Lib.hid hsz13
            have HNI : Hid (W13.cell? ⟨gI, 0, none⟩ = some (.int .i64 (op : Int))) := Lib.hid (by rw [hW13]; exact alloc_new _ _ _ _ _ _ hgI rfl)
            replace HOE := Lib.hid (owns_only hal HOE.out (fun _ _ f => f) : OwnE _ _ D)
            replace hot := Lib.hid (hot.out.trans (hal.mono (fun _ _ f => f.elim)))
            clear hW13 hgI hal hx13 hsz13
            refine hK.out _ _ (fun _ => HS12.out _ (hot.out.mono (fun _ _ e => .inl e))) (fun hHeld13 => ?_)
            replace hHeld13 := hHeld13 rfl
            clear hK K
            try simp only [List.getElem_toArray, List.getElem_cons_zero, List.getElem_cons_succ, Act.put, List.setIfInBounds_toArray, List.set_cons_zero, List.set_cons_succ]
            refine late.ready (rs := [7]) (by kernel_rfl) (by simp) ?_
            refine late.Each.cons rfl (fun K hK => ?_) late.Each.nil
            try simp only [List.getElem_toArray, List.getElem_cons_zero, List.getElem_cons_succ]
            go_simp
            obtain ⟨x14, hx14⟩ : ∃ x, x = W13 := ⟨_, rfl⟩
            rw [← hx14] at hot ⊢
            rw [← hx14] at HOE
            rw [← hx14] at HNI
            obtain ⟨W14, hW14⟩ : ∃ x, x = x14.alloc (.cells #[.int .i64 kind, .slice (some ⟨b, off, none⟩) n c] 75) := ⟨_, rfl⟩
            obtain ⟨gE, hgE⟩ : ∃ x, x = x14.heap.size := ⟨_, rfl⟩
            rw [← hW14, ← hgE]
            have hal : Only (fun _ => False) x14 W14 := by rw [hW14]; exact (Only.refl _ _).alloc _
            have HgE : Hid (wr.heap.size ≤ gE) := Lib.hid (by rw [hgE]; exact hot.out.size)
            have hsz14 : W14.heap.size = gE + 1 := by rw [hW14, hgE]; exact size_alloc _ _
            have HSZgE : Hid (W14.heap.size = gE + 1) := Lib.hid hsz14
            have HNE : Hid (∀ j u, (encE ⟨kind, some ⟨b, off, none⟩, n, c, op, ls⟩)[j]? = some u → W14.cell? ⟨gE, j, none⟩ = some u) := Lib.hid (fun j u hu => by rw [hW14]; exact alloc_new _ _ _ _ _ _ hgE (by rw [← hu]; simp [encE]))
            replace HOE := Lib.hid (owns_only hal HOE.out (fun _ _ f => f) : OwnE _ _ D)
            replace HNI := Lib.hid (hal.cell' HNI.out (fun f => f))
            replace hot := Lib.hid (hot.out.trans (hal.mono (fun _ _ f => f.elim)))
            clear hW14 hgE hal hx14 hsz14
            refine hK.out _ _ (fun _ => HS12.out _ (hot.out.mono (fun _ _ e => .inl e))) (fun hHeld14 => ?_)
            replace hHeld14 := hHeld14 rfl
            clear hK K
            try simp only [List.getElem_toArray, List.getElem_cons_zero, List.getElem_cons_succ, Act.put, List.setIfInBounds_toArray, List.set_cons_zero, List.set_cons_succ]
            refine late.ready (rs := [8]) (by kernel_rfl) (by simp) ?_
            refine late.Each.cons rfl (fun K hK => ?_) late.Each.nil
            refine step_entry (a := { tmps := _, defers := _ }) rfl _ _ rfl _ D rfl HOE.out gE 1 ⟨kind, some ⟨b, off, none⟩, n, c, op, ls⟩ rfl HNE.out (by omega) ?_
            rintro v15 W15 hown hgrow hkk
            obtain ⟨gq, bc, hvf, -, -, hbc, -⟩ := owns_form hown (by simp)
            have hl1 : (D ++ [(⟨kind, some ⟨b, off, none⟩, n, c, op, ls⟩ : Es)]).length = D.length + 1 := by simp
            rw [hl1] at hvf hbc
            subst hvf
            have hgo := Only.of_grown hgrow
            have HOE2 : Hid (OwnE W15 (.slice (some ⟨gq, 0, none⟩) (D.length + 1) bc) (D ++ [⟨kind, some ⟨b, off, none⟩, n, c, op, ls⟩])) := Lib.hid hown
            have HKE : Hid (∀ k, (.slice (some ⟨gq, 0, none⟩) (D.length + 1) bc : Value).ownBlock = some k → (.slice aL D.length cL : Value).ownBlock = some k ∨ wr.heap.size ≤ k) := Lib.hid (fun k e => (hkk k e).imp (fun x => x) (fun e2 => Nat.le_trans hot.out.size e2))
            replace HNI := Lib.hid (hgo.cell' HNI.out (fun e => by have h1 := own_lt (HDJ.out wr (Only.refl _ _)).oL e; have h2 := HgI.out; have h1 : gI < wr.heap.size := h1; omega))
            replace hot := Lib.hid (hot.out.trans (hgo.mono (fun k _ e => e)))
            clear hown hgrow hkk hgo HNE HOE
            refine hK.out _ _ (fun _ => HS12.out _ (hot.out.mono (fun _ _ e => .inl e))) (fun hHeld15 => ?_)
            replace hHeld15 := hHeld15 rfl
            clear hK K
            try simp only [List.getElem_toArray, List.getElem_cons_zero, List.getElem_cons_succ, Act.put, List.setIfInBounds_toArray, List.set_cons_zero, List.set_cons_succ]
            refine late.ready (rs := [18]) (by kernel_rfl) (by simp) ?_
            refine late.Each.cons rfl (fun K hK => ?_) late.Each.nil
            obtain ⟨x18, hx18⟩ : ∃ x, x = W15 := ⟨_, rfl⟩
            rw [← hx18] at hot HOE2 HNI ⊢
            clear hx18
            refine step_when (a := { tmps := _, defers := _ }) rfl _ _ rfl _ (whens D) rfl (owns_only hot.out (HDJ.out wr (Only.refl _ _)).oW (fun k e f => ((HDJ.out wr (Only.refl _ _)).sW k e).2.2 f)) gI 1 (op : Int) rfl HNI.out (by rw [HWL.out]; omega) ?_
            rintro v16 W16 hown hgrow hkk
            obtain ⟨gw, bw, hvf, -, -, hbw, -⟩ := owns_form hown (by simp)
            have hl2 : (whens D ++ [(op : Int)]).length = D.length + 1 := by simp [whens]
            rw [hl2] at hvf hbw
            subst hvf
            have hgo := Only.of_grown hgrow
            have HOW2 : Hid (OwnN W16 (.slice (some ⟨gw, 0, none⟩) (D.length + 1) bw) (whens D ++ [(op : Int)])) := Lib.hid hown
            have HKW : Hid (∀ k, (.slice (some ⟨gw, 0, none⟩) (D.length + 1) bw : Value).ownBlock = some k → (.slice aW D.length cW : Value).ownBlock = some k ∨ x18.heap.size ≤ k) := Lib.hid hkk
            have HOE3 : Hid (OwnE W16 (.slice (some ⟨gq, 0, none⟩) (D.length + 1) bc) (D ++ [⟨kind, some ⟨b, off, none⟩, n, c, op, ls⟩])) := Lib.hid (owns_only hgo HOE2.out (fun k e f => by
              rcases HKE.out k e with h | h
              · exact ((HDJ.out wr (Only.refl _ _)).sW k f).2.2 h
              · have := own_lt (HDJ.out wr (Only.refl _ _)).oW f
                omega))
            have HLX : Hid (∀ k, (.slice (some ⟨gq, 0, none⟩) (D.length + 1) bc : Value).ownBlock = some k → k < x18.heap.size) := Lib.hid (fun k e => own_lt HOE2.out e)
            have HWX : Hid (wr.heap.size ≤ x18.heap.size) := Lib.hid hot.out.size
            have hot2 : Hid (Only (fun q => (.slice aL D.length cL : Value).ownBlock = some q ∨ (.slice aW D.length cW : Value).ownBlock = some q) wr W16) := Lib.hid ((hot.out.mono (fun _ _ e => .inl e)).trans (hgo.mono (fun k _ e => .inr e)))
            have d0 := HC0.out _ hot2.out
            obtain ⟨d1, d2, b0, b1⟩ := HS12.out _ hot2.out
            have f0 := HFZ.out 0 (by omega) _ hot2.out
            rw [Nat.add_zero] at f0
            have f1 := HFZ.out 1 (by omega) _ hot2.out
            rw [show 165 + 1 = 166 by omega] at f1
            have HBK2 := Lib.hid ((HDJ.out wr (Only.refl _ _)).bk.only hot2.out (fun e => e.elim (fun e => ((HDJ.out wr (Only.refl _ _)).sL p e).2 rfl) (fun e => ((HDJ.out wr (Only.refl _ _)).sW p e).2.1 rfl)))
            have hl1z : IntKind.i64.wrap (((D.length + 1 : Nat) : Int) - 1) = (D.length : Int) := by rw [IntKind.wrap_i64]; omega
            clear hown hgrow hkk hgo HNI HOE2 hot
            refine hK.out _ _ (fun _ => HS12.out _ hot2.out) (fun hHeld16 => ?_)
            replace hHeld16 := hHeld16 rfl
            clear hK K
            try simp only [List.getElem_toArray, List.getElem_cons_zero, List.getElem_cons_succ, Act.put, List.setIfInBounds_toArray, List.set_cons_zero, List.set_cons_succ]
            refine sho.lt 19 [20, 21, 22, 23, 24] ?_
            refine sho.lt 20 [21, 22, 23, 24] ?_
            refine late.ready (rs := [21]) (by kernel_rfl) (by simp) ?_
            refine late.Each.cons rfl (fun K hK => ?_) late.Each.nil
            try simp only [List.getElem_toArray, List.getElem_cons_zero, List.getElem_cons_succ]
            go_simp
            obtain ⟨w21, hw21⟩ : ∃ x, x = W16.setCell ⟨p, 165, none⟩ (.slice (some ⟨gq, 0, none⟩) (D.length + 1) bc) := ⟨_, rfl⟩
            have e0 : w21.cell? ⟨p, 165, none⟩ = some (.slice (some ⟨gq, 0, none⟩) (D.length + 1) bc) := by rw [hw21]; exact cell_same d0
            have e1 : w21.cell? ⟨p, 166, none⟩ = some (.slice aW D.length cW) := by rw [hw21, cell_other (fun e => by injection e with _ e _; omega)]; exact d1
            have e2 : w21.cell? ⟨p, 167, none⟩ = some (.int .i64 (op : Int)) := by rw [hw21, cell_other (fun e => by injection e with _ e _; omega)]; exact d2
            have k0 : w21.frozen? ⟨p, 165, none⟩ = false := by rw [hw21]; exact frozen_set.trans f0
            have k1 : w21.frozen? ⟨p, 166, none⟩ = false := by rw [hw21]; exact frozen_set.trans f1
            have HBK3 : Hid (fnd.BkAt w21 p AB) := Lib.hid (by rw [hw21]; exact bk_far HBK2.out (by omega) _)
            have k2 : w21.frozen? ⟨p, 167, none⟩ = false := by rw [hw21]; exact frozen_set.trans (HFZ.out 2 (by omega) _ hot2.out)
            have HO21 : Hid (Only (fun q => q = p) W16 w21) := Lib.hid (by rw [hw21]; exact Only.set _ _ p 165 _ rfl)
            clear d0 d1 d2 f0 f1
            have b2 := HO21.out.cell' b0 HQP.out
            have b3 := HO21.out.cell' b1 HQP.out
            clear b0 b1
            rw [← hw21]
            clear hw21
            refine hK.out _ _ (fun _ => ⟨e1, e2, b2, b3⟩) (fun hHeld17 => ?_)
            replace hHeld17 := hHeld17 rfl
            clear hK K
            clear b2 b3
            try simp only [List.getElem_toArray, List.getElem_cons_zero, List.getElem_cons_succ, Act.put, List.setIfInBounds_toArray, List.set_cons_zero, List.set_cons_succ]
            refine sho.lt 22 [23, 24] ?_
            refine sho.lt 23 [24] ?_
            refine late.ready (rs := [24]) (by kernel_rfl) (by simp) ?_
            refine late.Each.cons rfl (fun K hK => ?_) late.Each.nil
            try simp only [List.getElem_toArray, List.getElem_cons_zero, List.getElem_cons_succ]
            go_simp
            refine hK.out _ _ (fun h => by cases h) (fun _ => ?_)
            clear hK K
            try simp only [List.getElem_toArray, List.getElem_cons_zero, List.getElem_cons_succ, Act.put, List.setIfInBounds_toArray, List.set_cons_zero, List.set_cons_succ]
            refine late.done (by kernel_rfl) ?_ _
            refine NoPanic.normal ?_
            obtain ⟨w24, hw24⟩ : ∃ x, x = w21.setCell ⟨p, 166, none⟩ (.slice (some ⟨gw, 0, none⟩) (D.length + 1) bw) := ⟨_, rfl⟩
            have m0 : w24.cell? ⟨p, 165, none⟩ = some (.slice (some ⟨gq, 0, none⟩) (D.length + 1) bc : Value) := by rw [hw24, cell_other (fun e => by injection e with _ e _; omega)]; exact e0
            have HM : Hid (w24.cell? ⟨p, 165, none⟩ = some (.slice (some ⟨gq, 0, none⟩) (D.length + 1) bc : Value) ∧ w24.cell? ⟨p, 166, none⟩ = some (.slice (some ⟨gw, 0, none⟩) (D.length + 1) bw : Value) ∧ w24.cell? ⟨p, 167, none⟩ = some (.int .i64 (op : Int)) ∧ w24.frozen? ⟨p, 165, none⟩ = false ∧ w24.frozen? ⟨p, 166, none⟩ = false ∧ w24.frozen? ⟨p, 167, none⟩ = false) := Lib.hid ⟨m0, by rw [hw24]; exact cell_same e1, by rw [hw24, cell_other (fun e => by injection e with _ e _; omega)]; exact e2, by rw [hw24]; exact frozen_set.trans k0, by rw [hw24]; exact frozen_set.trans k1, by rw [hw24]; exact frozen_set.trans k2⟩
            have HBK4 : Hid (fnd.BkAt w24 p AB) := Lib.hid (by rw [hw24]; exact bk_far HBK3.out (by omega) _)
            have HOP : Hid (Only (fun q => q = p) _ w24) := Lib.hid (HO21.out.trans (by rw [hw24]; exact Only.set _ _ p 166 _ rfl))
            have HALL : Hid (Only (fun q => q = p ∨ (.slice aL D.length cL : Value).ownBlock = some q ∨ (.slice aW D.length cW : Value).ownBlock = some q) w w24) := Lib.hid (((HO2.out.trans HX.out).mono (fun _ _ f => f.elim)).trans ((hot2.out.mono (fun _ _ e => .inr e)).trans (HOP.out.mono (fun _ _ e => .inl e))))
            have HDX := Lib.hid (HDJ.out wr (Only.refl _ _))
            have HWW : Hid (w.heap.size ≤ wr.heap.size) := Lib.hid (HO2.out.trans HX.out).size
            have HPLT : Hid (p < wr.heap.size) := Lib.hid HDX.out.lt
            have HEND : Hid (DkAt AB (fun q => S q ∨ w.heap.size ≤ q) w24 p (.slice (some ⟨gq, 0, none⟩) (D.length + 1) bc : Value) (.slice (some ⟨gw, 0, none⟩) (D.length + 1) bw : Value) op (D ++ [⟨kind, some ⟨b, off, none⟩, n, c, op, ls⟩])) := Lib.hid ⟨HM.out.1, HM.out.2.1, HM.out.2.2.1, HM.out.2.2.2.1, HM.out.2.2.2.2.1, HM.out.2.2.2.2.2, HDX.out.le,
              owns_only HOP.out HOE3.out (fun k e f => by
                have f : k = p := f
                rcases HKE.out k e with h | h
                · exact (HDX.out.sL k h).2 f
                · have := HPLT.out; omega),
              by
                have h := owns_only HOP.out HOW2.out (fun k e f => by
                  have f : k = p := f
                  rcases HKW.out k e with h | h
                  · exact (HDX.out.sW k h).2.1 f
                  · have := HPLT.out; have := HWX.out; omega)
                have e : whens (D ++ [⟨kind, some ⟨b, off, none⟩, n, c, op, ls⟩]) = whens D ++ [(op : Int)] := by simp [whens]
                rw [e]
                exact h,
              .inl HDX.out.sp,
              (fun k e => by
                rcases HKE.out k e with h | h
                · exact ⟨.inl (HDX.out.sL k h).1, (HDX.out.sL k h).2⟩
                · exact ⟨.inr (by have := HWW.out; omega), by have := HPLT.out; omega⟩),
              (fun k e => by
                rcases HKW.out k e with h | h
                · refine ⟨.inl (HDX.out.sW k h).1, (HDX.out.sW k h).2.1, fun f => ?_⟩
                  rcases HKE.out k f with h2 | h2
                  · exact (HDX.out.sW k h).2.2 h2
                  · have := own_lt HDX.out.oW h; omega
                · exact ⟨.inr (by have := HWW.out; have := HWX.out; omega), by have := HPLT.out; have := HWX.out; omega, fun f => by have := HLX.out k f; omega⟩),
              (fun x hx => by
                rcases List.mem_append.1 hx with hx | hx
                · obtain ⟨h1, h2, h3, h4⟩ := HDX.out.ls x hx
                  refine ⟨readsL_keep (readsL_keep h1 hot2.out (fun y e h0 f => f.elim (h4 y e).2.2.1 (h4 y e).2.2.2)) HOP.out (fun y e h0 f => (h4 y e).2.1 f), h2, h3, fun y e => ⟨.inl (h4 y e).1, (h4 y e).2.1, fun f => ?_, fun f => ?_⟩⟩
                  · rcases HKE.out _ f with h | h
                    · exact (h4 y e).2.2.1 h
                    · have h5 := readsL_block h1 e (by have := ((chk_ok _ _).1 h2).2.1; have := h1.1; omega)
                      omega
                  · rcases HKW.out _ f with h | h
                    · exact (h4 y e).2.2.2 h
                    · have h5 := readsL_block h1 e (by have := ((chk_ok _ _).1 h2).2.1; have := h1.1; omega)
                      have := HWX.out
                      omega
                · rw [List.mem_singleton] at hx
                  subst hx
                  obtain ⟨a1, a2, a3, a4⟩ := HAY.out
                  have hb : b < wr.heap.size := by have := HBL.out; have := HWW.out; omega
                  refine ⟨readsL_keep (readsL_keep (HRL.out wr HX.out) hot2.out (fun y e h0 f => by cases e; exact f.elim a3 a4)) HOP.out (fun y e h0 f => by cases e; exact a2 f), HCZ.out, Nat.le_refl _, fun y e => ?_⟩
                  cases e
                  refine ⟨.inl a1, a2, fun f => ?_, fun f => ?_⟩
                  · rcases HKE.out _ f with h | h
                    · exact a3 h
                    · have h : wr.heap.size ≤ b := h; omega
                  · rcases HKW.out _ f with h | h
                    · exact a4 h
                    · have h : _ ≤ b := h; have := HWX.out; omega),
              by simp; omega, HBK4.out⟩
            rw [← hw24]
            clear hw24 hHeld e0 e1 e2 k0 k1 k2
            go_wp2_with fail
            go_ret2
            exact .inr ⟨HER0.out, HCZ.out, rfl, ⟨_, _, HEND.out⟩, HALL.out⟩

        · try simp only [List.getElem_toArray, List.getElem_cons_zero, List.getElem_cons_succ]
          go_simp
          obtain ⟨x19, hx19⟩ : ∃ x, x = z0 := ⟨_, rfl⟩
          rw [← hx19] at hot ⊢
          rw [← hx19] at HOE
          obtain ⟨W19, hW19⟩ : ∃ x, x = x19.alloc (.cells #[.int .i64 kind, .slice (some ⟨b, off, none⟩) n c] 75) := ⟨_, rfl⟩
          obtain ⟨gE, hgE⟩ : ∃ x, x = x19.heap.size := ⟨_, rfl⟩
          rw [← hW19, ← hgE]
          have hal : Only (fun _ => False) x19 W19 := by rw [hW19]; exact (Only.refl _ _).alloc _
          have HgE : Hid (wr.heap.size ≤ gE) := Lib.hid (by rw [hgE]; exact hot.out.size)
          have hsz19 : W19.heap.size = gE + 1 := by rw [hW19, hgE]; exact size_alloc _ _
          have HSZgE : Hid (W19.heap.size = gE + 1) := Lib.hid hsz19
          have HNE : Hid (∀ j u, (encE ⟨kind, some ⟨b, off, none⟩, n, c, op, ls⟩)[j]? = some u → W19.cell? ⟨gE, j, none⟩ = some u) := Lib.hid (fun j u hu => by rw [hW19]; exact alloc_new _ _ _ _ _ _ hgE (by rw [← hu]; simp [encE]))
          replace HOE := Lib.hid (owns_only hal HOE.out (fun _ _ f => f) : OwnE _ _ D)
          replace hot := Lib.hid (hot.out.trans (hal.mono (fun _ _ f => f.elim)))
          clear hW19 hgE hal hx19 hsz19
          refine hK.out _ _ (fun _ => HS12.out _ (hot.out.mono (fun _ _ e => .inl e))) (fun hHeld19 => ?_)
          replace hHeld19 := hHeld19 rfl
          clear hK K
          try simp only [List.getElem_toArray, List.getElem_cons_zero, List.getElem_cons_succ, Act.put, List.setIfInBounds_toArray, List.set_cons_zero, List.set_cons_succ]
          refine late.ready (rs := [5, 17]) (by kernel_rfl) (by simp) ?_
          refine late.Each.cons rfl (fun K hK => ?_) (late.Each.cons rfl (fun K hK => ?_) late.Each.nil)
          · have hc5 := HC0.out _ (hot.out.mono (fun _ _ e => .inl e))
            try simp only [List.getElem_toArray, List.getElem_cons_zero, List.getElem_cons_succ]
            go_simp
            refine hK.out _ _ (fun _ => HS12.out _ (hot.out.mono (fun _ _ e => .inl e))) (fun hHeld20 => ?_)
            replace hHeld20 := hHeld20 rfl
            clear hK K
            clear hc5
            try simp only [List.getElem_toArray, List.getElem_cons_zero, List.getElem_cons_succ, Act.put, List.setIfInBounds_toArray, List.set_cons_zero, List.set_cons_succ]
            refine late.ready (rs := [8, 17]) (by kernel_rfl) (by simp) ?_
            refine late.Each.cons rfl (fun K hK => ?_) (late.Each.cons rfl (fun K hK => ?_) late.Each.nil)
            · refine step_entry (a := { tmps := _, defers := _ }) rfl _ _ rfl _ D rfl HOE.out gE 1 ⟨kind, some ⟨b, off, none⟩, n, c, op, ls⟩ rfl HNE.out (by omega) ?_
              rintro v21 W21 hown hgrow hkk
              obtain ⟨gq, bc, hvf, -, -, hbc, -⟩ := owns_form hown (by simp)
              have hl1 : (D ++ [(⟨kind, some ⟨b, off, none⟩, n, c, op, ls⟩ : Es)]).length = D.length + 1 := by simp
              rw [hl1] at hvf hbc
              subst hvf
              have hgo := Only.of_grown hgrow
              have HOE2 : Hid (OwnE W21 (.slice (some ⟨gq, 0, none⟩) (D.length + 1) bc) (D ++ [⟨kind, some ⟨b, off, none⟩, n, c, op, ls⟩])) := Lib.hid hown
              have HKE : Hid (∀ k, (.slice (some ⟨gq, 0, none⟩) (D.length + 1) bc : Value).ownBlock = some k → (.slice aL D.length cL : Value).ownBlock = some k ∨ wr.heap.size ≤ k) := Lib.hid (fun k e => (hkk k e).imp (fun x => x) (fun e2 => Nat.le_trans hot.out.size e2))
              replace hot := Lib.hid (hot.out.trans (hgo.mono (fun k _ e => e)))
              clear hown hgrow hkk hgo HNE HOE
              refine hK.out _ _ (fun _ => HS12.out _ (hot.out.mono (fun _ _ e => .inl e))) (fun hHeld21 => ?_)
              replace hHeld21 := hHeld21 rfl
              clear hK K
              try simp only [List.getElem_toArray, List.getElem_cons_zero, List.getElem_cons_succ, Act.put, List.setIfInBounds_toArray, List.set_cons_zero, List.set_cons_succ]
              refine late.ready (rs := [17]) (by kernel_rfl) (by simp) ?_
              refine late.Each.cons rfl (fun K hK => ?_) late.Each.nil
              try simp only [List.getElem_toArray, List.getElem_cons_zero, List.getElem_cons_succ]
              go_simp
              obtain ⟨x22, hx22⟩ : ∃ x, x = W21 := ⟨_, rfl⟩
              rw [← hx22] at hot ⊢
              rw [← hx22] at HOE2
              obtain ⟨W22, hW22⟩ : ∃ x, x = x22.alloc (.cells #[.int .i64 (op : Int)] 3) := ⟨_, rfl⟩
              obtain ⟨gI, hgI⟩ : ∃ x, x = x22.heap.size := ⟨_, rfl⟩
              rw [← hW22, ← hgI]
              have hal : Only (fun _ => False) x22 W22 := by rw [hW22]; exact (Only.refl _ _).alloc _
              have HgI : Hid (wr.heap.size ≤ gI) := Lib.hid (by rw [hgI]; exact hot.out.size)
              have hsz22 : W22.heap.size = gI + 1 := by rw [hW22, hgI]; exact size_alloc _ _
              have HSZgI : Hid (W22.heap.size = gI + 1) := Lib.hid hsz22
              have HNI : Hid (W22.cell? ⟨gI, 0, none⟩ = some (.int .i64 (op : Int))) := Lib.hid (by rw [hW22]; exact alloc_new _ _ _ _ _ _ hgI rfl)
              replace HOE2 : Hid (OwnE W22 (.slice (some ⟨gq, 0, none⟩) (D.length + 1) bc) (D ++ [⟨kind, some ⟨b, off, none⟩, n, c, op, ls⟩])) := Lib.hid (owns_only hal HOE2.out (fun _ _ f => f))
              replace hot := Lib.hid (hot.out.trans (hal.mono (fun _ _ f => f.elim)))
              clear hW22 hgI hal hx22 hsz22
              refine hK.out _ _ (fun _ => HS12.out _ (hot.out.mono (fun _ _ e => .inl e))) (fun hHeld22 => ?_)
              replace hHeld22 := hHeld22 rfl
              clear hK K
              try simp only [List.getElem_toArray, List.getElem_cons_zero, List.getElem_cons_succ, Act.put, List.setIfInBounds_toArray, List.set_cons_zero, List.set_cons_succ]
              refine late.ready (rs := [18]) (by kernel_rfl) (by simp) ?_
              refine late.Each.cons rfl (fun K hK => ?_) late.Each.nil
              obtain ⟨x18, hx18⟩ : ∃ x, x = W22 := ⟨_, rfl⟩
              rw [← hx18] at hot HOE2 HNI ⊢
              clear hx18
              refine step_when (a := { tmps := _, defers := _ }) rfl _ _ rfl _ (whens D) rfl (owns_only hot.out (HDJ.out wr (Only.refl _ _)).oW (fun k e f => ((HDJ.out wr (Only.refl _ _)).sW k e).2.2 f)) gI 1 (op : Int) rfl HNI.out (by rw [HWL.out]; omega) ?_
              rintro v23 W23 hown hgrow hkk
              obtain ⟨gw, bw, hvf, -, -, hbw, -⟩ := owns_form hown (by simp)
              have hl2 : (whens D ++ [(op : Int)]).length = D.length + 1 := by simp [whens]
              rw [hl2] at hvf hbw
              subst hvf
              have hgo := Only.of_grown hgrow
              have HOW2 : Hid (OwnN W23 (.slice (some ⟨gw, 0, none⟩) (D.length + 1) bw) (whens D ++ [(op : Int)])) := Lib.hid hown
              have HKW : Hid (∀ k, (.slice (some ⟨gw, 0, none⟩) (D.length + 1) bw : Value).ownBlock = some k → (.slice aW D.length cW : Value).ownBlock = some k ∨ x18.heap.size ≤ k) := Lib.hid hkk
              have HOE3 : Hid (OwnE W23 (.slice (some ⟨gq, 0, none⟩) (D.length + 1) bc) (D ++ [⟨kind, some ⟨b, off, none⟩, n, c, op, ls⟩])) := Lib.hid (owns_only hgo HOE2.out (fun k e f => by
                rcases HKE.out k e with h | h
                · exact ((HDJ.out wr (Only.refl _ _)).sW k f).2.2 h
                · have := own_lt (HDJ.out wr (Only.refl _ _)).oW f
                  omega))
              have HLX : Hid (∀ k, (.slice (some ⟨gq, 0, none⟩) (D.length + 1) bc : Value).ownBlock = some k → k < x18.heap.size) := Lib.hid (fun k e => own_lt HOE2.out e)
              have HWX : Hid (wr.heap.size ≤ x18.heap.size) := Lib.hid hot.out.size
              have hot2 : Hid (Only (fun q => (.slice aL D.length cL : Value).ownBlock = some q ∨ (.slice aW D.length cW : Value).ownBlock = some q) wr W23) := Lib.hid ((hot.out.mono (fun _ _ e => .inl e)).trans (hgo.mono (fun k _ e => .inr e)))
              have d0 := HC0.out _ hot2.out
              obtain ⟨d1, d2, b0, b1⟩ := HS12.out _ hot2.out
              have f0 := HFZ.out 0 (by omega) _ hot2.out
              rw [Nat.add_zero] at f0
              have f1 := HFZ.out 1 (by omega) _ hot2.out
              rw [show 165 + 1 = 166 by omega] at f1
              have HBK2 := Lib.hid ((HDJ.out wr (Only.refl _ _)).bk.only hot2.out (fun e => e.elim (fun e => ((HDJ.out wr (Only.refl _ _)).sL p e).2 rfl) (fun e => ((HDJ.out wr (Only.refl _ _)).sW p e).2.1 rfl)))
              have hl1z : IntKind.i64.wrap (((D.length + 1 : Nat) : Int) - 1) = (D.length : Int) := by rw [IntKind.wrap_i64]; omega
              clear hown hgrow hkk hgo HNI HOE2 hot
              refine hK.out _ _ (fun _ => HS12.out _ hot2.out) (fun hHeld23 => ?_)
              replace hHeld23 := hHeld23 rfl
              clear hK K
              try simp only [List.getElem_toArray, List.getElem_cons_zero, List.getElem_cons_succ, Act.put, List.setIfInBounds_toArray, List.set_cons_zero, List.set_cons_succ]
              refine sho.lt 19 [20, 21, 22, 23, 24] ?_
              refine sho.lt 20 [21, 22, 23, 24] ?_
              refine late.ready (rs := [21]) (by kernel_rfl) (by simp) ?_
              refine late.Each.cons rfl (fun K hK => ?_) late.Each.nil
              try simp only [List.getElem_toArray, List.getElem_cons_zero, List.getElem_cons_succ]
              go_simp
              obtain ⟨w21, hw21⟩ : ∃ x, x = W23.setCell ⟨p, 165, none⟩ (.slice (some ⟨gq, 0, none⟩) (D.length + 1) bc) := ⟨_, rfl⟩
              have e0 : w21.cell? ⟨p, 165, none⟩ = some (.slice (some ⟨gq, 0, none⟩) (D.length + 1) bc) := by rw [hw21]; exact cell_same d0
              have e1 : w21.cell? ⟨p, 166, none⟩ = some (.slice aW D.length cW) := by rw [hw21, cell_other (fun e => by injection e with _ e _; omega)]; exact d1
              have e2 : w21.cell? ⟨p, 167, none⟩ = some (.int .i64 (op : Int)) := by rw [hw21, cell_other (fun e => by injection e with _ e _; omega)]; exact d2
              have k0 : w21.frozen? ⟨p, 165, none⟩ = false := by rw [hw21]; exact frozen_set.trans f0
              have k1 : w21.frozen? ⟨p, 166, none⟩ = false := by rw [hw21]; exact frozen_set.trans f1
              have HBK3 : Hid (fnd.BkAt w21 p AB) := Lib.hid (by rw [hw21]; exact bk_far HBK2.out (by omega) _)
              have k2 : w21.frozen? ⟨p, 167, none⟩ = false := by rw [hw21]; exact frozen_set.trans (HFZ.out 2 (by omega) _ hot2.out)
              have HO21 : Hid (Only (fun q => q = p) W23 w21) := Lib.hid (by rw [hw21]; exact Only.set _ _ p 165 _ rfl)
              clear d0 d1 d2 f0 f1
              have b2 := HO21.out.cell' b0 HQP.out
              have b3 := HO21.out.cell' b1 HQP.out
              clear b0 b1
              rw [← hw21]
              clear hw21
              refine hK.out _ _ (fun _ => ⟨e1, e2, b2, b3⟩) (fun hHeld24 => ?_)
              replace hHeld24 := hHeld24 rfl
              clear hK K
              clear b2 b3
              try simp only [List.getElem_toArray, List.getElem_cons_zero, List.getElem_cons_succ, Act.put, List.setIfInBounds_toArray, List.set_cons_zero, List.set_cons_succ]
              refine sho.lt 22 [23, 24] ?_
              refine sho.lt 23 [24] ?_
              refine late.ready (rs := [24]) (by kernel_rfl) (by simp) ?_
              refine late.Each.cons rfl (fun K hK => ?_) late.Each.nil
              try simp only [List.getElem_toArray, List.getElem_cons_zero, List.getElem_cons_succ]
              go_simp
              refine hK.out _ _ (fun h => by cases h) (fun _ => ?_)
              clear hK K
              try simp only [List.getElem_toArray, List.getElem_cons_zero, List.getElem_cons_succ, Act.put, List.setIfInBounds_toArray, List.set_cons_zero, List.set_cons_succ]
              refine late.done (by kernel_rfl) ?_ _
              refine NoPanic.normal ?_
              obtain ⟨w24, hw24⟩ : ∃ x, x = w21.setCell ⟨p, 166, none⟩ (.slice (some ⟨gw, 0, none⟩) (D.length + 1) bw) := ⟨_, rfl⟩
              have m0 : w24.cell? ⟨p, 165, none⟩ = some (.slice (some ⟨gq, 0, none⟩) (D.length + 1) bc : Value) := by rw [hw24, cell_other (fun e => by injection e with _ e _; omega)]; exact e0
              have HM : Hid (w24.cell? ⟨p, 165, none⟩ = some (.slice (some ⟨gq, 0, none⟩) (D.length + 1) bc : Value) ∧ w24.cell? ⟨p, 166, none⟩ = some (.slice (some ⟨gw, 0, none⟩) (D.length + 1) bw : Value) ∧ w24.cell? ⟨p, 167, none⟩ = some (.int .i64 (op : Int)) ∧ w24.frozen? ⟨p, 165, none⟩ = false ∧ w24.frozen? ⟨p, 166, none⟩ = false ∧ w24.frozen? ⟨p, 167, none⟩ = false) := Lib.hid ⟨m0, by rw [hw24]; exact cell_same e1, by rw [hw24, cell_other (fun e => by injection e with _ e _; omega)]; exact e2, by rw [hw24]; exact frozen_set.trans k0, by rw [hw24]; exact frozen_set.trans k1, by rw [hw24]; exact frozen_set.trans k2⟩
              have HBK4 : Hid (fnd.BkAt w24 p AB) := Lib.hid (by rw [hw24]; exact bk_far HBK3.out (by omega) _)
              have HOP : Hid (Only (fun q => q = p) _ w24) := Lib.hid (HO21.out.trans (by rw [hw24]; exact Only.set _ _ p 166 _ rfl))
              have HALL : Hid (Only (fun q => q = p ∨ (.slice aL D.length cL : Value).ownBlock = some q ∨ (.slice aW D.length cW : Value).ownBlock = some q) w w24) := Lib.hid (((HO2.out.trans HX.out).mono (fun _ _ f => f.elim)).trans ((hot2.out.mono (fun _ _ e => .inr e)).trans (HOP.out.mono (fun _ _ e => .inl e))))
              have HDX := Lib.hid (HDJ.out wr (Only.refl _ _))
              have HWW : Hid (w.heap.size ≤ wr.heap.size) := Lib.hid (HO2.out.trans HX.out).size
              have HPLT : Hid (p < wr.heap.size) := Lib.hid HDX.out.lt
              have HEND : Hid (DkAt AB (fun q => S q ∨ w.heap.size ≤ q) w24 p (.slice (some ⟨gq, 0, none⟩) (D.length + 1) bc : Value) (.slice (some ⟨gw, 0, none⟩) (D.length + 1) bw : Value) op (D ++ [⟨kind, some ⟨b, off, none⟩, n, c, op, ls⟩])) := Lib.hid ⟨HM.out.1, HM.out.2.1, HM.out.2.2.1, HM.out.2.2.2.1, HM.out.2.2.2.2.1, HM.out.2.2.2.2.2, HDX.out.le,
                owns_only HOP.out HOE3.out (fun k e f => by
                  have f : k = p := f
                  rcases HKE.out k e with h | h
                  · exact (HDX.out.sL k h).2 f
                  · have := HPLT.out; omega),
                by
                  have h := owns_only HOP.out HOW2.out (fun k e f => by
                    have f : k = p := f
                    rcases HKW.out k e with h | h
                    · exact (HDX.out.sW k h).2.1 f
                    · have := HPLT.out; have := HWX.out; omega)
                  have e : whens (D ++ [⟨kind, some ⟨b, off, none⟩, n, c, op, ls⟩]) = whens D ++ [(op : Int)] := by simp [whens]
                  rw [e]
                  exact h,
                .inl HDX.out.sp,
                (fun k e => by
                  rcases HKE.out k e with h | h
                  · exact ⟨.inl (HDX.out.sL k h).1, (HDX.out.sL k h).2⟩
                  · exact ⟨.inr (by have := HWW.out; omega), by have := HPLT.out; omega⟩),
                (fun k e => by
                  rcases HKW.out k e with h | h
                  · refine ⟨.inl (HDX.out.sW k h).1, (HDX.out.sW k h).2.1, fun f => ?_⟩
                    rcases HKE.out k f with h2 | h2
                    · exact (HDX.out.sW k h).2.2 h2
                    · have := own_lt HDX.out.oW h; omega
                  · exact ⟨.inr (by have := HWW.out; have := HWX.out; omega), by have := HPLT.out; have := HWX.out; omega, fun f => by have := HLX.out k f; omega⟩),
                (fun x hx => by
                  rcases List.mem_append.1 hx with hx | hx
                  · obtain ⟨h1, h2, h3, h4⟩ := HDX.out.ls x hx
                    refine ⟨readsL_keep (readsL_keep h1 hot2.out (fun y e h0 f => f.elim (h4 y e).2.2.1 (h4 y e).2.2.2)) HOP.out (fun y e h0 f => (h4 y e).2.1 f), h2, h3, fun y e => ⟨.inl (h4 y e).1, (h4 y e).2.1, fun f => ?_, fun f => ?_⟩⟩
                    · rcases HKE.out _ f with h | h
                      · exact (h4 y e).2.2.1 h
                      · have h5 := readsL_block h1 e (by have := ((chk_ok _ _).1 h2).2.1; have := h1.1; omega)
                        omega
                    · rcases HKW.out _ f with h | h
                      · exact (h4 y e).2.2.2 h
                      · have h5 := readsL_block h1 e (by have := ((chk_ok _ _).1 h2).2.1; have := h1.1; omega)
                        have := HWX.out
                        omega
                  · rw [List.mem_singleton] at hx
                    subst hx
                    obtain ⟨a1, a2, a3, a4⟩ := HAY.out
                    have hb : b < wr.heap.size := by have := HBL.out; have := HWW.out; omega
                    refine ⟨readsL_keep (readsL_keep (HRL.out wr HX.out) hot2.out (fun y e h0 f => by cases e; exact f.elim a3 a4)) HOP.out (fun y e h0 f => by cases e; exact a2 f), HCZ.out, Nat.le_refl _, fun y e => ?_⟩
                    cases e
                    refine ⟨.inl a1, a2, fun f => ?_, fun f => ?_⟩
                    · rcases HKE.out _ f with h | h
                      · exact a3 h
                      · have h : wr.heap.size ≤ b := h; omega
                    · rcases HKW.out _ f with h | h
                      · exact a4 h
                      · have h : _ ≤ b := h; have := HWX.out; omega),
                by simp; omega, HBK4.out⟩
              rw [← hw24]
              clear hw24 hHeld e0 e1 e2 k0 k1 k2
              go_wp2_with fail
              go_ret2
              exact .inr ⟨HER0.out, HCZ.out, rfl, ⟨_, _, HEND.out⟩, HALL.out⟩

            · try simp only [List.getElem_toArray, List.getElem_cons_zero, List.getElem_cons_succ]
              go_simp
              obtain ⟨x26, hx26⟩ : ∃ x, x = W19 := ⟨_, rfl⟩
              rw [← hx26] at hot ⊢
              rw [← hx26] at HOE
              rw [← hx26] at HNE
              obtain ⟨W26, hW26⟩ : ∃ x, x = x26.alloc (.cells #[.int .i64 (op : Int)] 3) := ⟨_, rfl⟩
              obtain ⟨gI, hgI⟩ : ∃ x, x = x26.heap.size := ⟨_, rfl⟩
              rw [← hW26, ← hgI]
              have hal : Only (fun _ => False) x26 W26 := by rw [hW26]; exact (Only.refl _ _).alloc _
              have HgI : Hid (wr.heap.size ≤ gI) := Lib.hid (by rw [hgI]; exact hot.out.size)
              have hsz26 : W26.heap.size = gI + 1 := by rw [hW26, hgI]; exact size_alloc _ _
              have HSZgI : Hid (W26.heap.size = gI + 1) := Lib.hid hsz26
              have HNI : Hid (W26.cell? ⟨gI, 0, none⟩ = some (.int .i64 (op : Int))) := Lib.hid (by rw [hW26]; exact alloc_new _ _ _ _ _ _ hgI rfl)
              replace HOE := Lib.hid (owns_only hal HOE.out (fun _ _ f => f) : OwnE _ _ D)
              replace HNE := Lib.hid (fun j u hu => hal.cell' (HNE.out j u hu) (fun f => f))
              replace hot := Lib.hid (hot.out.trans (hal.mono (fun _ _ f => f.elim)))
              clear hW26 hgI hal hx26 hsz26
              refine hK.out _ _ (fun _ => HS12.out _ (hot.out.mono (fun _ _ e => .inl e))) (fun hHeld26 => ?_)
              replace hHeld26 := hHeld26 rfl
              clear hK K
              try simp only [List.getElem_toArray, List.getElem_cons_zero, List.getElem_cons_succ, Act.put, List.setIfInBounds_toArray, List.set_cons_zero, List.set_cons_succ]
              refine late.ready (rs := [8]) (by kernel_rfl) (by simp) ?_
              refine late.Each.cons rfl (fun K hK => ?_) late.Each.nil
              refine step_entry (a := { tmps := _, defers := _ }) rfl _ _ rfl _ D rfl HOE.out gE 1 ⟨kind, some ⟨b, off, none⟩, n, c, op, ls⟩ rfl HNE.out (by omega) ?_
              rintro v27 W27 hown hgrow hkk
              obtain ⟨gq, bc, hvf, -, -, hbc, -⟩ := owns_form hown (by simp)
              have hl1 : (D ++ [(⟨kind, some ⟨b, off, none⟩, n, c, op, ls⟩ : Es)]).length = D.length + 1 := by simp
              rw [hl1] at hvf hbc
              subst hvf
              have hgo := Only.of_grown hgrow
              have HOE2 : Hid (OwnE W27 (.slice (some ⟨gq, 0, none⟩) (D.length + 1) bc) (D ++ [⟨kind, some ⟨b, off, none⟩, n, c, op, ls⟩])) := Lib.hid hown
              have HKE : Hid (∀ k, (.slice (some ⟨gq, 0, none⟩) (D.length + 1) bc : Value).ownBlock = some k → (.slice aL D.length cL : Value).ownBlock = some k ∨ wr.heap.size ≤ k) := Lib.hid (fun k e => (hkk k e).imp (fun x => x) (fun e2 => Nat.le_trans hot.out.size e2))
              replace HNI := Lib.hid (hgo.cell' HNI.out (fun e => by have h1 := own_lt (HDJ.out wr (Only.refl _ _)).oL e; have h2 := HgI.out; have h1 : gI < wr.heap.size := h1; omega))
              replace hot := Lib.hid (hot.out.trans (hgo.mono (fun k _ e => e)))
              clear hown hgrow hkk hgo HNE HOE
              refine hK.out _ _ (fun _ => HS12.out _ (hot.out.mono (fun _ _ e => .inl e))) (fun hHeld27 => ?_)
              replace hHeld27 := hHeld27 rfl
              clear hK K
              try simp only [List.getElem_toArray, List.getElem_cons_zero, List.getElem_cons_succ, Act.put, List.setIfInBounds_toArray, List.set_cons_zero, List.set_cons_succ]
              refine late.ready (rs := [18]) (by kernel_rfl) (by simp) ?_
              refine late.Each.cons rfl (fun K hK => ?_) late.Each.nil
              obtain ⟨x18, hx18⟩ : ∃ x, x = W27 := ⟨_, rfl⟩
              rw [← hx18] at hot HOE2 HNI ⊢
              clear hx18
              refine step_when (a := { tmps := _, defers := _ }) rfl _ _ rfl _ (whens D) rfl (owns_only hot.out (HDJ.out wr (Only.refl _ _)).oW (fun k e f => ((HDJ.out wr (Only.refl _ _)).sW k e).2.2 f)) gI 1 (op : Int) rfl HNI.out (by rw [HWL.out]; omega) ?_
              rintro v28 W28 hown hgrow hkk
              obtain ⟨gw, bw, hvf, -, -, hbw, -⟩ := owns_form hown (by simp)
              have hl2 : (whens D ++ [(op : Int)]).length = D.length + 1 := by simp [whens]
              rw [hl2] at hvf hbw
              subst hvf
              have hgo := Only.of_grown hgrow
              have HOW2 : Hid (OwnN W28 (.slice (some ⟨gw, 0, none⟩) (D.length + 1) bw) (whens D ++ [(op : Int)])) := Lib.hid hown
              have HKW : Hid (∀ k, (.slice (some ⟨gw, 0, none⟩) (D.length + 1) bw : Value).ownBlock = some k → (.slice aW D.length cW : Value).ownBlock = some k ∨ x18.heap.size ≤ k) := Lib.hid hkk
              have HOE3 : Hid (OwnE W28 (.slice (some ⟨gq, 0, none⟩) (D.length + 1) bc) (D ++ [⟨kind, some ⟨b, off, none⟩, n, c, op, ls⟩])) := Lib.hid (owns_only hgo HOE2.out (fun k e f => by
                rcases HKE.out k e with h | h
                · exact ((HDJ.out wr (Only.refl _ _)).sW k f).2.2 h
                · have := own_lt (HDJ.out wr (Only.refl _ _)).oW f
                  omega))
              have HLX : Hid (∀ k, (.slice (some ⟨gq, 0, none⟩) (D.length + 1) bc : Value).ownBlock = some k → k < x18.heap.size) := Lib.hid (fun k e => own_lt HOE2.out e)
              have HWX : Hid (wr.heap.size ≤ x18.heap.size) := Lib.hid hot.out.size
              have hot2 : Hid (Only (fun q => (.slice aL D.length cL : Value).ownBlock = some q ∨ (.slice aW D.length cW : Value).ownBlock = some q) wr W28) := Lib.hid ((hot.out.mono (fun _ _ e => .inl e)).trans (hgo.mono (fun k _ e => .inr e)))
              have d0 := HC0.out _ hot2.out
              obtain ⟨d1, d2, b0, b1⟩ := HS12.out _ hot2.out
              have f0 := HFZ.out 0 (by omega) _ hot2.out
              rw [Nat.add_zero] at f0
              have f1 := HFZ.out 1 (by omega) _ hot2.out
              rw [show 165 + 1 = 166 by omega] at f1
              have HBK2 := Lib.hid ((HDJ.out wr (Only.refl _ _)).bk.only hot2.out (fun e => e.elim (fun e => ((HDJ.out wr (Only.refl _ _)).sL p e).2 rfl) (fun e => ((HDJ.out wr (Only.refl _ _)).sW p e).2.1 rfl)))
              have hl1z : IntKind.i64.wrap (((D.length + 1 : Nat) : Int) - 1) = (D.length : Int) := by rw [IntKind.wrap_i64]; omega
              clear hown hgrow hkk hgo HNI HOE2 hot
              refine hK.out _ _ (fun _ => HS12.out _ hot2.out) (fun hHeld28 => ?_)
              replace hHeld28 := hHeld28 rfl
              clear hK K
              try simp only [List.getElem_toArray, List.getElem_cons_zero, List.getElem_cons_succ, Act.put, List.setIfInBounds_toArray, List.set_cons_zero, List.set_cons_succ]
              refine sho.lt 19 [20, 21, 22, 23, 24] ?_
              refine sho.lt 20 [21, 22, 23, 24] ?_
              refine late.ready (rs := [21]) (by kernel_rfl) (by simp) ?_
              refine late.Each.cons rfl (fun K hK => ?_) late.Each.nil
              try simp only [List.getElem_toArray, List.getElem_cons_zero, List.getElem_cons_succ]
              go_simp
              obtain ⟨w21, hw21⟩ : ∃ x, x = W28.setCell ⟨p, 165, none⟩ (.slice (some ⟨gq, 0, none⟩) (D.length + 1) bc) := ⟨_, rfl⟩
              have e0 : w21.cell? ⟨p, 165, none⟩ = some (.slice (some ⟨gq, 0, none⟩) (D.length + 1) bc) := by rw [hw21]; exact cell_same d0
              have e1 : w21.cell? ⟨p, 166, none⟩ = some (.slice aW D.length cW) := by rw [hw21, cell_other (fun e => by injection e with _ e _; omega)]; exact d1
              have e2 : w21.cell? ⟨p, 167, none⟩ = some (.int .i64 (op : Int)) := by rw [hw21, cell_other (fun e => by injection e with _ e _; omega)]; exact d2
              have k0 : w21.frozen? ⟨p, 165, none⟩ = false := by rw [hw21]; exact frozen_set.trans f0
              have k1 : w21.frozen? ⟨p, 166, none⟩ = false := by rw [hw21]; exact frozen_set.trans f1
              have HBK3 : Hid (fnd.BkAt w21 p AB) := Lib.hid (by rw [hw21]; exact bk_far HBK2.out (by omega) _)
              have k2 : w21.frozen? ⟨p, 167, none⟩ = false := by rw [hw21]; exact frozen_set.trans (HFZ.out 2 (by omega) _ hot2.out)
              have HO21 : Hid (Only (fun q => q = p) W28 w21) := Lib.hid (by rw [hw21]; exact Only.set _ _ p 165 _ rfl)
              clear d0 d1 d2 f0 f1
              have b2 := HO21.out.cell' b0 HQP.out
              have b3 := HO21.out.cell' b1 HQP.out
              clear b0 b1
              rw [← hw21]
              clear hw21
              refine hK.out _ _ (fun _ => ⟨e1, e2, b2, b3⟩) (fun hHeld29 => ?_)
              replace hHeld29 := hHeld29 rfl
              clear hK K
              clear b2 b3
              try simp only [List.getElem_toArray, List.getElem_cons_zero, List.getElem_cons_succ, Act.put, List.setIfInBounds_toArray, List.set_cons_zero, List.set_cons_succ]
              refine sho.lt 22 [23, 24] ?_
              refine sho.lt 23 [24] ?_
              refine late.ready (rs := [24]) (by kernel_rfl) (by simp) ?_
              refine late.Each.cons rfl (fun K hK => ?_) late.Each.nil
              try simp only [List.getElem_toArray, List.getElem_cons_zero, List.getElem_cons_succ]
              go_simp
              refine hK.out _ _ (fun h => by cases h) (fun _ => ?_)
              clear hK K
              try simp only [List.getElem_toArray, List.getElem_cons_zero, List.getElem_cons_succ, Act.put, List.setIfInBounds_toArray, List.set_cons_zero, List.set_cons_succ]
              refine late.done (by kernel_rfl) ?_ _
              refine NoPanic.normal ?_
              obtain ⟨w24, hw24⟩ : ∃ x, x = w21.setCell ⟨p, 166, none⟩ (.slice (some ⟨gw, 0, none⟩) (D.length + 1) bw) := ⟨_, rfl⟩
              have m0 : w24.cell? ⟨p, 165, none⟩ = some (.slice (some ⟨gq, 0, none⟩) (D.length + 1) bc : Value) := by rw [hw24, cell_other (fun e => by injection e with _ e _; omega)]; exact e0
              have HM : Hid (w24.cell? ⟨p, 165, none⟩ = some (.slice (some ⟨gq, 0, none⟩) (D.length + 1) bc : Value) ∧ w24.cell? ⟨p, 166, none⟩ = some (.slice (some ⟨gw, 0, none⟩) (D.length + 1) bw : Value) ∧ w24.cell? ⟨p, 167, none⟩ = some (.int .i64 (op : Int)) ∧ w24.frozen? ⟨p, 165, none⟩ = false ∧ w24.frozen? ⟨p, 166, none⟩ = false ∧ w24.frozen? ⟨p, 167, none⟩ = false) := Lib.hid ⟨m0, by rw [hw24]; exact cell_same e1, by rw [hw24, cell_other (fun e => by injection e with _ e _; omega)]; exact e2, by rw [hw24]; exact frozen_set.trans k0, by rw [hw24]; exact frozen_set.trans k1, by rw [hw24]; exact frozen_set.trans k2⟩
              have HBK4 : Hid (fnd.BkAt w24 p AB) := Lib.hid (by rw [hw24]; exact bk_far HBK3.out (by omega) _)
              have HOP : Hid (Only (fun q => q = p) _ w24) := Lib.hid (HO21.out.trans (by rw [hw24]; exact Only.set _ _ p 166 _ rfl))
              have HALL : Hid (Only (fun q => q = p ∨ (.slice aL D.length cL : Value).ownBlock = some q ∨ (.slice aW D.length cW : Value).ownBlock = some q) w w24) := Lib.hid (((HO2.out.trans HX.out).mono (fun _ _ f => f.elim)).trans ((hot2.out.mono (fun _ _ e => .inr e)).trans (HOP.out.mono (fun _ _ e => .inl e))))
              have HDX := Lib.hid (HDJ.out wr (Only.refl _ _))
              have HWW : Hid (w.heap.size ≤ wr.heap.size) := Lib.hid (HO2.out.trans HX.out).size
              have HPLT : Hid (p < wr.heap.size) := Lib.hid HDX.out.lt
              have HEND : Hid (DkAt AB (fun q => S q ∨ w.heap.size ≤ q) w24 p (.slice (some ⟨gq, 0, none⟩) (D.length + 1) bc : Value) (.slice (some ⟨gw, 0, none⟩) (D.length + 1) bw : Value) op (D ++ [⟨kind, some ⟨b, off, none⟩, n, c, op, ls⟩])) := Lib.hid ⟨HM.out.1, HM.out.2.1, HM.out.2.2.1, HM.out.2.2.2.1, HM.out.2.2.2.2.1, HM.out.2.2.2.2.2, HDX.out.le,
                owns_only HOP.out HOE3.out (fun k e f => by
                  have f : k = p := f
                  rcases HKE.out k e with h | h
                  · exact (HDX.out.sL k h).2 f
                  · have := HPLT.out; omega),
                by
                  have h := owns_only HOP.out HOW2.out (fun k e f => by
                    have f : k = p := f
                    rcases HKW.out k e with h | h
                    · exact (HDX.out.sW k h).2.1 f
                    · have := HPLT.out; have := HWX.out; omega)
                  have e : whens (D ++ [⟨kind, some ⟨b, off, none⟩, n, c, op, ls⟩]) = whens D ++ [(op : Int)] := by simp [whens]
                  rw [e]
                  exact h,
                .inl HDX.out.sp,
                (fun k e => by
                  rcases HKE.out k e with h | h
                  · exact ⟨.inl (HDX.out.sL k h).1, (HDX.out.sL k h).2⟩
                  · exact ⟨.inr (by have := HWW.out; omega), by have := HPLT.out; omega⟩),
                (fun k e => by
                  rcases HKW.out k e with h | h
                  · refine ⟨.inl (HDX.out.sW k h).1, (HDX.out.sW k h).2.1, fun f => ?_⟩
                    rcases HKE.out k f with h2 | h2
                    · exact (HDX.out.sW k h).2.2 h2
                    · have := own_lt HDX.out.oW h; omega
                  · exact ⟨.inr (by have := HWW.out; have := HWX.out; omega), by have := HPLT.out; have := HWX.out; omega, fun f => by have := HLX.out k f; omega⟩),
                (fun x hx => by
                  rcases List.mem_append.1 hx with hx | hx
                  · obtain ⟨h1, h2, h3, h4⟩ := HDX.out.ls x hx
                    refine ⟨readsL_keep (readsL_keep h1 hot2.out (fun y e h0 f => f.elim (h4 y e).2.2.1 (h4 y e).2.2.2)) HOP.out (fun y e h0 f => (h4 y e).2.1 f), h2, h3, fun y e => ⟨.inl (h4 y e).1, (h4 y e).2.1, fun f => ?_, fun f => ?_⟩⟩
                    · rcases HKE.out _ f with h | h
                      · exact (h4 y e).2.2.1 h
                      · have h5 := readsL_block h1 e (by have := ((chk_ok _ _).1 h2).2.1; have := h1.1; omega)
                        omega
                    · rcases HKW.out _ f with h | h
                      · exact (h4 y e).2.2.2 h
                      · have h5 := readsL_block h1 e (by have := ((chk_ok _ _).1 h2).2.1; have := h1.1; omega)
                        have := HWX.out
                        omega
                  · rw [List.mem_singleton] at hx
                    subst hx
                    obtain ⟨a1, a2, a3, a4⟩ := HAY.out
                    have hb : b < wr.heap.size := by have := HBL.out; have := HWW.out; omega
                    refine ⟨readsL_keep (readsL_keep (HRL.out wr HX.out) hot2.out (fun y e h0 f => by cases e; exact f.elim a3 a4)) HOP.out (fun y e h0 f => by cases e; exact a2 f), HCZ.out, Nat.le_refl _, fun y e => ?_⟩
                    cases e
                    refine ⟨.inl a1, a2, fun f => ?_, fun f => ?_⟩
                    · rcases HKE.out _ f with h | h
                      · exact a3 h
                      · have h : wr.heap.size ≤ b := h; omega
                    · rcases HKW.out _ f with h | h
                      · exact a4 h
                      · have h : _ ≤ b := h; have := HWX.out; omega),
                by simp; omega, HBK4.out⟩
              rw [← hw24]
              clear hw24 hHeld e0 e1 e2 k0 k1 k2
              go_wp2_with fail
              go_ret2
              exact .inr ⟨HER0.out, HCZ.out, rfl, ⟨_, _, HEND.out⟩, HALL.out⟩

          · try simp only [List.getElem_toArray, List.getElem_cons_zero, List.getElem_cons_succ]
            go_simp
            obtain ⟨x31, hx31⟩ : ∃ x, x = W19 := ⟨_, rfl⟩
            rw [← hx31] at hot ⊢
            rw [← hx31] at HOE
            rw [← hx31] at HNE
            obtain ⟨W31, hW31⟩ : ∃ x, x = x31.alloc (.cells #[.int .i64 (op : Int)] 3) := ⟨_, rfl⟩
            obtain ⟨gI, hgI⟩ : ∃ x, x = x31.heap.size := ⟨_, rfl⟩
            rw [← hW31, ← hgI]
            have hal : Only (fun _ => False) x31 W31 := by rw [hW31]; exact (Only.refl _ _).alloc _
            have HgI : Hid (wr.heap.size ≤ gI) := Lib.hid (by rw [hgI]; exact hot.out.size)
            have hsz31 : W31.heap.size = gI + 1 := by rw [hW31, hgI]; exact size_alloc _ _
            have HSZgI : Hid (W31.heap.size = gI + 1) := Lib.hid hsz31
            have HNI : Hid (W31.cell? ⟨gI, 0, none⟩ = some (.int .i64 (op : Int))) := Lib.hid (by rw [hW31]; exact alloc_new _ _ _ _ _ _ hgI rfl)
            replace HOE := Lib.hid (owns_only hal HOE.out (fun _ _ f => f) : OwnE _ _ D)
            replace HNE := Lib.hid (fun j u hu => hal.cell' (HNE.out j u hu) (fun f => f))
            replace hot := Lib.hid (hot.out.trans (hal.mono (fun _ _ f => f.elim)))
            clear hW31 hgI hal hx31 hsz31
            refine hK.out _ _ (fun _ => HS12.out _ (hot.out.mono (fun _ _ e => .inl e))) (fun hHeld31 => ?_)
            replace hHeld31 := hHeld31 rfl
            clear hK K
            try simp only [List.getElem_toArray, List.getElem_cons_zero, List.getElem_cons_succ, Act.put, List.setIfInBounds_toArray, List.set_cons_zero, List.set_cons_succ]
            refine late.ready (rs := [5]) (by kernel_rfl) (by simp) ?_
            refine late.Each.cons rfl (fun K hK => ?_) late.Each.nil
            have hc5 := HC0.out _ (hot.out.mono (fun _ _ e => .inl e))
            try simp only [List.getElem_toArray, List.getElem_cons_zero, List.getElem_cons_succ]
            go_simp
            refine hK.out _ _ (fun _ => HS12.out _ (hot.out.mono (fun _ _ e => .inl e))) (fun hHeld32 => ?_)
            replace hHeld32 := hHeld32 rfl
            clear hK K
            clear hc5
            try simp only [List.getElem_toArray, List.getElem_cons_zero, List.getElem_cons_succ, Act.put, List.setIfInBounds_toArray, List.set_cons_zero, List.set_cons_succ]
            refine late.ready (rs := [8]) (by kernel_rfl) (by simp) ?_
            refine late.Each.cons rfl (fun K hK => ?_) late.Each.nil
            refine step_entry (a := { tmps := _, defers := _ }) rfl _ _ rfl _ D rfl HOE.out gE 1 ⟨kind, some ⟨b, off, none⟩, n, c, op, ls⟩ rfl HNE.out (by omega) ?_
            rintro v33 W33 hown hgrow hkk
            obtain ⟨gq, bc, hvf, -, -, hbc, -⟩ := owns_form hown (by simp)
            have hl1 : (D ++ [(⟨kind, some ⟨b, off, none⟩, n, c, op, ls⟩ : Es)]).length = D.length + 1 := by simp
            rw [hl1] at hvf hbc
            subst hvf
            have hgo := Only.of_grown hgrow
            have HOE2 : Hid (OwnE W33 (.slice (some ⟨gq, 0, none⟩) (D.length + 1) bc) (D ++ [⟨kind, some ⟨b, off, none⟩, n, c, op, ls⟩])) := Lib.hid hown
            have HKE : Hid (∀ k, (.slice (some ⟨gq, 0, none⟩) (D.length + 1) bc : Value).ownBlock = some k → (.slice aL D.length cL : Value).ownBlock = some k ∨ wr.heap.size ≤ k) := Lib.hid (fun k e => (hkk k e).imp (fun x => x) (fun e2 => Nat.le_trans hot.out.size e2))
            replace HNI := Lib.hid (hgo.cell' HNI.out (fun e => by have h1 := own_lt (HDJ.out wr (Only.refl _ _)).oL e; have h2 := HgI.out; have h1 : gI < wr.heap.size := h1; omega))
            replace hot := Lib.hid (hot.out.trans (hgo.mono (fun k _ e => e)))
            clear hown hgrow hkk hgo HNE HOE
            refine hK.out _ _ (fun _ => HS12.out _ (hot.out.mono (fun _ _ e => .inl e))) (fun hHeld33 => ?_)
            replace hHeld33 := hHeld33 rfl
            clear hK K
            try simp only [List.getElem_toArray, List.getElem_cons_zero, List.getElem_cons_succ, Act.put, List.setIfInBounds_toArray, List.set_cons_zero, List.set_cons_succ]
            refine late.ready (rs := [18]) (by kernel_rfl) (by simp) ?_
            refine late.Each.cons rfl (fun K hK => ?_) late.Each.nil
            obtain ⟨x18, hx18⟩ : ∃ x, x = W33 := ⟨_, rfl⟩
            rw [← hx18] at hot HOE2 HNI ⊢
            clear hx18
            refine step_when (a := { tmps := _, defers := _ }) rfl _ _ rfl _ (whens D) rfl (owns_only hot.out (HDJ.out wr (Only.refl _ _)).oW (fun k e f => ((HDJ.out wr (Only.refl _ _)).sW k e).2.2 f)) gI 1 (op : Int) rfl HNI.out (by rw [HWL.out]; omega) ?_
            rintro v34 W34 hown hgrow hkk
            obtain ⟨gw, bw, hvf, -, -, hbw, -⟩ := owns_form hown (by simp)
            have hl2 : (whens D ++ [(op : Int)]).length = D.length + 1 := by simp [whens]
            rw [hl2] at hvf hbw
            subst hvf
            have hgo := Only.of_grown hgrow
            have HOW2 : Hid (OwnN W34 (.slice (some ⟨gw, 0, none⟩) (D.length + 1) bw) (whens D ++ [(op : Int)])) := Lib.hid hown
            have HKW : Hid (∀ k, (.slice (some ⟨gw, 0, none⟩) (D.length + 1) bw : Value).ownBlock = some k → (.slice aW D.length cW : Value).ownBlock = some k ∨ x18.heap.size ≤ k) := Lib.hid hkk
            have HOE3 : Hid (OwnE W34 (.slice (some ⟨gq, 0, none⟩) (D.length + 1) bc) (D ++ [⟨kind, some ⟨b, off, none⟩, n, c, op, ls⟩])) := Lib.hid (owns_only hgo HOE2.out (fun k e f => by
              rcases HKE.out k e with h | h
              · exact ((HDJ.out wr (Only.refl _ _)).sW k f).2.2 h
              · have := own_lt (HDJ.out wr (Only.refl _ _)).oW f
                omega))
            have HLX : Hid (∀ k, (.slice (some ⟨gq, 0, none⟩) (D.length + 1) bc : Value).ownBlock = some k → k < x18.heap.size) := Lib.hid (fun k e => own_lt HOE2.out e)
            have HWX : Hid (wr.heap.size ≤ x18.heap.size) := Lib.hid hot.out.size
            have hot2 : Hid (Only (fun q => (.slice aL D.length cL : Value).ownBlock = some q ∨ (.slice aW D.length cW : Value).ownBlock = some q) wr W34) := Lib.hid ((hot.out.mono (fun _ _ e => .inl e)).trans (hgo.mono (fun k _ e => .inr e)))
            have d0 := HC0.out _ hot2.out
            obtain ⟨d1, d2, b0, b1⟩ := HS12.out _ hot2.out
            have f0 := HFZ.out 0 (by omega) _ hot2.out
            rw [Nat.add_zero] at f0
            have f1 := HFZ.out 1 (by omega) _ hot2.out
            rw [show 165 + 1 = 166 by omega] at f1
            have HBK2 := Lib.hid ((HDJ.out wr (Only.refl _ _)).bk.only hot2.out (fun e => e.elim (fun e => ((HDJ.out wr (Only.refl _ _)).sL p e).2 rfl) (fun e => ((HDJ.out wr (Only.refl _ _)).sW p e).2.1 rfl)))
            have hl1z : IntKind.i64.wrap (((D.length + 1 : Nat) : Int) - 1) = (D.length : Int) := by rw [IntKind.wrap_i64]; omega
            clear hown hgrow hkk hgo HNI HOE2 hot
            refine hK.out _ _ (fun _ => HS12.out _ hot2.out) (fun hHeld34 => ?_)
            replace hHeld34 := hHeld34 rfl
            clear hK K
            try simp only [List.getElem_toArray, List.getElem_cons_zero, List.getElem_cons_succ, Act.put, List.setIfInBounds_toArray, List.set_cons_zero, List.set_cons_succ]
            refine sho.lt 19 [20, 21, 22, 23, 24] ?_
            refine sho.lt 20 [21, 22, 23, 24] ?_
            refine late.ready (rs := [21]) (by kernel_rfl) (by simp) ?_
            refine late.Each.cons rfl (fun K hK => ?_) late.Each.nil
            try simp only [List.getElem_toArray, List.getElem_cons_zero, List.getElem_cons_succ]
            go_simp
            obtain ⟨w21, hw21⟩ : ∃ x, x = W34.setCell ⟨p, 165, none⟩ (.slice (some ⟨gq, 0, none⟩) (D.length + 1) bc) := ⟨_, rfl⟩
            have e0 : w21.cell? ⟨p, 165, none⟩ = some (.slice (some ⟨gq, 0, none⟩) (D.length + 1) bc) := by rw [hw21]; exact cell_same d0
            have e1 : w21.cell? ⟨p, 166, none⟩ = some (.slice aW D.length cW) := by rw [hw21, cell_other (fun e => by injection e with _ e _; omega)]; exact d1
            have e2 : w21.cell? ⟨p, 167, none⟩ = some (.int .i64 (op : Int)) := by rw [hw21, cell_other (fun e => by injection e with _ e _; omega)]; exact d2
            have k0 : w21.frozen? ⟨p, 165, none⟩ = false := by rw [hw21]; exact frozen_set.trans f0
            have k1 : w21.frozen? ⟨p, 166, none⟩ = false := by rw [hw21]; exact frozen_set.trans f1
            have HBK3 : Hid (fnd.BkAt w21 p AB) := Lib.hid (by rw [hw21]; exact bk_far HBK2.out (by omega) _)
            have k2 : w21.frozen? ⟨p, 167, none⟩ = false := by rw [hw21]; exact frozen_set.trans (HFZ.out 2 (by omega) _ hot2.out)
            have HO21 : Hid (Only (fun q => q = p) W34 w21) := Lib.hid (by rw [hw21]; exact Only.set _ _ p 165 _ rfl)
            clear d0 d1 d2 f0 f1
            have b2 := HO21.out.cell' b0 HQP.out
            have b3 := HO21.out.cell' b1 HQP.out
            clear b0 b1
            rw [← hw21]
            clear hw21
            refine hK.out _ _ (fun _ => ⟨e1, e2, b2, b3⟩) (fun hHeld35 => ?_)
            replace hHeld35 := hHeld35 rfl
            clear hK K
            clear b2 b3
            try simp only [List.getElem_toArray, List.getElem_cons_zero, List.getElem_cons_succ, Act.put, List.setIfInBounds_toArray, List.set_cons_zero, List.set_cons_succ]
            refine sho.lt 22 [23, 24] ?_
            refine sho.lt 23 [24] ?_
            refine late.ready (rs := [24]) (by kernel_rfl) (by simp) ?_
            refine late.Each.cons rfl (fun K hK => ?_) late.Each.nil
            try simp only [List.getElem_toArray, List.getElem_cons_zero, List.getElem_cons_succ]
            go_simp
            refine hK.out _ _ (fun h => by cases h) (fun _ => ?_)
            clear hK K
            try simp only [List.getElem_toArray, List.getElem_cons_zero, List.getElem_cons_succ, Act.put, List.setIfInBounds_toArray, List.set_cons_zero, List.set_cons_succ]
            refine late.done (by kernel_rfl) ?_ _
            refine NoPanic.normal ?_
            obtain ⟨w24, hw24⟩ : ∃ x, x = w21.setCell ⟨p, 166, none⟩ (.slice (some ⟨gw, 0, none⟩) (D.length + 1) bw) := ⟨_, rfl⟩
            have m0 : w24.cell? ⟨p, 165, none⟩ = some (.slice (some ⟨gq, 0, none⟩) (D.length + 1) bc : Value) := by rw [hw24, cell_other (fun e => by injection e with _ e _; omega)]; exact e0
            have HM : Hid (w24.cell? ⟨p, 165, none⟩ = some (.slice (some ⟨gq, 0, none⟩) (D.length + 1) bc : Value) ∧ w24.cell? ⟨p, 166, none⟩ = some (.slice (some ⟨gw, 0, none⟩) (D.length + 1) bw : Value) ∧ w24.cell? ⟨p, 167, none⟩ = some (.int .i64 (op : Int)) ∧ w24.frozen? ⟨p, 165, none⟩ = false ∧ w24.frozen? ⟨p, 166, none⟩ = false ∧ w24.frozen? ⟨p, 167, none⟩ = false) := Lib.hid ⟨m0, by rw [hw24]; exact cell_same e1, by rw [hw24, cell_other (fun e => by injection e with _ e _; omega)]; exact e2, by rw [hw24]; exact frozen_set.trans k0, by rw [hw24]; exact frozen_set.trans k1, by rw [hw24]; exact frozen_set.trans k2⟩
            have HBK4 : Hid (fnd.BkAt w24 p AB) := Lib.hid (by rw [hw24]; exact bk_far HBK3.out (by omega) _)
            have HOP : Hid (Only (fun q => q = p) _ w24) := Lib.hid (HO21.out.trans (by rw [hw24]; exact Only.set _ _ p 166 _ rfl))
            have HALL : Hid (Only (fun q => q = p ∨ (.slice aL D.length cL : Value).ownBlock = some q ∨ (.slice aW D.length cW : Value).ownBlock = some q) w w24) := Lib.hid (((HO2.out.trans HX.out).mono (fun _ _ f => f.elim)).trans ((hot2.out.mono (fun _ _ e => .inr e)).trans (HOP.out.mono (fun _ _ e => .inl e))))
            have HDX := Lib.hid (HDJ.out wr (Only.refl _ _))
            have HWW : Hid (w.heap.size ≤ wr.heap.size) := Lib.hid (HO2.out.trans HX.out).size
            have HPLT : Hid (p < wr.heap.size) := Lib.hid HDX.out.lt
            have HEND : Hid (DkAt AB (fun q => S q ∨ w.heap.size ≤ q) w24 p (.slice (some ⟨gq, 0, none⟩) (D.length + 1) bc : Value) (.slice (some ⟨gw, 0, none⟩) (D.length + 1) bw : Value) op (D ++ [⟨kind, some ⟨b, off, none⟩, n, c, op, ls⟩])) := Lib.hid ⟨HM.out.1, HM.out.2.1, HM.out.2.2.1, HM.out.2.2.2.1, HM.out.2.2.2.2.1, HM.out.2.2.2.2.2, HDX.out.le,
              owns_only HOP.out HOE3.out (fun k e f => by
                have f : k = p := f
                rcases HKE.out k e with h | h
                · exact (HDX.out.sL k h).2 f
                · have := HPLT.out; omega),
              by
                have h := owns_only HOP.out HOW2.out (fun k e f => by
                  have f : k = p := f
                  rcases HKW.out k e with h | h
                  · exact (HDX.out.sW k h).2.1 f
                  · have := HPLT.out; have := HWX.out; omega)
                have e : whens (D ++ [⟨kind, some ⟨b, off, none⟩, n, c, op, ls⟩]) = whens D ++ [(op : Int)] := by simp [whens]
                rw [e]
                exact h,
              .inl HDX.out.sp,
              (fun k e => by
                rcases HKE.out k e with h | h
                · exact ⟨.inl (HDX.out.sL k h).1, (HDX.out.sL k h).2⟩
                · exact ⟨.inr (by have := HWW.out; omega), by have := HPLT.out; omega⟩),
              (fun k e => by
                rcases HKW.out k e with h | h
                · refine ⟨.inl (HDX.out.sW k h).1, (HDX.out.sW k h).2.1, fun f => ?_⟩
                  rcases HKE.out k f with h2 | h2
                  · exact (HDX.out.sW k h).2.2 h2
                  · have := own_lt HDX.out.oW h; omega
                · exact ⟨.inr (by have := HWW.out; have := HWX.out; omega), by have := HPLT.out; have := HWX.out; omega, fun f => by have := HLX.out k f; omega⟩),
              (fun x hx => by
                rcases List.mem_append.1 hx with hx | hx
                · obtain ⟨h1, h2, h3, h4⟩ := HDX.out.ls x hx
                  refine ⟨readsL_keep (readsL_keep h1 hot2.out (fun y e h0 f => f.elim (h4 y e).2.2.1 (h4 y e).2.2.2)) HOP.out (fun y e h0 f => (h4 y e).2.1 f), h2, h3, fun y e => ⟨.inl (h4 y e).1, (h4 y e).2.1, fun f => ?_, fun f => ?_⟩⟩
                  · rcases HKE.out _ f with h | h
                    · exact (h4 y e).2.2.1 h
                    · have h5 := readsL_block h1 e (by have := ((chk_ok _ _).1 h2).2.1; have := h1.1; omega)
                      omega
                  · rcases HKW.out _ f with h | h
                    · exact (h4 y e).2.2.2 h
                    · have h5 := readsL_block h1 e (by have := ((chk_ok _ _).1 h2).2.1; have := h1.1; omega)
                      have := HWX.out
                      omega
                · rw [List.mem_singleton] at hx
                  subst hx
                  obtain ⟨a1, a2, a3, a4⟩ := HAY.out
                  have hb : b < wr.heap.size := by have := HBL.out; have := HWW.out; omega
                  refine ⟨readsL_keep (readsL_keep (HRL.out wr HX.out) hot2.out (fun y e h0 f => by cases e; exact f.elim a3 a4)) HOP.out (fun y e h0 f => by cases e; exact a2 f), HCZ.out, Nat.le_refl _, fun y e => ?_⟩
                  cases e
                  refine ⟨.inl a1, a2, fun f => ?_, fun f => ?_⟩
                  · rcases HKE.out _ f with h | h
                    · exact a3 h
                    · have h : wr.heap.size ≤ b := h; omega
                  · rcases HKW.out _ f with h | h
                    · exact a4 h
                    · have h : _ ≤ b := h; have := HWX.out; omega),
              by simp; omega, HBK4.out⟩
            rw [← hw24]
            clear hw24 hHeld e0 e1 e2 k0 k1 k2
            go_wp2_with fail
            go_ret2
            exact .inr ⟨HER0.out, HCZ.out, rfl, ⟨_, _, HEND.out⟩, HALL.out⟩

        · try simp only [List.getElem_toArray, List.getElem_cons_zero, List.getElem_cons_succ]
          go_simp
          obtain ⟨x37, hx37⟩ : ∃ x, x = z0 := ⟨_, rfl⟩
          rw [← hx37] at hot ⊢
          rw [← hx37] at HOE
          obtain ⟨W37, hW37⟩ : ∃ x, x = x37.alloc (.cells #[.int .i64 (op : Int)] 3) := ⟨_, rfl⟩
          obtain ⟨gI, hgI⟩ : ∃ x, x = x37.heap.size := ⟨_, rfl⟩
          rw [← hW37, ← hgI]
          have hal : Only (fun _ => False) x37 W37 := by rw [hW37]; exact (Only.refl _ _).alloc _
          have HgI : Hid (wr.heap.size ≤ gI) := Lib.hid (by rw [hgI]; exact hot.out.size)
          have hsz37 : W37.heap.size = gI + 1 := by rw [hW37, hgI]; exact size_alloc _ _
          have HSZgI : Hid (W37.heap.size = gI + 1) := Lib.hid hsz37
          have HNI : Hid (W37.cell? ⟨gI, 0, none⟩ = some (.int .i64 (op : Int))) := Lib.hid (by rw [hW37]; exact alloc_new _ _ _ _ _ _ hgI rfl)
          replace HOE := Lib.hid (owns_only hal HOE.out (fun _ _ f => f) : OwnE _ _ D)
          replace hot := Lib.hid (hot.out.trans (hal.mono (fun _ _ f => f.elim)))
          clear hW37 hgI hal hx37 hsz37
          refine hK.out _ _ (fun _ => HS12.out _ (hot.out.mono (fun _ _ e => .inl e))) (fun hHeld37 => ?_)
          replace hHeld37 := hHeld37 rfl
          clear hK K
          try simp only [List.getElem_toArray, List.getElem_cons_zero, List.getElem_cons_succ, Act.put, List.setIfInBounds_toArray, List.set_cons_zero, List.set_cons_succ]
          refine late.ready (rs := [5, 7]) (by kernel_rfl) (by simp) ?_
          refine late.Each.cons rfl (fun K hK => ?_) (late.Each.cons rfl (fun K hK => ?_) late.Each.nil)
          · have hc5 := HC0.out _ (hot.out.mono (fun _ _ e => .inl e))
            try simp only [List.getElem_toArray, List.getElem_cons_zero, List.getElem_cons_succ]
            go_simp
            refine hK.out _ _ (fun _ => HS12.out _ (hot.out.mono (fun _ _ e => .inl e))) (fun hHeld38 => ?_)
            replace hHeld38 := hHeld38 rfl
            clear hK K
            clear hc5
            try simp only [List.getElem_toArray, List.getElem_cons_zero, List.getElem_cons_succ, Act.put, List.setIfInBounds_toArray, List.set_cons_zero, List.set_cons_succ]
            refine late.ready (rs := [7]) (by kernel_rfl) (by simp) ?_
            refine late.Each.cons rfl (fun K hK => ?_) late.Each.nil
            try simp only [List.getElem_toArray, List.getElem_cons_zero, List.getElem_cons_succ]
            go_simp
            obtain ⟨x39, hx39⟩ : ∃ x, x = W37 := ⟨_, rfl⟩
            rw [← hx39] at hot ⊢
            rw [← hx39] at HOE
            rw [← hx39] at HNI
            obtain ⟨W39, hW39⟩ : ∃ x, x = x39.alloc (.cells #[.int .i64 kind, .slice (some ⟨b, off, none⟩) n c] 75) := ⟨_, rfl⟩
            obtain ⟨gE, hgE⟩ : ∃ x, x = x39.heap.size := ⟨_, rfl⟩
            rw [← hW39, ← hgE]
            have hal : Only (fun _ => False) x39 W39 := by rw [hW39]; exact (Only.refl _ _).alloc _
            have HgE : Hid (wr.heap.size ≤ gE) := Lib.hid (by rw [hgE]; exact hot.out.size)
            have hsz39 : W39.heap.size = gE + 1 := by rw [hW39, hgE]; exact size_alloc _ _
            have HSZgE : Hid (W39.heap.size = gE + 1) := Lib.hid hsz39
            have HNE : Hid (∀ j u, (encE ⟨kind, some ⟨b, off, none⟩, n, c, op, ls⟩)[j]? = some u → W39.cell? ⟨gE, j, none⟩ = some u) := Lib.hid (fun j u hu => by rw [hW39]; exact alloc_new _ _ _ _ _ _ hgE (by rw [← hu]; simp [encE]))
            replace HOE := Lib.hid (owns_only hal HOE.out (fun _ _ f => f) : OwnE _ _ D)
            replace HNI := Lib.hid (hal.cell' HNI.out (fun f => f))
            replace hot := Lib.hid (hot.out.trans (hal.mono (fun _ _ f => f.elim)))
            clear hW39 hgE hal hx39 hsz39
            refine hK.out _ _ (fun _ => HS12.out _ (hot.out.mono (fun _ _ e => .inl e))) (fun hHeld39 => ?_)
            replace hHeld39 := hHeld39 rfl
            clear hK K
            try simp only [List.getElem_toArray, List.getElem_cons_zero, List.getElem_cons_succ, Act.put, List.setIfInBounds_toArray, List.set_cons_zero, List.set_cons_succ]
            refine late.ready (rs := [8]) (by kernel_rfl) (by simp) ?_
            refine late.Each.cons rfl (fun K hK => ?_) late.Each.nil
            refine step_entry (a := { tmps := _, defers := _ }) rfl _ _ rfl _ D rfl HOE.out gE 1 ⟨kind, some ⟨b, off, none⟩, n, c, op, ls⟩ rfl HNE.out (by omega) ?_
            rintro v40 W40 hown hgrow hkk
            obtain ⟨gq, bc, hvf, -, -, hbc, -⟩ := owns_form hown (by simp)
            have hl1 : (D ++ [(⟨kind, some ⟨b, off, none⟩, n, c, op, ls⟩ : Es)]).length = D.length + 1 := by simp
            rw [hl1] at hvf hbc
            subst hvf
            have hgo := Only.of_grown hgrow
            have HOE2 : Hid (OwnE W40 (.slice (some ⟨gq, 0, none⟩) (D.length + 1) bc) (D ++ [⟨kind, some ⟨b, off, none⟩, n, c, op, ls⟩])) := Lib.hid hown
            have HKE : Hid (∀ k, (.slice (some ⟨gq, 0, none⟩) (D.length + 1) bc : Value).ownBlock = some k → (.slice aL D.length cL : Value).ownBlock = some k ∨ wr.heap.size ≤ k) := Lib.hid (fun k e => (hkk k e).imp (fun x => x) (fun e2 => Nat.le_trans hot.out.size e2))
            replace HNI := Lib.hid (hgo.cell' HNI.out (fun e => by have h1 := own_lt (HDJ.out wr (Only.refl _ _)).oL e; have h2 := HgI.out; have h1 : gI < wr.heap.size := h1; omega))
            replace hot := Lib.hid (hot.out.trans (hgo.mono (fun k _ e => e)))
            clear hown hgrow hkk hgo HNE HOE
            refine hK.out _ _ (fun _ => HS12.out _ (hot.out.mono (fun _ _ e => .inl e))) (fun hHeld40 => ?_)
            replace hHeld40 := hHeld40 rfl
            clear hK K
            try simp only [List.getElem_toArray, List.getElem_cons_zero, List.getElem_cons_succ, Act.put, List.setIfInBounds_toArray, List.set_cons_zero, List.set_cons_succ]
            refine late.ready (rs := [18]) (by kernel_rfl) (by simp) ?_
            refine late.Each.cons rfl (fun K hK => ?_) late.Each.nil
            obtain ⟨x18, hx18⟩ : ∃ x, x = W40 := ⟨_, rfl⟩
            rw [← hx18] at hot HOE2 HNI ⊢
            clear hx18
            refine step_when (a := { tmps := _, defers := _ }) rfl _ _ rfl _ (whens D) rfl (owns_only hot.out (HDJ.out wr (Only.refl _ _)).oW (fun k e f => ((HDJ.out wr (Only.refl _ _)).sW k e).2.2 f)) gI 1 (op : Int) rfl HNI.out (by rw [HWL.out]; omega) ?_
            rintro v41 W41 hown hgrow hkk
            obtain ⟨gw, bw, hvf, -, -, hbw, -⟩ := owns_form hown (by simp)
            have hl2 : (whens D ++ [(op : Int)]).length = D.length + 1 := by simp [whens]
            rw [hl2] at hvf hbw
            subst hvf
            have hgo := Only.of_grown hgrow
            have HOW2 : Hid (OwnN W41 (.slice (some ⟨gw, 0, none⟩) (D.length + 1) bw) (whens D ++ [(op : Int)])) := Lib.hid hown
            have HKW : Hid (∀ k, (.slice (some ⟨gw, 0, none⟩) (D.length + 1) bw : Value).ownBlock = some k → (.slice aW D.length cW : Value).ownBlock = some k ∨ x18.heap.size ≤ k) := Lib.hid hkk
            have HOE3 : Hid (OwnE W41 (.slice (some ⟨gq, 0, none⟩) (D.length + 1) bc) (D ++ [⟨kind, some ⟨b, off, none⟩, n, c, op, ls⟩])) := Lib.hid (owns_only hgo HOE2.out (fun k e f => by
              rcases HKE.out k e with h | h
              · exact ((HDJ.out wr (Only.refl _ _)).sW k f).2.2 h
              · have := own_lt (HDJ.out wr (Only.refl _ _)).oW f
                omega))
            have HLX : Hid (∀ k, (.slice (some ⟨gq, 0, none⟩) (D.length + 1) bc : Value).ownBlock = some k → k < x18.heap.size) := Lib.hid (fun k e => own_lt HOE2.out e)
            have HWX : Hid (wr.heap.size ≤ x18.heap.size) := Lib.hid hot.out.size
            have hot2 : Hid (Only (fun q => (.slice aL D.length cL : Value).ownBlock = some q ∨ (.slice aW D.length cW : Value).ownBlock = some q) wr W41) := Lib.hid ((hot.out.mono (fun _ _ e => .inl e)).trans (hgo.mono (fun k _ e => .inr e)))
            have d0 := HC0.out _ hot2.out
            obtain ⟨d1, d2, b0, b1⟩ := HS12.out _ hot2.out
            have f0 := HFZ.out 0 (by omega) _ hot2.out
            rw [Nat.add_zero] at f0
            have f1 := HFZ.out 1 (by omega) _ hot2.out
            rw [show 165 + 1 = 166 by omega] at f1
            have HBK2 := Lib.hid ((HDJ.out wr (Only.refl _ _)).bk.only hot2.out (fun e => e.elim (fun e => ((HDJ.out wr (Only.refl _ _)).sL p e).2 rfl) (fun e => ((HDJ.out wr (Only.refl _ _)).sW p e).2.1 rfl)))
            have hl1z : IntKind.i64.wrap (((D.length + 1 : Nat) : Int) - 1) = (D.length : Int) := by rw [IntKind.wrap_i64]; omega
            clear hown hgrow hkk hgo HNI HOE2 hot
            refine hK.out _ _ (fun _ => HS12.out _ hot2.out) (fun hHeld41 => ?_)
            replace hHeld41 := hHeld41 rfl
            clear hK K
            try simp only [List.getElem_toArray, List.getElem_cons_zero, List.getElem_cons_succ, Act.put, List.setIfInBounds_toArray, List.set_cons_zero, List.set_cons_succ]
            refine sho.lt 19 [20, 21, 22, 23, 24] ?_
            refine sho.lt 20 [21, 22, 23, 24] ?_
            refine late.ready (rs := [21]) (by kernel_rfl) (by simp) ?_
            refine late.Each.cons rfl (fun K hK => ?_) late.Each.nil
            try simp only [List.getElem_toArray, List.getElem_cons_zero, List.getElem_cons_succ]
            go_simp
            obtain ⟨w21, hw21⟩ : ∃ x, x = W41.setCell ⟨p, 165, none⟩ (.slice (some ⟨gq, 0, none⟩) (D.length + 1) bc) := ⟨_, rfl⟩
            have e0 : w21.cell? ⟨p, 165, none⟩ = some (.slice (some ⟨gq, 0, none⟩) (D.length + 1) bc) := by rw [hw21]; exact cell_same d0
            have e1 : w21.cell? ⟨p, 166, none⟩ = some (.slice aW D.length cW) := by rw [hw21, cell_other (fun e => by injection e with _ e _; omega)]; exact d1
            have e2 : w21.cell? ⟨p, 167, none⟩ = some (.int .i64 (op : Int)) := by rw [hw21, cell_other (fun e => by injection e with _ e _; omega)]; exact d2
            have k0 : w21.frozen? ⟨p, 165, none⟩ = false := by rw [hw21]; exact frozen_set.trans f0
            have k1 : w21.frozen? ⟨p, 166, none⟩ = false := by rw [hw21]; exact frozen_set.trans f1
            have HBK3 : Hid (fnd.BkAt w21 p AB) := Lib.hid (by rw [hw21]; exact bk_far HBK2.out (by omega) _)
            have k2 : w21.frozen? ⟨p, 167, none⟩ = false := by rw [hw21]; exact frozen_set.trans (HFZ.out 2 (by omega) _ hot2.out)
            have HO21 : Hid (Only (fun q => q = p) W41 w21) := Lib.hid (by rw [hw21]; exact Only.set _ _ p 165 _ rfl)
            clear d0 d1 d2 f0 f1
            have b2 := HO21.out.cell' b0 HQP.out
            have b3 := HO21.out.cell' b1 HQP.out
            clear b0 b1
            rw [← hw21]
            clear hw21
            refine hK.out _ _ (fun _ => ⟨e1, e2, b2, b3⟩) (fun hHeld42 => ?_)
            replace hHeld42 := hHeld42 rfl
            clear hK K
            clear b2 b3
            try simp only [List.getElem_toArray, List.getElem_cons_zero, List.getElem_cons_succ, Act.put, List.setIfInBounds_toArray, List.set_cons_zero, List.set_cons_succ]
            refine sho.lt 22 [23, 24] ?_
            refine sho.lt 23 [24] ?_
            refine late.ready (rs := [24]) (by kernel_rfl) (by simp) ?_
            refine late.Each.cons rfl (fun K hK => ?_) late.Each.nil
            try simp only [List.getElem_toArray, List.getElem_cons_zero, List.getElem_cons_succ]
            go_simp
            refine hK.out _ _ (fun h => by cases h) (fun _ => ?_)
            clear hK K
            try simp only [List.getElem_toArray, List.getElem_cons_zero, List.getElem_cons_succ, Act.put, List.setIfInBounds_toArray, List.set_cons_zero, List.set_cons_succ]
            refine late.done (by kernel_rfl) ?_ _
            refine NoPanic.normal ?_
            obtain ⟨w24, hw24⟩ : ∃ x, x = w21.setCell ⟨p, 166, none⟩ (.slice (some ⟨gw, 0, none⟩) (D.length + 1) bw) := ⟨_, rfl⟩
            have m0 : w24.cell? ⟨p, 165, none⟩ = some (.slice (some ⟨gq, 0, none⟩) (D.length + 1) bc : Value) := by rw [hw24, cell_other (fun e => by injection e with _ e _; omega)]; exact e0
            have HM : Hid (w24.cell? ⟨p, 165, none⟩ = some (.slice (some ⟨gq, 0, none⟩) (D.length + 1) bc : Value) ∧ w24.cell? ⟨p, 166, none⟩ = some (.slice (some ⟨gw, 0, none⟩) (D.length + 1) bw : Value) ∧ w24.cell? ⟨p, 167, none⟩ = some (.int .i64 (op : Int)) ∧ w24.frozen? ⟨p, 165, none⟩ = false ∧ w24.frozen? ⟨p, 166, none⟩ = false ∧ w24.frozen? ⟨p, 167, none⟩ = false) := Lib.hid ⟨m0, by rw [hw24]; exact cell_same e1, by rw [hw24, cell_other (fun e => by injection e with _ e _; omega)]; exact e2, by rw [hw24]; exact frozen_set.trans k0, by rw [hw24]; exact frozen_set.trans k1, by rw [hw24]; exact frozen_set.trans k2⟩
            have HBK4 : Hid (fnd.BkAt w24 p AB) := Lib.hid (by rw [hw24]; exact bk_far HBK3.out (by omega) _)
            have HOP : Hid (Only (fun q => q = p) _ w24) := Lib.hid (HO21.out.trans (by rw [hw24]; exact Only.set _ _ p 166 _ rfl))
            have HALL : Hid (Only (fun q => q = p ∨ (.slice aL D.length cL : Value).ownBlock = some q ∨ (.slice aW D.length cW : Value).ownBlock = some q) w w24) := Lib.hid (((HO2.out.trans HX.out).mono (fun _ _ f => f.elim)).trans ((hot2.out.mono (fun _ _ e => .inr e)).trans (HOP.out.mono (fun _ _ e => .inl e))))
            have HDX := Lib.hid (HDJ.out wr (Only.refl _ _))
            have HWW : Hid (w.heap.size ≤ wr.heap.size) := Lib.hid (HO2.out.trans HX.out).size
            have HPLT : Hid (p < wr.heap.size) := Lib.hid HDX.out.lt
            have HEND : Hid (DkAt AB (fun q => S q ∨ w.heap.size ≤ q) w24 p (.slice (some ⟨gq, 0, none⟩) (D.length + 1) bc : Value) (.slice (some ⟨gw, 0, none⟩) (D.length + 1) bw : Value) op (D ++ [⟨kind, some ⟨b, off, none⟩, n, c, op, ls⟩])) := Lib.hid ⟨HM.out.1, HM.out.2.1, HM.out.2.2.1, HM.out.2.2.2.1, HM.out.2.2.2.2.1, HM.out.2.2.2.2.2, HDX.out.le,
              owns_only HOP.out HOE3.out (fun k e f => by
                have f : k = p := f
                rcases HKE.out k e with h | h
                · exact (HDX.out.sL k h).2 f
                · have := HPLT.out; omega),
              by
                have h := owns_only HOP.out HOW2.out (fun k e f => by
                  have f : k = p := f
                  rcases HKW.out k e with h | h
                  · exact (HDX.out.sW k h).2.1 f
                  · have := HPLT.out; have := HWX.out; omega)
                have e : whens (D ++ [⟨kind, some ⟨b, off, none⟩, n, c, op, ls⟩]) = whens D ++ [(op : Int)] := by simp [whens]
                rw [e]
                exact h,
              .inl HDX.out.sp,
              (fun k e => by
                rcases HKE.out k e with h | h
                · exact ⟨.inl (HDX.out.sL k h).1, (HDX.out.sL k h).2⟩
                · exact ⟨.inr (by have := HWW.out; omega), by have := HPLT.out; omega⟩),
              (fun k e => by
                rcases HKW.out k e with h | h
                · refine ⟨.inl (HDX.out.sW k h).1, (HDX.out.sW k h).2.1, fun f => ?_⟩
                  rcases HKE.out k f with h2 | h2
                  · exact (HDX.out.sW k h).2.2 h2
                  · have := own_lt HDX.out.oW h; omega
                · exact ⟨.inr (by have := HWW.out; have := HWX.out; omega), by have := HPLT.out; have := HWX.out; omega, fun f => by have := HLX.out k f; omega⟩),
              (fun x hx => by
                rcases List.mem_append.1 hx with hx | hx
                · obtain ⟨h1, h2, h3, h4⟩ := HDX.out.ls x hx
                  refine ⟨readsL_keep (readsL_keep h1 hot2.out (fun y e h0 f => f.elim (h4 y e).2.2.1 (h4 y e).2.2.2)) HOP.out (fun y e h0 f => (h4 y e).2.1 f), h2, h3, fun y e => ⟨.inl (h4 y e).1, (h4 y e).2.1, fun f => ?_, fun f => ?_⟩⟩
                  · rcases HKE.out _ f with h | h
                    · exact (h4 y e).2.2.1 h
                    · have h5 := readsL_block h1 e (by have := ((chk_ok _ _).1 h2).2.1; have := h1.1; omega)
                      omega
                  · rcases HKW.out _ f with h | h
                    · exact (h4 y e).2.2.2 h
                    · have h5 := readsL_block h1 e (by have := ((chk_ok _ _).1 h2).2.1; have := h1.1; omega)
                      have := HWX.out
                      omega
                · rw [List.mem_singleton] at hx
                  subst hx
                  obtain ⟨a1, a2, a3, a4⟩ := HAY.out
                  have hb : b < wr.heap.size := by have := HBL.out; have := HWW.out; omega
                  refine ⟨readsL_keep (readsL_keep (HRL.out wr HX.out) hot2.out (fun y e h0 f => by cases e; exact f.elim a3 a4)) HOP.out (fun y e h0 f => by cases e; exact a2 f), HCZ.out, Nat.le_refl _, fun y e => ?_⟩
                  cases e
                  refine ⟨.inl a1, a2, fun f => ?_, fun f => ?_⟩
                  · rcases HKE.out _ f with h | h
                    · exact a3 h
                    · have h : wr.heap.size ≤ b := h; omega
                  · rcases HKW.out _ f with h | h
                    · exact a4 h
                    · have h : _ ≤ b := h; have := HWX.out; omega),
              by simp; omega, HBK4.out⟩
            rw [← hw24]
            clear hw24 hHeld e0 e1 e2 k0 k1 k2
            go_wp2_with fail
            go_ret2
            exact .inr ⟨HER0.out, HCZ.out, rfl, ⟨_, _, HEND.out⟩, HALL.out⟩

          · try simp only [List.getElem_toArray, List.getElem_cons_zero, List.getElem_cons_succ]
            go_simp
            obtain ⟨x44, hx44⟩ : ∃ x, x = W37 := ⟨_, rfl⟩
            rw [← hx44] at hot ⊢
            rw [← hx44] at HOE
            rw [← hx44] at HNI
            obtain ⟨W44, hW44⟩ : ∃ x, x = x44.alloc (.cells #[.int .i64 kind, .slice (some ⟨b, off, none⟩) n c] 75) := ⟨_, rfl⟩
            obtain ⟨gE, hgE⟩ : ∃ x, x = x44.heap.size := ⟨_, rfl⟩
            rw [← hW44, ← hgE]
            have hal : Only (fun _ => False) x44 W44 := by rw [hW44]; exact (Only.refl _ _).alloc _
            have HgE : Hid (wr.heap.size ≤ gE) := Lib.hid (by rw [hgE]; exact hot.out.size)
            have hsz44 : W44.heap.size = gE + 1 := by rw [hW44, hgE]; exact size_alloc _ _
            have HSZgE : Hid (W44.heap.size = gE + 1) := Lib.hid hsz44
            have HNE : Hid (∀ j u, (encE ⟨kind, some ⟨b, off, none⟩, n, c, op, ls⟩)[j]? = some u → W44.cell? ⟨gE, j, none⟩ = some u) := Lib.hid (fun j u hu => by rw [hW44]; exact alloc_new _ _ _ _ _ _ hgE (by rw [← hu]; simp [encE]))
            replace HOE := Lib.hid (owns_only hal HOE.out (fun _ _ f => f) : OwnE _ _ D)
            replace HNI := Lib.hid (hal.cell' HNI.out (fun f => f))
            replace hot := Lib.hid (hot.out.trans (hal.mono (fun _ _ f => f.elim)))
            clear hW44 hgE hal hx44 hsz44
            refine hK.out _ _ (fun _ => HS12.out _ (hot.out.mono (fun _ _ e => .inl e))) (fun hHeld44 => ?_)
            replace hHeld44 := hHeld44 rfl
            clear hK K
            try simp only [List.getElem_toArray, List.getElem_cons_zero, List.getElem_cons_succ, Act.put, List.setIfInBounds_toArray, List.set_cons_zero, List.set_cons_succ]
            refine late.ready (rs := [5]) (by kernel_rfl) (by simp) ?_
            refine late.Each.cons rfl (fun K hK => ?_) late.Each.nil
            have hc5 := HC0.out _ (hot.out.mono (fun _ _ e => .inl e))
            try simp only [List.getElem_toArray, List.getElem_cons_zero, List.getElem_cons_succ]
            go_simp
            refine hK.out _ _ (fun _ => HS12.out _ (hot.out.mono (fun _ _ e => .inl e))) (fun hHeld45 => ?_)
            replace hHeld45 := hHeld45 rfl
            clear hK K
            clear hc5
            try simp only [List.getElem_toArray, List.getElem_cons_zero, List.getElem_cons_succ, Act.put, List.setIfInBounds_toArray, List.set_cons_zero, List.set_cons_succ]
            refine late.ready (rs := [8]) (by kernel_rfl) (by simp) ?_
            refine late.Each.cons rfl (fun K hK => ?_) late.Each.nil
            refine step_entry (a := { tmps := _, defers := _ }) rfl _ _ rfl _ D rfl HOE.out gE 1 ⟨kind, some ⟨b, off, none⟩, n, c, op, ls⟩ rfl HNE.out (by omega) ?_
            rintro v46 W46 hown hgrow hkk
            obtain ⟨gq, bc, hvf, -, -, hbc, -⟩ := owns_form hown (by simp)
            have hl1 : (D ++ [(⟨kind, some ⟨b, off, none⟩, n, c, op, ls⟩ : Es)]).length = D.length + 1 := by simp
            rw [hl1] at hvf hbc
            subst hvf
            have hgo := Only.of_grown hgrow
            have HOE2 : Hid (OwnE W46 (.slice (some ⟨gq, 0, none⟩) (D.length + 1) bc) (D ++ [⟨kind, some ⟨b, off, none⟩, n, c, op, ls⟩])) := Lib.hid hown
            have HKE : Hid (∀ k, (.slice (some ⟨gq, 0, none⟩) (D.length + 1) bc : Value).ownBlock = some k → (.slice aL D.length cL : Value).ownBlock = some k ∨ wr.heap.size ≤ k) := Lib.hid (fun k e => (hkk k e).imp (fun x => x) (fun e2 => Nat.le_trans hot.out.size e2))
            replace HNI := Lib.hid (hgo.cell' HNI.out (fun e => by have h1 := own_lt (HDJ.out wr (Only.refl _ _)).oL e; have h2 := HgI.out; have h1 : gI < wr.heap.size := h1; omega))
            replace hot := Lib.hid (hot.out.trans (hgo.mono (fun k _ e => e)))
            clear hown hgrow hkk hgo HNE HOE
            refine hK.out _ _ (fun _ => HS12.out _ (hot.out.mono (fun _ _ e => .inl e))) (fun hHeld46 => ?_)
            replace hHeld46 := hHeld46 rfl
            clear hK K
            try simp only [List.getElem_toArray, List.getElem_cons_zero, List.getElem_cons_succ, Act.put, List.setIfInBounds_toArray, List.set_cons_zero, List.set_cons_succ]
            refine late.ready (rs := [18]) (by kernel_rfl) (by simp) ?_
            refine late.Each.cons rfl (fun K hK => ?_) late.Each.nil
            obtain ⟨x18, hx18⟩ : ∃ x, x = W46 := ⟨_, rfl⟩
            rw [← hx18] at hot HOE2 HNI ⊢
            clear hx18
            refine step_when (a := { tmps := _, defers := _ }) rfl _ _ rfl _ (whens D) rfl (owns_only hot.out (HDJ.out wr (Only.refl _ _)).oW (fun k e f => ((HDJ.out wr (Only.refl _ _)).sW k e).2.2 f)) gI 1 (op : Int) rfl HNI.out (by rw [HWL.out]; omega) ?_
            rintro v47 W47 hown hgrow hkk
            obtain ⟨gw, bw, hvf, -, -, hbw, -⟩ := owns_form hown (by simp)
            have hl2 : (whens D ++ [(op : Int)]).length = D.length + 1 := by simp [whens]
            rw [hl2] at hvf hbw
            subst hvf
            have hgo := Only.of_grown hgrow
            have HOW2 : Hid (OwnN W47 (.slice (some ⟨gw, 0, none⟩) (D.length + 1) bw) (whens D ++ [(op : Int)])) := Lib.hid hown
            have HKW : Hid (∀ k, (.slice (some ⟨gw, 0, none⟩) (D.length + 1) bw : Value).ownBlock = some k → (.slice aW D.length cW : Value).ownBlock = some k ∨ x18.heap.size ≤ k) := Lib.hid hkk
            have HOE3 : Hid (OwnE W47 (.slice (some ⟨gq, 0, none⟩) (D.length + 1) bc) (D ++ [⟨kind, some ⟨b, off, none⟩, n, c, op, ls⟩])) := Lib.hid (owns_only hgo HOE2.out (fun k e f => by
              rcases HKE.out k e with h | h
              · exact ((HDJ.out wr (Only.refl _ _)).sW k f).2.2 h
              · have := own_lt (HDJ.out wr (Only.refl _ _)).oW f
                omega))
            have HLX : Hid (∀ k, (.slice (some ⟨gq, 0, none⟩) (D.length + 1) bc : Value).ownBlock = some k → k < x18.heap.size) := Lib.hid (fun k e => own_lt HOE2.out e)
            have HWX : Hid (wr.heap.size ≤ x18.heap.size) := Lib.hid hot.out.size
            have hot2 : Hid (Only (fun q => (.slice aL D.length cL : Value).ownBlock = some q ∨ (.slice aW D.length cW : Value).ownBlock = some q) wr W47) := Lib.hid ((hot.out.mono (fun _ _ e => .inl e)).trans (hgo.mono (fun k _ e => .inr e)))
            have d0 := HC0.out _ hot2.out
            obtain ⟨d1, d2, b0, b1⟩ := HS12.out _ hot2.out
            have f0 := HFZ.out 0 (by omega) _ hot2.out
            rw [Nat.add_zero] at f0
            have f1 := HFZ.out 1 (by omega) _ hot2.out
            rw [show 165 + 1 = 166 by omega] at f1
            have HBK2 := Lib.hid ((HDJ.out wr (Only.refl _ _)).bk.only hot2.out (fun e => e.elim (fun e => ((HDJ.out wr (Only.refl _ _)).sL p e).2 rfl) (fun e => ((HDJ.out wr (Only.refl _ _)).sW p e).2.1 rfl)))
            have hl1z : IntKind.i64.wrap (((D.length + 1 : Nat) : Int) - 1) = (D.length : Int) := by rw [IntKind.wrap_i64]; omega
            clear hown hgrow hkk hgo HNI HOE2 hot
            refine hK.out _ _ (fun _ => HS12.out _ hot2.out) (fun hHeld47 => ?_)
            replace hHeld47 := hHeld47 rfl
            clear hK K
            try simp only [List.getElem_toArray, List.getElem_cons_zero, List.getElem_cons_succ, Act.put, List.setIfInBounds_toArray, List.set_cons_zero, List.set_cons_succ]
            refine sho.lt 19 [20, 21, 22, 23, 24] ?_
            refine sho.lt 20 [21, 22, 23, 24] ?_
            refine late.ready (rs := [21]) (by kernel_rfl) (by simp) ?_
            refine late.Each.cons rfl (fun K hK => ?_) late.Each.nil
            try simp only [List.getElem_toArray, List.getElem_cons_zero, List.getElem_cons_succ]
            go_simp
            obtain ⟨w21, hw21⟩ : ∃ x, x = W47.setCell ⟨p, 165, none⟩ (.slice (some ⟨gq, 0, none⟩) (D.length + 1) bc) := ⟨_, rfl⟩
            have e0 : w21.cell? ⟨p, 165, none⟩ = some (.slice (some ⟨gq, 0, none⟩) (D.length + 1) bc) := by rw [hw21]; exact cell_same d0
            have e1 : w21.cell? ⟨p, 166, none⟩ = some (.slice aW D.length cW) := by rw [hw21, cell_other (fun e => by injection e with _ e _; omega)]; exact d1
            have e2 : w21.cell? ⟨p, 167, none⟩ = some (.int .i64 (op : Int)) := by rw [hw21, cell_other (fun e => by injection e with _ e _; omega)]; exact d2
            have k0 : w21.frozen? ⟨p, 165, none⟩ = false := by rw [hw21]; exact frozen_set.trans f0
            have k1 : w21.frozen? ⟨p, 166, none⟩ = false := by rw [hw21]; exact frozen_set.trans f1
            have HBK3 : Hid (fnd.BkAt w21 p AB) := Lib.hid (by rw [hw21]; exact bk_far HBK2.out (by omega) _)
            have k2 : w21.frozen? ⟨p, 167, none⟩ = false := by rw [hw21]; exact frozen_set.trans (HFZ.out 2 (by omega) _ hot2.out)
            have HO21 : Hid (Only (fun q => q = p) W47 w21) := Lib.hid (by rw [hw21]; exact Only.set _ _ p 165 _ rfl)
            clear d0 d1 d2 f0 f1
            have b2 := HO21.out.cell' b0 HQP.out
            have b3 := HO21.out.cell' b1 HQP.out
            clear b0 b1
            rw [← hw21]
            clear hw21
            refine hK.out _ _ (fun _ => ⟨e1, e2, b2, b3⟩) (fun hHeld48 => ?_)
            replace hHeld48 := hHeld48 rfl
            clear hK K
            clear b2 b3
            try simp only [List.getElem_toArray, List.getElem_cons_zero, List.getElem_cons_succ, Act.put, List.setIfInBounds_toArray, List.set_cons_zero, List.set_cons_succ]
            refine sho.lt 22 [23, 24] ?_
            refine sho.lt 23 [24] ?_
            refine late.ready (rs := [24]) (by kernel_rfl) (by simp) ?_
            refine late.Each.cons rfl (fun K hK => ?_) late.Each.nil
            try simp only [List.getElem_toArray, List.getElem_cons_zero, List.getElem_cons_succ]
            go_simp
            refine hK.out _ _ (fun h => by cases h) (fun _ => ?_)
            clear hK K
            try simp only [List.getElem_toArray, List.getElem_cons_zero, List.getElem_cons_succ, Act.put, List.setIfInBounds_toArray, List.set_cons_zero, List.set_cons_succ]
            refine late.done (by kernel_rfl) ?_ _
            refine NoPanic.normal ?_
            obtain ⟨w24, hw24⟩ : ∃ x, x = w21.setCell ⟨p, 166, none⟩ (.slice (some ⟨gw, 0, none⟩) (D.length + 1) bw) := ⟨_, rfl⟩
            have m0 : w24.cell? ⟨p, 165, none⟩ = some (.slice (some ⟨gq, 0, none⟩) (D.length + 1) bc : Value) := by rw [hw24, cell_other (fun e => by injection e with _ e _; omega)]; exact e0
            have HM : Hid (w24.cell? ⟨p, 165, none⟩ = some (.slice (some ⟨gq, 0, none⟩) (D.length + 1) bc : Value) ∧ w24.cell? ⟨p, 166, none⟩ = some (.slice (some ⟨gw, 0, none⟩) (D.length + 1) bw : Value) ∧ w24.cell? ⟨p, 167, none⟩ = some (.int .i64 (op : Int)) ∧ w24.frozen? ⟨p, 165, none⟩ = false ∧ w24.frozen? ⟨p, 166, none⟩ = false ∧ w24.frozen? ⟨p, 167, none⟩ = false) := Lib.hid ⟨m0, by rw [hw24]; exact cell_same e1, by rw [hw24, cell_other (fun e => by injection e with _ e _; omega)]; exact e2, by rw [hw24]; exact frozen_set.trans k0, by rw [hw24]; exact frozen_set.trans k1, by rw [hw24]; exact frozen_set.trans k2⟩
            have HBK4 : Hid (fnd.BkAt w24 p AB) := Lib.hid (by rw [hw24]; exact bk_far HBK3.out (by omega) _)
            have HOP : Hid (Only (fun q => q = p) _ w24) := Lib.hid (HO21.out.trans (by rw [hw24]; exact Only.set _ _ p 166 _ rfl))
            have HALL : Hid (Only (fun q => q = p ∨ (.slice aL D.length cL : Value).ownBlock = some q ∨ (.slice aW D.length cW : Value).ownBlock = some q) w w24) := Lib.hid (((HO2.out.trans HX.out).mono (fun _ _ f => f.elim)).trans ((hot2.out.mono (fun _ _ e => .inr e)).trans (HOP.out.mono (fun _ _ e => .inl e))))
            have HDX := Lib.hid (HDJ.out wr (Only.refl _ _))
            have HWW : Hid (w.heap.size ≤ wr.heap.size) := Lib.hid (HO2.out.trans HX.out).size
            have HPLT : Hid (p < wr.heap.size) := Lib.hid HDX.out.lt
            have HEND : Hid (DkAt AB (fun q => S q ∨ w.heap.size ≤ q) w24 p (.slice (some ⟨gq, 0, none⟩) (D.length + 1) bc : Value) (.slice (some ⟨gw, 0, none⟩) (D.length + 1) bw : Value) op (D ++ [⟨kind, some ⟨b, off, none⟩, n, c, op, ls⟩])) := Lib.hid ⟨HM.out.1, HM.out.2.1, HM.out.2.2.1, HM.out.2.2.2.1, HM.out.2.2.2.2.1, HM.out.2.2.2.2.2, HDX.out.le,
              owns_only HOP.out HOE3.out (fun k e f => by
                have f : k = p := f
                rcases HKE.out k e with h | h
                · exact (HDX.out.sL k h).2 f
                · have := HPLT.out; omega),
              by
                have h := owns_only HOP.out HOW2.out (fun k e f => by
                  have f : k = p := f
                  rcases HKW.out k e with h | h
                  · exact (HDX.out.sW k h).2.1 f
                  · have := HPLT.out; have := HWX.out; omega)
                have e : whens (D ++ [⟨kind, some ⟨b, off, none⟩, n, c, op, ls⟩]) = whens D ++ [(op : Int)] := by simp [whens]
                rw [e]
                exact h,
              .inl HDX.out.sp,
              (fun k e => by
                rcases HKE.out k e with h | h
                · exact ⟨.inl (HDX.out.sL k h).1, (HDX.out.sL k h).2⟩
                · exact ⟨.inr (by have := HWW.out; omega), by have := HPLT.out; omega⟩),
              (fun k e => by
                rcases HKW.out k e with h | h
                · refine ⟨.inl (HDX.out.sW k h).1, (HDX.out.sW k h).2.1, fun f => ?_⟩
                  rcases HKE.out k f with h2 | h2
                  · exact (HDX.out.sW k h).2.2 h2
                  · have := own_lt HDX.out.oW h; omega
                · exact ⟨.inr (by have := HWW.out; have := HWX.out; omega), by have := HPLT.out; have := HWX.out; omega, fun f => by have := HLX.out k f; omega⟩),
              (fun x hx => by
                rcases List.mem_append.1 hx with hx | hx
                · obtain ⟨h1, h2, h3, h4⟩ := HDX.out.ls x hx
                  refine ⟨readsL_keep (readsL_keep h1 hot2.out (fun y e h0 f => f.elim (h4 y e).2.2.1 (h4 y e).2.2.2)) HOP.out (fun y e h0 f => (h4 y e).2.1 f), h2, h3, fun y e => ⟨.inl (h4 y e).1, (h4 y e).2.1, fun f => ?_, fun f => ?_⟩⟩
                  · rcases HKE.out _ f with h | h
                    · exact (h4 y e).2.2.1 h
                    · have h5 := readsL_block h1 e (by have := ((chk_ok _ _).1 h2).2.1; have := h1.1; omega)
                      omega
                  · rcases HKW.out _ f with h | h
                    · exact (h4 y e).2.2.2 h
                    · have h5 := readsL_block h1 e (by have := ((chk_ok _ _).1 h2).2.1; have := h1.1; omega)
                      have := HWX.out
                      omega
                · rw [List.mem_singleton] at hx
                  subst hx
                  obtain ⟨a1, a2, a3, a4⟩ := HAY.out
                  have hb : b < wr.heap.size := by have := HBL.out; have := HWW.out; omega
                  refine ⟨readsL_keep (readsL_keep (HRL.out wr HX.out) hot2.out (fun y e h0 f => by cases e; exact f.elim a3 a4)) HOP.out (fun y e h0 f => by cases e; exact a2 f), HCZ.out, Nat.le_refl _, fun y e => ?_⟩
                  cases e
                  refine ⟨.inl a1, a2, fun f => ?_, fun f => ?_⟩
                  · rcases HKE.out _ f with h | h
                    · exact a3 h
                    · have h : wr.heap.size ≤ b := h; omega
                  · rcases HKW.out _ f with h | h
                    · exact a4 h
                    · have h : _ ≤ b := h; have := HWX.out; omega),
              by simp; omega, HBK4.out⟩
            rw [← hw24]
            clear hw24 hHeld e0 e1 e2 k0 k1 k2
            go_wp2_with fail
            go_ret2
            exact .inr ⟨HER0.out, HCZ.out, rfl, ⟨_, _, HEND.out⟩, HALL.out⟩
  · have he : dErr D kind ls = chk kind ls := by unfold dErr; rw [if_pos hc]
    have hcz : (chk kind ls != 0) = true := by simpa using hc
    have HE : Hid (∀ w', Only (fun _ => False) w w' → RPostAt AB S p op vL vW D kind a n c ls w (.returned (.tuple #[.int .i64 0, .int .i64 (chk kind ls)])) w') := Lib.hid (fun w' ho => .inl ⟨by rw [he]; exact hc, by rw [he], ho⟩)
    generalize chk kind ls = e at *
    clear hr h ha ho1 he HD0 HAY0
    go_enter Tryz.func87, Tryz.ntmps87
    go_upto_region 1 with fail
    simp only [← hw1, ← hq3]
    clear hw1 hq3
    go_wp2_with fail
    refine HCK.out.mono ?_
    rintro _ w2 ⟨rfl, ho⟩
    have HO2 := Lib.hid (HO1.out.trans ho)
    clear ho HCK k0 k1
    go_wp2_with fail
    go_ret2
    exact HE.out _ HO2.out
end Go.Proofs.YtkbaafgaaiekpaaGreat.dkw
