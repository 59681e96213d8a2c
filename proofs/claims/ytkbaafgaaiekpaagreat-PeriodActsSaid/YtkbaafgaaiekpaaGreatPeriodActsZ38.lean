/- Several texts together: PdC. -/
import Derived.Test.YtkbaafgaaiekpaaGreatPeriodActsZ37
namespace Go.Proofs.YtkbaafgaaiekpaaGreat.pdw
open Go.RowKit mem entm puw
set_option linter.unusedVariables false

structure PDS (Sp Sd : Nat → Prop) (base p q pb pj n op : Nat) (A : List fnd.Ac) (C : AcC → Option (List Int)) (L : List jnw.Ps) (vL vW : Value) (D : List jnw.Es) (w : World) : Prop where
  pv : Pv Sp w p pb pj A n op C L
  dk : dkw.DkAt A Sd w q vL vW op D
  lk : lkc.Lk op C L D
  sq : L.map pq = D.map dq
  ag : Agree A op C
  ap : ∀ k, Sp k → base ≤ k ∧ ¬ Sd k
  ad : ∀ k, Sd k → base ≤ k ∧ k < w.heap.size
def PD (base p q n : Nat) (w : World) : Prop := ∃ Sp Sd pb pj op A C L vL vW D, PDS Sp Sd base p q pb pj n op A C L vL vW D w
section
variable {Sp Sd : Nat → Prop} {base p q pb pj n op : Nat} {A : List fnd.Ac} {C : AcC → Option (List Int)} {L : List jnw.Ps} {vL vW : Value} {D : List jnw.Es} {w : World}
theorem PDS.len (h : PDS Sp Sd base p q pb pj n op A C L vL vW D w) : L.length = D.length := by
  have := congrArg List.length h.sq
  simpa using this
theorem PDS.only {T : Nat → Prop} {w' : World} (h : PDS Sp Sd base p q pb pj n op A C L vL vW D w) (ho : Only T w w') (hT : ∀ k, T k → ¬ Sp k ∧ ¬ Sd k) : PDS Sp Sd base p q pb pj n op A C L vL vW D w' :=
  ⟨h.pv.only ho (fun k s t => (hT k t).1 s), h.dk.only ho (fun k s t => (hT k t).2 s), h.lk, h.sq, h.ag, h.ap, fun k s => ⟨(h.ad k s).1, by have := (h.ad k s).2; have := ho.size; omega⟩⟩
theorem PDS.quiet {w' : World} (h : PDS Sp Sd base p q pb pj n op A C L vL vW D w) (ho : Only (fun _ => False) w w') : PDS Sp Sd base p q pb pj n op A C L vL vW D w' := h.only ho (fun _ f => f.elim)
theorem PDS.gb (h : PDS Sp Sd base p q pb pj n op A C L vL vW D w) : GB D op (9007199254740992 * (n : Int)) := ⟨C, L, h.lk, h.pv.bd⟩
end
theorem PD.quiet {base p q n : Nat} {w w' : World} (h : PD base p q n w) (ho : Only (fun _ => False) w w') : PD base p q n w' := by
  obtain ⟨Sp, Sd, pb, pj, op, A, C, L, vL, vW, D, h⟩ := h
  exact ⟨Sp, Sd, pb, pj, op, A, C, L, vL, vW, D, h.quiet ho⟩
section
variable {Sp Sd : Nat → Prop} {base p q pb pj n op : Nat} {A : List fnd.Ac} {C : AcC → Option (List Int)} {L : List jnw.Ps} {vL vW : Value} {D : List jnw.Es} {w : World}
theorem rno_is (h : PDS Sp Sd base p q pb pj n op A C L vL vW D w) {k m gr er : Int} {path : List Int} (hn : RNo D k m gr path er) : PoNo C k m gr path er := by
  rcases hn with e | ⟨h1, ls, h2, h3, ⟨h4, e⟩ | ⟨h4, e⟩⟩
  · exact .inl e
  · exact .inr ⟨h1, ls, h2, h3, .inl ⟨h4, e⟩⟩
  · exact .inr ⟨h1, ls, h2, h3, .inr ⟨h4, by rw [e, h.lk.err h.pv.pu.opl (fun a => (h.pv.bd a).1)]⟩⟩
theorem ryes_is (h : PDS Sp Sd base p q pb pj n op A C L vL vW D w) {k m gr : Int} {path : List Int} {ls : List Lg} (hy : RYes D k m gr path ls) : PoYes C k m gr path ls :=
  ⟨hy.1, hy.2.1, hy.2.2.1, hy.2.2.2.1, by rw [h.lk.err h.pv.pu.opl (fun a => (h.pv.bd a).1)]; exact hy.2.2.2.2⟩
theorem both_step (h : PDS Sp Sd base p q pb pj n op A C L vL vW D w) (hn : n ≤ 120) {kind m gr E : Int} {path : List Int} {A' : List fnd.Ac} {e : Ending} {w1 : World}
    (hm : MvR Sp w p pb pj A op C L kind m gr path A' E e w1) (hg : E = 0 → puw.Good kind m 1 path) (hA : E ≠ 0 → A' = A) (hag : E = 0 → ∀ {ls : List Lg}, PoYes C kind m gr path ls → Agree A' op (jnw.addC C op ls)) :
    e = .returned (.int .i64 (fE kind gr E)) ∧ Only Sp w w1 ∧ dkw.DkAt A Sd w1 q vL vW op D ∧ (∀ k, Sd k → k < w1.heap.size) ∧
    ∀ e2 w2, RMv Sd w1 q A A' op D kind m gr path E e2 w2 → e2 = .returned (.int .i64 (fE kind gr E)) ∧ Only Sd w1 w2 ∧ PD base p q (n + 1) w2 := by
  have hB : 9007199254740992 * (n : Int) + 9007199254740992 ≤ 1152921504606846976 := by omega
  obtain ⟨he, ho, hc⟩ := hm.all h.pv.bd hB hg
  have hs := ho.size
  have hdk : dkw.DkAt A Sd w1 q vL vW op D := h.dk.only ho (fun k s t => (h.ap k t).2 s)
  refine ⟨he, ho, hdk, fun k s => by have := (h.ad k s).2; omega, fun e2 w2 hr => ?_⟩
  have hs2 := hr.only.size
  have hap : ∀ k, (Sp k ∨ w.heap.size ≤ k) ∧ k < w1.heap.size → base ≤ k ∧ ¬ Sd k := fun k hk => by
    have hb := (h.ad q h.dk.sp)
    refine ⟨?_, fun e => ?_⟩
    · rcases hk.1 with s | s
      · exact (h.ap k s).1
      · omega
    · have := (h.ad k e).2
      rcases hk.1 with s | s
      · exact (h.ap k s).2 e
      · omega
  rcases hr with ⟨er, h1, rfl, ⟨vL2, vW2, h3⟩, h4, h5⟩ | ⟨h1, rfl, ls, x, h3, h4, h5, h6, ⟨vL2, vW2, h7⟩, h8⟩
  · have her : er = fE kind gr E := by
      rcases h5 with e | ⟨e, hno⟩
      · rw [e]; exact (fE_ne (by rw [← e]; exact h1)).symm
      · rw [e]; exact (rno_is h hno).is (hg e) h.pv.bd hB h1
    refine ⟨by rw [her], h4, ?_⟩
    rcases hc with ⟨_, hp⟩ | ⟨hz, _⟩
    · have hp2 : Pv Sp w1 p pb pj A n op C L := ⟨hp, h.pv.bd, h.pv.ln, fun k s => by have := h.pv.lt k s; omega⟩
      exact ⟨Sp, Sd, pb, pj, op, A, C, L, vL2, vW2, D, (hp2.only h4 (fun k s t => (h.ap k s).2 t)).up (by omega), h3, h.lk, h.sq, h.ag, h.ap, fun k s => ⟨(h.ad k s).1, by have := (h.ad k s).2; omega⟩⟩
    · exact absurd (her.trans hz) h1
  · have hy := ryes_is h h3
    have hz : fE kind gr E = 0 := by rw [fE_ok (hy.grp (hg h1))]; exact h1
    refine ⟨by rw [hz], h8, ?_⟩
    rcases hc with ⟨hne, _⟩ | ⟨_, ls2, y, g1, g2, g3, g4, g5, g6⟩
    · exact absurd hz hne
    · obtain rfl := g1.same hy
      obtain ⟨xk, xa, xn, xc, xp, xl⟩ := x
      obtain ⟨yk, yg, yn, yc, yp, yl⟩ := y
      dsimp only at h4 h5 h6 g2 g3 g4
      subst h4 h5 h6 g2 g3 g4
      have hpv : Pv (fun k => (Sp k ∨ w.heap.size ≤ k) ∧ k < w1.heap.size) w1 p pb pj A' (n + 1) yp (jnw.addC C yp yl) (L ++ [⟨yk, yg, yn, yc, yp, yl⟩]) :=
        ⟨g5.mono (fun k hk s => ⟨s, hk⟩), g6.mono (by omega), by rw [List.length_append]; have := h.pv.ln; simp; omega, fun k s => s.2⟩
      have hlk := h.lk.add h.pv.pu.opl (fun a => (h.pv.bd a).1) yl yk yg yn yc xa xn xc
      exact ⟨_, fun k => (Sd k ∨ w1.heap.size ≤ k) ∧ k < w2.heap.size, pb, pj, yp, A', _, _, vL2, vW2, _, hpv.only h8 (fun k s t => (hap k s).2 t), h7.monoS (fun k hk s => ⟨s, hk⟩), hlk, by rw [List.map_append, List.map_append, h.sq]; rfl, hag h1 g1, fun k s => ⟨(hap k s).1, fun e => by
        rcases e.1 with e | e
        · exact (hap k s).2 e
        · have := s.2; omega⟩, fun k s => ⟨by
        rcases s.1 with e | e
        · exact (h.ad k e).1
        · have := (h.ad q h.dk.sp); omega, s.2⟩⟩
def BothR (Sp Sd : Nat → Prop) (base p q n : Nat) (w : World) (fn : FuncId) (args : Array Value) (e : Ending) (w1 : World) : Prop :=
  ∃ er : Int, e = .returned (.int .i64 er) ∧ Only Sp w w1 ∧ Calls Tryz.prog fn args w1 fun e2 w2 => e2 = .returned (.int .i64 er) ∧ Only Sd w1 w2 ∧ PD base p q (n + 1) w2
theorem DLen (h : PDS Sp Sd base p q pb pj n op A C L vL vW D w) (hn : n ≤ 120) : D.length < 16384 := by
  have h1 := h.len
  have h2 := h.pv.ln
  omega
theorem PDS.top (h : PDS Sp Sd base p q pb pj n op A C L vL vW D w) (hn : n ≤ 120) (k x : Int) (hk : entw.InI k) :
    Calls Tryz.prog 10 #[.pointer (some ⟨p, 0, none⟩), .int .i64 k, .int .i64 x] w (BothR Sp Sd base p q n w 52 #[.pointer (some ⟨q, 0, none⟩), .int .i64 k, .int .i64 x]) := by
  refine (ptop_any k x w h.pv.pu h.pv.lt (by have := h.pv.ln; omega) hk).mono ?_
  intro e w1 hm
  obtain ⟨he, ho, hd, hs, hr⟩ := both_step h hn hm (fun e => (good_top h.pv.pu.bok.len e).one') (fun e => by unfold fnd.topA; rw [if_neg e]) (fun he {ls} hy => by
    have hno : fnd.NodeOk k := by
      unfold fnd.topE at he
      by_cases e : fnd.NodeOk k ∧ fnd.AmtOk x
      · exact e.1
      · rw [if_neg e] at he; exact absurd he (by decide)
    unfold fnd.NodeOk at hno
    obtain ⟨m, rfl⟩ : ∃ m : Nat, k = (m : Int) := ⟨k.toNat, by omega⟩
    exact h.ag.top h.pv.bd (by omega) h.pv.pu.opl (by omega) hy he)
  exact ⟨_, he, ho, (top_any k x hk w1 hd h.pv.pu.bok (DLen h hn) hs).mono (fun e2 w2 hm2 => hr e2 w2 hm2)⟩
theorem PDS.hold (h : PDS Sp Sd base p q pb pj n op A C L vL vW D w) (hn : n ≤ 120) (a : Option Addr) (len cap : Nat) (l : List Int) (a2 : Option Addr) (m2 c2 : Nat) (ls : List Int) (x : Int) (hr : ReadsI w a len l) (hlc : len ≤ cap) (hcm : cap ≤ 9223372036854775807) (hr2 : ReadsI w a2 m2 ls) (ha : ∀ y, a = some y → ¬ Sp y.block ∧ ¬ Sd y.block) (ha2 : ∀ y, a2 = some y → ¬ Sp y.block) :
    Calls Tryz.prog 11 #[.pointer (some ⟨p, 0, none⟩), .slice a len cap, .slice a2 m2 c2, .int .i64 x] w (BothR Sp Sd base p q n w 53 #[.pointer (some ⟨q, 0, none⟩), .slice a len cap, .slice a2 m2 c2, .int .i64 x]) := by
  refine (phold_any a len cap l a2 m2 c2 ls x w h.pv.pu h.pv.lt (by have := h.pv.ln; omega) hr hlc hcm hr2 (fun y hy => (ha y hy).1)).mono ?_
  intro e w1 hm
  obtain ⟨he, ho, hd, hs, hq⟩ := both_step h hn hm (fun e => (good_hold e).one') (fun e => by unfold fnd.holdA; rw [if_neg e]) (fun he {lz} hy => by
    have e : fnd.holdA A l ls x = fnd.shT A l x 0 := by unfold fnd.holdA; rw [if_pos he]
    rw [e]
    exact shA_agree h.pv h.ag (by omega) (by omega) (hold_ok he) hy)
  exact ⟨_, he, ho, (hol_any a len cap l a2 m2 c2 ls x w1 hd h.pv.pu.bok (DLen h hn) hs (hr.only ho (fun y hy => (ha y hy).1)) hlc (fun y hy e => (ha y hy).2 (by rw [e]; exact h.dk.sp)) (hr2.only ho (fun y hy => ha2 y hy))).mono (fun e2 w2 hm2 => hq e2 w2 hm2)⟩
theorem PDS.rel (h : PDS Sp Sd base p q pb pj n op A C L vL vW D w) (hn : n ≤ 120) (a : Option Addr) (len cap : Nat) (l : List Int) (x : Int) (hr : ReadsI w a len l) (hlc : len ≤ cap) (hcm : cap ≤ 9223372036854775807) (ha : ∀ y, a = some y → ¬ Sp y.block ∧ ¬ Sd y.block) :
    Calls Tryz.prog 12 #[.pointer (some ⟨p, 0, none⟩), .slice a len cap, .int .i64 x] w (BothR Sp Sd base p q n w 54 #[.pointer (some ⟨q, 0, none⟩), .slice a len cap, .int .i64 x]) := by
  refine (prel_any a len cap l x w h.pv.pu h.pv.lt (by have := h.pv.ln; omega) hr hlc hcm (fun y hy => (ha y hy).1)).mono ?_
  intro e w1 hm
  obtain ⟨he, ho, hd, hs, hq⟩ := both_step h hn hm (fun e => good_sh (k := 3) (gr := 1) (by omega) (by omega) (fun _ => by omega) e) (fun e => by unfold fnd.shA; rw [if_neg e]) (fun he {lz} hy => by
    have e : fnd.shA A l x (-x) 0 = fnd.shT A l (-x) 0 := by unfold fnd.shA; rw [if_pos he]
    rw [e]
    exact shA_agree h.pv h.ag (by omega) (by omega) (sh_ok he) hy)
  exact ⟨_, he, ho, (rel_any a len cap l x w1 hd h.pv.pu.bok (DLen h hn) hs (hr.only ho (fun y hy => (ha y hy).1)) hlc (fun y hy e => (ha y hy).2 (by rw [e]; exact h.dk.sp))).mono (fun e2 w2 hm2 => hq e2 w2 hm2)⟩
theorem PDS.com (h : PDS Sp Sd base p q pb pj n op A C L vL vW D w) (hn : n ≤ 120) (a : Option Addr) (len cap : Nat) (l : List Int) (x gr : Int) (hgr : entw.InI gr) (hr : ReadsI w a len l) (hlc : len ≤ cap) (hcm : cap ≤ 9223372036854775807) (ha : ∀ y, a = some y → ¬ Sp y.block ∧ ¬ Sd y.block) :
    Calls Tryz.prog 13 #[.pointer (some ⟨p, 0, none⟩), .slice a len cap, .int .i64 x, .int .i64 gr] w (BothR Sp Sd base p q n w 55 #[.pointer (some ⟨q, 0, none⟩), .slice a len cap, .int .i64 x, .int .i64 gr]) := by
  refine (pcom_any a len cap l x gr w h.pv.pu h.pv.lt (by have := h.pv.ln; omega) hr hlc hcm (fun y hy => (ha y hy).1) hgr).mono ?_
  intro e w1 hm
  obtain ⟨he, ho, hd, hs, hq⟩ := both_step h hn hm (fun e => good_sh (k := 4) (gr := 1) (by omega) (by omega) (fun _ => by omega) e) (fun e => by unfold fnd.shA; rw [if_neg e]) (fun he {lz} hy => by
    have e : fnd.shA A l x (-x) x = fnd.shT A l (-x) x := by unfold fnd.shA; rw [if_pos he]
    rw [e]
    have hgg := hy.grp (good_sh (gr := 1) (k := 4) (by omega) (by omega) (fun _ => by omega) he)
    exact shA_agree h.pv h.ag (by omega) (by omega) (sh_ok he) hy)
  exact ⟨_, he, ho, (com_any a len cap l x gr hgr w1 hd h.pv.pu.bok (DLen h hn) hs (hr.only ho (fun y hy => (ha y hy).1)) hlc (fun y hy e => (ha y hy).2 (by rw [e]; exact h.dk.sp))).mono (fun e2 w2 hm2 => hq e2 w2 hm2)⟩
theorem PDS.ref (h : PDS Sp Sd base p q pb pj n op A C L vL vW D w) (hn : n ≤ 120) (a : Option Addr) (len cap : Nat) (l : List Int) (x gr : Int) (hgr : entw.InI gr) (hr : ReadsI w a len l) (hlc : len ≤ cap) (hcm : cap ≤ 9223372036854775807) (ha : ∀ y, a = some y → ¬ Sp y.block ∧ ¬ Sd y.block) :
    Calls Tryz.prog 14 #[.pointer (some ⟨p, 0, none⟩), .slice a len cap, .int .i64 x, .int .i64 gr] w (BothR Sp Sd base p q n w 56 #[.pointer (some ⟨q, 0, none⟩), .slice a len cap, .int .i64 x, .int .i64 gr]) := by
  refine (pref_any a len cap l x gr w h.pv.pu h.pv.lt (by have := h.pv.ln; omega) hr hlc hcm (fun y hy => (ha y hy).1) hgr).mono ?_
  intro e w1 hm
  obtain ⟨he, ho, hd, hs, hq⟩ := both_step h hn hm (fun e => good_sh (k := 6) (gr := 1) (by omega) (by omega) (fun _ => by omega) e) (fun e => by unfold fnd.shA; rw [if_neg e]) (fun he {lz} hy => by
    have e : fnd.shA A l x 0 (-x) = fnd.shT A l 0 (-x) := by unfold fnd.shA; rw [if_pos he]
    rw [e]
    have hgg := hy.grp (good_sh (gr := 1) (k := 6) (by omega) (by omega) (fun _ => by omega) he)
    exact shA_agree h.pv h.ag (by omega) (by omega) (sh_ok he) hy)
  exact ⟨_, he, ho, (ref_any a len cap l x gr hgr w1 hd h.pv.pu.bok (DLen h hn) hs (hr.only ho (fun y hy => (ha y hy).1)) hlc (fun y hy e => (ha y hy).2 (by rw [e]; exact h.dk.sp))).mono (fun e2 w2 hm2 => hq e2 w2 hm2)⟩
def RollB (Sp Sd : Nat → Prop) (base p q n : Nat) (w : World) (fn : FuncId) (args : Array Value) (e : Ending) (w1 : World) : Prop :=
  ∃ s er : Int, e = .returned (.tuple #[.int .i64 s, .int .i64 er]) ∧ Only Sp w w1 ∧ Calls Tryz.prog fn args w1 fun e2 w2 => e2 = .returned (.tuple #[.int .i64 s, .int .i64 er]) ∧ Only Sd w1 w2 ∧ PD base p q (n + 1) w2
theorem PDS.roll (h : PDS Sp Sd base p q pb pj n op A C L vL vW D w) (hn : n ≤ 120) (a : Option Addr) (cap : Nat) (carry : List Int) (hr : ReadsI w a carry.length carry) (ha : ∀ y, a = some y → ¬ Sp y.block ∧ ¬ Sd y.block) :
    Calls Tryz.prog 7 #[.pointer (some ⟨p, 0, none⟩), .slice a carry.length cap] w (RollB Sp Sd base p q n w 57 #[.pointer (some ⟨q, 0, none⟩), .slice a carry.length cap]) := by
  have hlen := h.len
  have hln := h.pv.ln
  have hR : ∀ w1, Only Sp w w1 → Calls Tryz.prog 57 #[.pointer (some ⟨q, 0, none⟩), .slice a carry.length cap] w1 (RRoll Sd w1 q A op D carry) := fun w1 ho =>
    roll_any a cap carry w1 (h.dk.only ho (fun k s t => (h.ap k t).2 s)) h.pv.pu.bok h.gb (by omega) (by omega) (fun k s => by have := (h.ad k s).2; have := ho.size; omega) (hr.only ho (fun y hy => (ha y hy).1)) (fun y hy => (ha y hy).2)
  refine (proll2_any a cap carry w h.pv hn hr (fun y hy => (ha y hy).1)).mono ?_
  rintro e w1 (⟨h31, rfl, ho⟩ | ⟨h31, rfl, ho, S', xs, ys, g1, g2, g3, g4, g5⟩)
  · have hoS : Only Sp w w1 := ho.mono (fun _ _ f => f.elim)
    refine ⟨_, _, rfl, hoS, (hR w1 hoS).mono ?_⟩
    rintro e2 w2 (⟨_, rfl, ho2, vL2, vW2, hd2⟩ | ⟨hlt, _⟩)
    · have hs := ho.size
      have hs2 := ho2.size
      exact ⟨rfl, ho2, Sp, Sd, pb, pj, op, A, C, L, vL2, vW2, D, ((h.pv.quiet ho).only ho2 (fun k s t => (h.ap k s).2 t)).up (by omega), hd2, h.lk, h.sq, h.ag, h.ap, fun k s => ⟨(h.ad k s).1, by have := (h.ad k s).2; omega⟩⟩
    · omega
  · refine ⟨_, _, rfl, ho, (hR w1 ho).mono ?_⟩
    rintro e2 w2 (⟨hge, _⟩ | ⟨_, rfl, ho2, zs, hz, vL2, vW2, hd2⟩)
    · omega
    · have hs := ho.size
      have hs2 := ho2.size
      have hX : Xs xs = pK A carry 32 := g2
      have hys : ys.map pq = (pK A carry 32).map (exQ op) := by
        rw [g3, ← hX]
        unfold Xs
        rw [List.map_map]
        rfl
      have hfl : flatX xs = flatP (pK A carry 32) := by rw [flatX_P, hX]
      have hlk : lkc.Lk op (jnw.addC C op (flatX xs)) (L ++ ys) (D ++ zs) := by
        rw [hfl]
        exact Lk_rows h.pv.pu.opl (pK A carry 32) ys zs h.lk (fun a => (h.pv.bd a).1) hys hz
      have hag : Agree (fK A carry 32).1 (op + 1) (jnw.addC C op (flatX xs)) := h.ag.roll h.pv.pu.bok.z h.pv.bd (by omega) h.pv.pu.opl g2 (fun x hx => (g4 x hx).2)
      have hb := h.ad q h.dk.sp
      have hap : ∀ k, S' k → base ≤ k ∧ ¬ Sd k := fun k hk => by
        rcases g1 k hk with s | s
        · exact h.ap k s
        · exact ⟨by omega, fun e => by have := (h.ad k e).2; omega⟩
      refine ⟨rfl, ho2, S', fun k => (Sd k ∨ w1.heap.size ≤ k) ∧ k < w2.heap.size, pb, pj, op + 1, (fK A carry 32).1, _, _, vL2, vW2, D ++ zs, g5.only ho2 (fun k s t => (hap k s).2 t), hd2.monoS (fun k hk s => ⟨s, hk⟩), hlk.close, ?_, hag, fun k s => ⟨(hap k s).1, fun e => ?_⟩, fun k s => ⟨?_, s.2⟩⟩
      · rw [List.map_append, List.map_append, h.sq, hys, hz]
      · rcases e.1 with e | e
        · exact (hap k s).2 e
        · have := g5.lt k s; omega
      · rcases s.1 with e | e
        · exact (h.ad k e).1
        · omega
end
end Go.Proofs.YtkbaafgaaiekpaaGreat.pdw
