/- Several texts together: PdC, PdQ. -/
import Derived.Test.YtkbaafgaaiekpaaGreatPeriodRestoresZ1
import Derived.Test.YtkbaafgaaiekpaaGreatPeriodRestoresZ37
open List (getElem_toArray getElem_cons_zero getElem_cons_succ setIfInBounds_toArray set_cons_zero set_cons_succ)
open Go.Lib (hid)
namespace Go.Proofs.YtkbaafgaaiekpaaGreat.pdw
open Go.RowKit mem entm puw
set_option linter.unusedVariables false
def Rp (D : List jnw.Es) : Prop := ∀ k, k < D.length → jnw.dErr (D.take k) (D.getD k default).kd (D.getD k default).ls = 0 ∧ ∀ y ∈ D.take k, y.per ≤ (D.getD k default).per
theorem Rp.nil : Rp [] := fun k hk => absurd hk (Nat.not_lt_zero k)
theorem getD_mem {zs : List jnw.Es} {j : Nat} (hj : j < zs.length) : zs.getD j default ∈ zs := by
  rw [List.getD_eq_getElem?_getD, List.getElem?_eq_getElem hj]; exact List.getElem_mem hj
theorem Rp.app {D zs : List jnw.Es} {op : Nat} (h : Rp D) (hle : ∀ x ∈ D, x.per ≤ op) (hz : ∀ j, j < zs.length → jnw.dErr (D ++ zs.take j) (zs.getD j default).kd (zs.getD j default).ls = 0) (hp : ∀ z ∈ zs, z.per = op) : Rp (D ++ zs) := by
  intro k hk; by_cases e : k < D.length
  · have e1 : (D ++ zs).take k = D.take k := List.take_append_of_le_length (by omega); have e2 : (D ++ zs).getD k default = D.getD k default := by
      simp only [List.getD]; rw [List.getElem?_append_left e]
    rw [e1, e2]; exact h k e
  · obtain ⟨j, rfl⟩ : ∃ j, k = D.length + j := ⟨k - D.length, by omega⟩; have hj : j < zs.length := (by rw [List.length_append] at hk; omega); have e1 : (D ++ zs).take (D.length + j) = D ++ zs.take j := by
      rw [List.take_append, List.take_of_length_le (by omega)]; congr 2; omega
    have e2 : (D ++ zs).getD (D.length + j) default = zs.getD j default := by
      simp only [List.getD]; rw [List.getElem?_append_right (by omega)]; congr 2; omega
    rw [e1, e2]; refine ⟨hz j hj, fun y hy => ?_⟩; rw [hp _ (getD_mem hj)]; rcases List.mem_append.1 hy with h1 | h1
    · exact hle y h1
    · exact Nat.le_of_eq (hp y (List.mem_of_mem_take h1))
theorem GB.rowsT {D : List jnw.Es} {op : Nat} {B : Int} (h : GB D op B) (hop : op < 32) (hB : B ≤ 1152921504606846976) (ps : List (Int × Int)) (hn : (ps.map Prod.fst).Nodup) (ha : ∀ p ∈ ps, 1 ≤ p.2 ∧ p.2 ≤ 9007199254740992) {zs : List jnw.Es} (hz : zs.map dq = ps.map (exQ op)) : GB (D ++ zs) op (B + 9007199254740992) := by
  obtain ⟨C, L, h1, h2⟩ := h; refine ⟨_, L ++ zs.map (fun z => ⟨z.kd, 0, 0, 0, z.per, z.ls⟩), Lk_rows hop ps _ zs h1 (fun a => (h2 a).1) ?_ hz, ?_⟩
  · rw [List.map_map, ← hz]
    rfl
  · rw [flatP_X]; refine bnd_add h2 hB hop (flatX_nodup _ ?_) (flatX_amt (fun x hx => ?_))
    · rw [List.map_map]; exact hn
    · obtain ⟨p, hp, rfl⟩ := List.mem_map.1 hx; exact ha p hp
structure PDS (Sp Sd : Nat → Prop) (base p q pb pj n op : Nat) (A : List fnd.Ac) (C : AcC → Option (List Int)) (L : List jnw.Ps) (vL vW : Value) (D : List jnw.Es) (w : World) : Prop where
  pv : Pv Sp w p pb pj A n op C L
  dk : dkw.DkAt A Sd w q vL vW op D
  lk : lkc.Lk op C L D
  sq : L.map pq = D.map dq
  ag : Agree A op C
  ap : ∀ k, Sp k → base ≤ k ∧ ¬ Sd k
  ad : ∀ k, Sd k → base ≤ k ∧ k < w.heap.size
  rp : Rp D
def PD (base p q n : Nat) (w : World) : Prop := ∃ Sp Sd pb pj op A C L vL vW D, PDS Sp Sd base p q pb pj n op A C L vL vW D w
section
variable {Sp Sd : Nat → Prop} {base p q pb pj n op : Nat} {A : List fnd.Ac} {C : AcC → Option (List Int)} {L : List jnw.Ps} {vL vW : Value} {D : List jnw.Es} {w : World}
theorem PDS.len (h : PDS Sp Sd base p q pb pj n op A C L vL vW D w) : L.length = D.length := by
  have := congrArg List.length h.sq
  simpa using this
theorem PDS.only {T : Nat → Prop} {w' : World} (h : PDS Sp Sd base p q pb pj n op A C L vL vW D w) (ho : Only T w w') (hT : ∀ k, T k → ¬ Sp k ∧ ¬ Sd k) : PDS Sp Sd base p q pb pj n op A C L vL vW D w' :=
  ⟨h.pv.only ho (fun k s t => (hT k t).1 s), h.dk.only ho (fun k s t => (hT k t).2 s), h.lk, h.sq, h.ag, h.ap, fun k s => ⟨(h.ad k s).1, by have := (h.ad k s).2; have := ho.size; omega⟩, h.rp⟩
theorem PDS.quiet {w' : World} (h : PDS Sp Sd base p q pb pj n op A C L vL vW D w) (ho : Only (fun _ => False) w w') : PDS Sp Sd base p q pb pj n op A C L vL vW D w' := h.only ho (fun _ f => f.elim)
theorem PDS.gb (h : PDS Sp Sd base p q pb pj n op A C L vL vW D w) : GB D op (9007199254740992 * (n : Int)) := ⟨C, L, h.lk, h.pv.bd⟩
end
theorem PD.quiet {base p q n : Nat} {w w' : World} (h : PD base p q n w) (ho : Only (fun _ => False) w w') : PD base p q n w' := by
  obtain ⟨Sp, Sd, pb, pj, op, A, C, L, vL, vW, D, h⟩ := h; exact ⟨Sp, Sd, pb, pj, op, A, C, L, vL, vW, D, h.quiet ho⟩
section
variable {Sp Sd : Nat → Prop} {base p q pb pj n op : Nat} {A : List fnd.Ac} {C : AcC → Option (List Int)} {L : List jnw.Ps} {vL vW : Value} {D : List jnw.Es} {w : World}
theorem rno_is (h : PDS Sp Sd base p q pb pj n op A C L vL vW D w) {k m gr er : Int} {path : List Int} (hn : RNo D k m gr path er) : PoNo C k m gr path er := by
  rcases hn with e | ⟨h1, ls, h2, h3, ⟨h4, e⟩ | ⟨h4, e⟩⟩
  · exact .inl e
  · exact .inr ⟨h1, ls, h2, h3, .inl ⟨h4, e⟩⟩
  · exact .inr ⟨h1, ls, h2, h3, .inr ⟨h4, by rw [e, h.lk.err h.pv.pu.opl (fun a => (h.pv.bd a).1)]⟩⟩
theorem ryes_is (h : PDS Sp Sd base p q pb pj n op A C L vL vW D w) {k m gr : Int} {path : List Int} {ls : List Lg} (hy : RYes D k m gr path ls) : PoYes C k m gr path ls :=
  ⟨hy.1, hy.2.1, hy.2.2.1, hy.2.2.2.1, by rw [h.lk.err h.pv.pu.opl (fun a => (h.pv.bd a).1)]; exact hy.2.2.2.2⟩
theorem both_step (h : PDS Sp Sd base p q pb pj n op A C L vL vW D w) (hn : n ≤ 120) {kind m gr E : Int} {path : List Int} {A' : List fnd.Ac} {e : Ending} {w1 : World}
    (hm : MvR Sp w p pb pj A op C L kind m gr path A' E e w1) (hg : E = 0 → puw.Good kind m 1 path) (hA : E ≠ 0 → A' = A) (hag : E = 0 → ∀ {ls : List Lg}, PoYes C kind m gr path ls → Agree A' op (jnw.addC C op ls)) :
    e = .returned (.int .i64 (fE kind gr E)) ∧ Only Sp w w1 ∧ dkw.DkAt A Sd w1 q vL vW op D ∧ (∀ k, Sd k → k < w1.heap.size) ∧
    ∀ e2 w2, RMv Sd w1 q A A' op D kind m gr path E e2 w2 → e2 = .returned (.int .i64 (fE kind gr E)) ∧ Only Sd w1 w2 ∧ PD base p q (n + 1) w2 := by
  have hB : 9007199254740992 * (n : Int) + 9007199254740992 ≤ 1152921504606846976 := (by omega); obtain ⟨he, ho, hc⟩ := hm.all h.pv.bd hB hg; have hs := ho.size; have hdk : dkw.DkAt A Sd w1 q vL vW op D := h.dk.only ho (fun k s t => (h.ap k t).2 s); refine ⟨he, ho, hdk, fun k s => by have := (h.ad k s).2; omega, fun e2 w2 hr => ?_⟩; have hs2 := hr.only.size; have hap : ∀ k, (Sp k ∨ w.heap.size ≤ k) ∧ k < w1.heap.size → base ≤ k ∧ ¬ Sd k := fun k hk => by
    have hb := (h.ad q h.dk.sp); refine ⟨?_, fun e => ?_⟩
    · rcases hk.1 with s | s
      · exact (h.ap k s).1
      · omega
    · have := (h.ad k e).2; rcases hk.1 with s | s
      · exact (h.ap k s).2 e
      · omega
  rcases hr with ⟨er, h1, rfl, ⟨vL2, vW2, h3⟩, h4, h5⟩ | ⟨h1, rfl, ls, x, h3, h4, h5, h6, ⟨vL2, vW2, h7⟩, h8⟩
  · have her : er = fE kind gr E := by
      rcases h5 with e | ⟨e, hno⟩
      · rw [e]; exact (fE_ne (by rw [← e]; exact h1)).symm
      · rw [e]; exact (rno_is h hno).is (hg e) h.pv.bd hB h1
    refine ⟨by rw [her], h4, ?_⟩; rcases hc with ⟨_, hp⟩ | ⟨hz, _⟩
    · have hp2 : Pv Sp w1 p pb pj A n op C L := ⟨hp, h.pv.bd, h.pv.ln, fun k s => by have := h.pv.lt k s; omega⟩; exact ⟨Sp, Sd, pb, pj, op, A, C, L, vL2, vW2, D, (hp2.only h4 (fun k s t => (h.ap k s).2 t)).up (by omega), h3, h.lk, h.sq, h.ag, h.ap, fun k s => ⟨(h.ad k s).1, by have := (h.ad k s).2; omega⟩, h.rp⟩
    · exact absurd (her.trans hz) h1
  · have hy := ryes_is h h3; have hz : fE kind gr E = 0 := (by rw [fE_ok (hy.grp (hg h1))]; exact h1); refine ⟨by rw [hz], h8, ?_⟩; rcases hc with ⟨hne, _⟩ | ⟨_, ls2, y, g1, g2, g3, g4, g5, g6⟩
    · exact absurd hz hne
    · obtain rfl := g1.same hy; obtain ⟨xk, xa, xn, xc, xp, xl⟩ := x; obtain ⟨yk, yg, yn, yc, yp, yl⟩ := y; dsimp only at h4 h5 h6 g2 g3 g4; subst h4 h5 h6 g2 g3 g4; have hpv : Pv (fun k => (Sp k ∨ w.heap.size ≤ k) ∧ k < w1.heap.size) w1 p pb pj A' (n + 1) yp (jnw.addC C yp yl) (L ++ [⟨yk, yg, yn, yc, yp, yl⟩]) :=
        ⟨g5.mono (fun k hk s => ⟨s, hk⟩), g6.mono (by omega), by rw [List.length_append]; have := h.pv.ln; simp; omega, fun k s => s.2⟩
      have hlk := h.lk.add h.pv.pu.opl (fun a => (h.pv.bd a).1) yl yk yg yn yc xa xn xc; exact ⟨_, fun k => (Sd k ∨ w1.heap.size ≤ k) ∧ k < w2.heap.size, pb, pj, yp, A', _, _, vL2, vW2, _, hpv.only h8 (fun k s t => (hap k s).2 t), h7.monoS (fun k hk s => ⟨s, hk⟩), hlk, by rw [List.map_append, List.map_append, h.sq]; rfl, hag h1 g1, fun k s => ⟨(hap k s).1, fun e => by
        rcases e.1 with e | e
        · exact (hap k s).2 e
        · have := s.2; omega⟩, fun k s => ⟨by
        rcases s.1 with e | e
        · exact (h.ad k e).1
        · have := (h.ad q h.dk.sp); omega, s.2⟩, h.rp.app h.lk.le (fun j hj => by
        obtain rfl : j = 0 := (by (simp at hj; omega)); show jnw.dErr (D ++ []) yk yl = 0; rw [List.append_nil]; exact h3.2.2.2.2) (fun z hz => by rw [List.mem_singleton] at hz; rw [hz])⟩
def BothR (Sp Sd : Nat → Prop) (base p q n : Nat) (w : World) (fn : FuncId) (args : Array Value) (e : Ending) (w1 : World) : Prop :=
  ∃ er : Int, e = .returned (.int .i64 er) ∧ Only Sp w w1 ∧ Calls Tryz.prog fn args w1 fun e2 w2 => e2 = .returned (.int .i64 er) ∧ Only Sd w1 w2 ∧ PD base p q (n + 1) w2
theorem DLen (h : PDS Sp Sd base p q pb pj n op A C L vL vW D w) (hn : n ≤ 120) : D.length < 16384 := by
  have h1 := h.len; have h2 := h.pv.ln; omega
theorem PDS.top (h : PDS Sp Sd base p q pb pj n op A C L vL vW D w) (hn : n ≤ 120) (k x : Int) (hk : entw.InI k) :
    Calls Tryz.prog 10 #[.pointer (some ⟨p, 0, none⟩), .int .i64 k, .int .i64 x] w (BothR Sp Sd base p q n w 52 #[.pointer (some ⟨q, 0, none⟩), .int .i64 k, .int .i64 x]) := by
  refine (ptop_any k x w h.pv.pu h.pv.lt (by have := h.pv.ln; omega) hk).mono ?_; intro e w1 hm; obtain ⟨he, ho, hd, hs, hr⟩ := both_step h hn hm (fun e => (good_top h.pv.pu.bok.len e).one') (fun e => by unfold fnd.topA; rw [if_neg e]) (fun he {ls} hy => by
    have hno : fnd.NodeOk k := by
      unfold fnd.topE at he; by_cases e : fnd.NodeOk k ∧ fnd.AmtOk x
      · exact e.1
      · rw [if_neg e] at he; exact absurd he (by decide)
    unfold fnd.NodeOk at hno; obtain ⟨m, rfl⟩ : ∃ m : Nat, k = (m : Int) := ⟨k.toNat, by omega⟩; exact h.ag.top h.pv.bd (by omega) h.pv.pu.opl (by omega) hy he)
  exact ⟨_, he, ho, (top_any k x hk w1 hd h.pv.pu.bok (DLen h hn) hs).mono (fun e2 w2 hm2 => hr e2 w2 hm2)⟩
theorem PDS.hold (h : PDS Sp Sd base p q pb pj n op A C L vL vW D w) (hn : n ≤ 120) (a : Option Addr) (len cap : Nat) (l : List Int) (a2 : Option Addr) (m2 c2 : Nat) (ls : List Int) (x : Int) (hr : ReadsI w a len l) (hlc : len ≤ cap) (hcm : cap ≤ 9223372036854775807) (hr2 : ReadsI w a2 m2 ls) (ha : ∀ y, a = some y → ¬ Sp y.block ∧ ¬ Sd y.block) (ha2 : ∀ y, a2 = some y → ¬ Sp y.block) :
    Calls Tryz.prog 11 #[.pointer (some ⟨p, 0, none⟩), .slice a len cap, .slice a2 m2 c2, .int .i64 x] w (BothR Sp Sd base p q n w 53 #[.pointer (some ⟨q, 0, none⟩), .slice a len cap, .slice a2 m2 c2, .int .i64 x]) := by
  refine (phold_any a len cap l a2 m2 c2 ls x w h.pv.pu h.pv.lt (by have := h.pv.ln; omega) hr hlc hcm hr2 (fun y hy => (ha y hy).1)).mono ?_; intro e w1 hm; obtain ⟨he, ho, hd, hs, hq⟩ := both_step h hn hm (fun e => (good_hold e).one') (fun e => by unfold fnd.holdA; rw [if_neg e]) (fun he {lz} hy => by
    have e : fnd.holdA A l ls x = fnd.shT A l x 0 := (by unfold fnd.holdA; rw [if_pos he]); rw [e]; exact shA_agree h.pv h.ag (by omega) (by omega) (hold_ok he) hy)
  exact ⟨_, he, ho, (hol_any a len cap l a2 m2 c2 ls x w1 hd h.pv.pu.bok (DLen h hn) hs (hr.only ho (fun y hy => (ha y hy).1)) hlc (fun y hy e => (ha y hy).2 (by rw [e]; exact h.dk.sp)) (hr2.only ho (fun y hy => ha2 y hy))).mono (fun e2 w2 hm2 => hq e2 w2 hm2)⟩
theorem PDS.rel (h : PDS Sp Sd base p q pb pj n op A C L vL vW D w) (hn : n ≤ 120) (a : Option Addr) (len cap : Nat) (l : List Int) (x : Int) (hr : ReadsI w a len l) (hlc : len ≤ cap) (hcm : cap ≤ 9223372036854775807) (ha : ∀ y, a = some y → ¬ Sp y.block ∧ ¬ Sd y.block) :
    Calls Tryz.prog 12 #[.pointer (some ⟨p, 0, none⟩), .slice a len cap, .int .i64 x] w (BothR Sp Sd base p q n w 54 #[.pointer (some ⟨q, 0, none⟩), .slice a len cap, .int .i64 x]) := by
  refine (prel_any a len cap l x w h.pv.pu h.pv.lt (by have := h.pv.ln; omega) hr hlc hcm (fun y hy => (ha y hy).1)).mono ?_; intro e w1 hm; obtain ⟨he, ho, hd, hs, hq⟩ := both_step h hn hm (fun e => good_sh (k := 3) (gr := 1) (by omega) (by omega) (fun _ => by omega) e) (fun e => by unfold fnd.shA; rw [if_neg e]) (fun he {lz} hy => by
    have e : fnd.shA A l x (-x) 0 = fnd.shT A l (-x) 0 := (by unfold fnd.shA; rw [if_pos he]); rw [e]; exact shA_agree h.pv h.ag (by omega) (by omega) (sh_ok he) hy)
  exact ⟨_, he, ho, (rel_any a len cap l x w1 hd h.pv.pu.bok (DLen h hn) hs (hr.only ho (fun y hy => (ha y hy).1)) hlc (fun y hy e => (ha y hy).2 (by rw [e]; exact h.dk.sp))).mono (fun e2 w2 hm2 => hq e2 w2 hm2)⟩
theorem PDS.com (h : PDS Sp Sd base p q pb pj n op A C L vL vW D w) (hn : n ≤ 120) (a : Option Addr) (len cap : Nat) (l : List Int) (x gr : Int) (hgr : entw.InI gr) (hr : ReadsI w a len l) (hlc : len ≤ cap) (hcm : cap ≤ 9223372036854775807) (ha : ∀ y, a = some y → ¬ Sp y.block ∧ ¬ Sd y.block) :
    Calls Tryz.prog 13 #[.pointer (some ⟨p, 0, none⟩), .slice a len cap, .int .i64 x, .int .i64 gr] w (BothR Sp Sd base p q n w 55 #[.pointer (some ⟨q, 0, none⟩), .slice a len cap, .int .i64 x, .int .i64 gr]) := by
  refine (pcom_any a len cap l x gr w h.pv.pu h.pv.lt (by have := h.pv.ln; omega) hr hlc hcm (fun y hy => (ha y hy).1) hgr).mono ?_; intro e w1 hm; obtain ⟨he, ho, hd, hs, hq⟩ := both_step h hn hm (fun e => good_sh (k := 4) (gr := 1) (by omega) (by omega) (fun _ => by omega) e) (fun e => by unfold fnd.shA; rw [if_neg e]) (fun he {lz} hy => by
    have e : fnd.shA A l x (-x) x = fnd.shT A l (-x) x := (by unfold fnd.shA; rw [if_pos he]); rw [e]; have hgg := hy.grp (good_sh (gr := 1) (k := 4) (by omega) (by omega) (fun _ => by omega) he); exact shA_agree h.pv h.ag (by omega) (by omega) (sh_ok he) hy)
  exact ⟨_, he, ho, (com_any a len cap l x gr hgr w1 hd h.pv.pu.bok (DLen h hn) hs (hr.only ho (fun y hy => (ha y hy).1)) hlc (fun y hy e => (ha y hy).2 (by rw [e]; exact h.dk.sp))).mono (fun e2 w2 hm2 => hq e2 w2 hm2)⟩
theorem PDS.ref (h : PDS Sp Sd base p q pb pj n op A C L vL vW D w) (hn : n ≤ 120) (a : Option Addr) (len cap : Nat) (l : List Int) (x gr : Int) (hgr : entw.InI gr) (hr : ReadsI w a len l) (hlc : len ≤ cap) (hcm : cap ≤ 9223372036854775807) (ha : ∀ y, a = some y → ¬ Sp y.block ∧ ¬ Sd y.block) :
    Calls Tryz.prog 14 #[.pointer (some ⟨p, 0, none⟩), .slice a len cap, .int .i64 x, .int .i64 gr] w (BothR Sp Sd base p q n w 56 #[.pointer (some ⟨q, 0, none⟩), .slice a len cap, .int .i64 x, .int .i64 gr]) := by
  refine (pref_any a len cap l x gr w h.pv.pu h.pv.lt (by have := h.pv.ln; omega) hr hlc hcm (fun y hy => (ha y hy).1) hgr).mono ?_; intro e w1 hm; obtain ⟨he, ho, hd, hs, hq⟩ := both_step h hn hm (fun e => good_sh (k := 6) (gr := 1) (by omega) (by omega) (fun _ => by omega) e) (fun e => by unfold fnd.shA; rw [if_neg e]) (fun he {lz} hy => by
    have e : fnd.shA A l x 0 (-x) = fnd.shT A l 0 (-x) := (by unfold fnd.shA; rw [if_pos he]); rw [e]; have hgg := hy.grp (good_sh (gr := 1) (k := 6) (by omega) (by omega) (fun _ => by omega) he); exact shA_agree h.pv h.ag (by omega) (by omega) (sh_ok he) hy)
  exact ⟨_, he, ho, (ref_any a len cap l x gr hgr w1 hd h.pv.pu.bok (DLen h hn) hs (hr.only ho (fun y hy => (ha y hy).1)) hlc (fun y hy e => (ha y hy).2 (by rw [e]; exact h.dk.sp))).mono (fun e2 w2 hm2 => hq e2 w2 hm2)⟩
def RollB (Sp Sd : Nat → Prop) (base p q n : Nat) (w : World) (fn : FuncId) (args : Array Value) (e : Ending) (w1 : World) : Prop :=
  ∃ s er : Int, e = .returned (.tuple #[.int .i64 s, .int .i64 er]) ∧ Only Sp w w1 ∧ Calls Tryz.prog fn args w1 fun e2 w2 => e2 = .returned (.tuple #[.int .i64 s, .int .i64 er]) ∧ Only Sd w1 w2 ∧ PD base p q (n + 1) w2
theorem PDS.roll (h : PDS Sp Sd base p q pb pj n op A C L vL vW D w) (hn : n ≤ 120) (a : Option Addr) (cap : Nat) (carry : List Int) (hr : ReadsI w a carry.length carry) (ha : ∀ y, a = some y → ¬ Sp y.block ∧ ¬ Sd y.block) :
    Calls Tryz.prog 7 #[.pointer (some ⟨p, 0, none⟩), .slice a carry.length cap] w (RollB Sp Sd base p q n w 57 #[.pointer (some ⟨q, 0, none⟩), .slice a carry.length cap]) := by
  have hlen := h.len; have hln := h.pv.ln; have hR : ∀ w1, Only Sp w w1 → Calls Tryz.prog 57 #[.pointer (some ⟨q, 0, none⟩), .slice a carry.length cap] w1 (RRoll Sd w1 q A op D carry) := fun w1 ho =>
    roll_any a cap carry w1 (h.dk.only ho (fun k s t => (h.ap k t).2 s)) h.pv.pu.bok h.gb (by omega) (by omega) (fun k s => by have := (h.ad k s).2; have := ho.size; omega) (hr.only ho (fun y hy => (ha y hy).1)) (fun y hy => (ha y hy).2)
  refine (proll2_any a cap carry w h.pv hn hr (fun y hy => (ha y hy).1)).mono ?_; rintro e w1 (⟨h31, rfl, ho⟩ | ⟨h31, rfl, ho, S', xs, ys, g1, g2, g3, g4, g5⟩)
  · have hoS : Only Sp w w1 := ho.mono (fun _ _ f => f.elim); refine ⟨_, _, rfl, hoS, (hR w1 hoS).mono ?_⟩; rintro e2 w2 (⟨_, rfl, ho2, vL2, vW2, hd2⟩ | ⟨hlt, _⟩)
    · have hs := ho.size; have hs2 := ho2.size; exact ⟨rfl, ho2, Sp, Sd, pb, pj, op, A, C, L, vL2, vW2, D, ((h.pv.quiet ho).only ho2 (fun k s t => (h.ap k s).2 t)).up (by omega), hd2, h.lk, h.sq, h.ag, h.ap, fun k s => ⟨(h.ad k s).1, by have := (h.ad k s).2; omega⟩, h.rp⟩
    · omega
  · refine ⟨_, _, rfl, ho, (hR w1 ho).mono ?_⟩; rintro e2 w2 (⟨hge, _⟩ | ⟨_, rfl, ho2, zs, hz, vL2, vW2, hd2⟩)
    · omega
    · have hs := ho.size; have hs2 := ho2.size; have hX : Xs xs = pK A carry 32 := g2; have hys : ys.map pq = (pK A carry 32).map (exQ op) := by
        rw [g3, ← hX]; unfold Xs; rw [List.map_map]
        rfl
      have hfl : flatX xs = flatP (pK A carry 32) := (by rw [flatX_P, hX]); have hlk : lkc.Lk op (jnw.addC C op (flatX xs)) (L ++ ys) (D ++ zs) := by
        rw [hfl]; exact Lk_rows h.pv.pu.opl (pK A carry 32) ys zs h.lk (fun a => (h.pv.bd a).1) hys hz
      have hag : Agree (fK A carry 32).1 (op + 1) (jnw.addC C op (flatX xs)) := h.ag.roll h.pv.pu.bok.z h.pv.bd (by omega) h.pv.pu.opl g2 (fun x hx => (g4 x hx).2); have hrp : Rp (D ++ zs) := h.rp.app h.lk.le (fun j hj => by
        have hz2 : (zs.take j).map dq = ((pK A carry 32).take j).map (exQ op) := (by rw [List.map_take, List.map_take, hz]); have hg := GB.rowsT h.gb h.pv.pu.opl (by omega) _ ((pK_sub A carry 32).sublist ((List.take_sublist j _).map Prod.fst)) (fun p hp => expN_amt h.pv.pu.bok carry _ p (List.mem_of_mem_take hp)) hz2; exact hg.err h.pv.pu.opl (by omega) (hd2.ls _ (List.mem_append_right _ (getD_mem hj))).2.1) (fun z hz' => by
        have hmz : dq z ∈ zs.map dq := List.mem_map_of_mem hz'; rw [hz] at hmz; obtain ⟨p9, _, e⟩ := List.mem_map.1 hmz; exact (congrArg (fun t : Int × Nat × List Lg => t.2.1) e).symm)
      have hb := h.ad q h.dk.sp; have hap : ∀ k, S' k → base ≤ k ∧ ¬ Sd k := fun k hk => by
        rcases g1 k hk with s | s
        · exact h.ap k s
        · exact ⟨by omega, fun e => by have := (h.ad k e).2; omega⟩
      refine ⟨rfl, ho2, S', fun k => (Sd k ∨ w1.heap.size ≤ k) ∧ k < w2.heap.size, pb, pj, op + 1, (fK A carry 32).1, _, _, vL2, vW2, D ++ zs, g5.only ho2 (fun k s t => (hap k s).2 t), hd2.monoS (fun k hk s => ⟨s, hk⟩), hlk.close, ?_, hag, fun k s => ⟨(hap k s).1, fun e => ?_⟩, fun k s => ⟨?_, s.2⟩, hrp⟩
      · rw [List.map_append, List.map_append, h.sq, hys, hz]
      · rcases e.1 with e | e
        · exact (hap k s).2 e
        · have := g5.lt k s; omega
      · rcases s.1 with e | e
        · exact (h.ad k e).1
        · omega
end
end Go.Proofs.YtkbaafgaaiekpaaGreat.pdw
namespace Go.Proofs.YtkbaafgaaiekpaaGreat.pdw
open Go.RowKit mem entm puw
set_option linter.unusedVariables false
set_option maxRecDepth 100000 in
theorem nan_any (x : Int) (w : World) : Calls Tryz.prog 113 #[.int .i64 x] w fun e w' => e = .returned (.bool false) ∧ w = w' := by
  have b : (x != x) = false := (by simp); go_enter Tryz.func113, Tryz.ntmps113
  (go_wp2_with fail); go_ret
  exact ⟨rfl, rfl⟩
set_option maxRecDepth 100000 in
theorem less_any (x y : Int) (w : World) : Calls Tryz.prog 106 #[.int .i64 x, .int .i64 y] w fun e w' => e = .returned (.bool (decide (x < y))) ∧ w = w' := by
  go_enter Tryz.func106, Tryz.ntmps106
  (go_wp2_with fail); refine (nan_any _ _).mono ?_; rintro _ _ ⟨rfl, rfl⟩; (go_wp2_with fail); go_ret
  exact ⟨rfl, rfl⟩
def Rises (l : List Int) : Prop := ∀ i, i + 1 < l.length → l.getD i 0 ≤ l.getD (i + 1) 0
set_option maxRecDepth 100000 in
set_option maxHeartbeats 9000000 in
theorem sorted_any (a : Option Addr) (len cap : Nat) (l : List Int) (w : World) (hr : ReadsI w a len l) (hs : Rises l) : Calls Tryz.prog 92 #[.slice a len cap] w fun e w' => e = .returned (.bool true) ∧ Only (fun _ => False) w w' := by
  have HL := hid hr.1; have hm := hr.2.1; unfold maxLen at hm; have HR := hid hr; have HS := hid hs; clear hr hs; go_enter Tryz.func92, Tryz.ntmps92
  go_wp2_with fail
  go_loopw [3] (fun iv wr => ∃ k : Nat, k ≤ len ∧ iv = .int .i64 ((k : Int) - 1) ∧ Hid (Only (fun _ => False) w wr)) (fun iv _ => (intOf iv).toNat)
  case atStart => exact ⟨len, by omega, by go_num, hid (Only.refl _ _)⟩
  case round =>
    obtain ⟨k, hk, rfl, HO⟩ := hrel; rename World => wr
    by_cases h8 : 1 < k
    · obtain ⟨t, rfl⟩ : ∃ t, k = t + 2 := ⟨k - 2, by omega⟩; obtain ⟨b, off, rfl, hcell⟩ := (HR.out.only HO.out (fun _ _ f => f)).2.2.2.resolve_left (by omega); have c1 := hcell (t + 1) (by omega); have c0 := hcell t (by omega); have hle := HS.out t (by rw [HL.out]; omega); generalize l.getD t 0 = x0 at *; generalize l.getD (t + 1) 0 = x1 at *; have hd : decide (x1 < x0) = false := (by rw [decide_eq_false_iff_not]; omega); have e0 : ((t + 2 : Nat) : Int) - 1 = ((t + 1 : Nat) : Int) := (by omega); have e1 : ((t + 1 : Nat) : Int) - 1 = (t : Int) := (by omega); have hi0 : (0 : Int) < ((t + 1 : Nat) : Int) := (by omega); have hi1 : ((t + 1 : Nat) : Int) < (len : Int) := (by omega); have hi2 : (t : Int) < (len : Int) := (by omega); have hi3 : (0 : Int) ≤ (t : Int) := (by omega); have hi4 : (0 : Int) ≤ ((t + 1 : Nat) : Int) := (by omega); have v1 : IntKind.i64.wrap (t : Int) = (t : Int) := (by rw [IntKind.wrap_i64]; omega); have v2 : wrap64 (t : Int) = (t : Int) := (by unfold wrap64; omega); clear hcell; rw [e0]; generalize ht1 : t + 1 = t1 at *; (go_upto_region 4 with fail); refine wp_region_noPanic ?_; refine wp_region_held_drew (S := (fun w' => w'.cell? ⟨b, off + t1, none⟩ = some (.int .i64 x1) ∧ w'.cell? ⟨b, off + t, none⟩ = some (.int .i64 x0))) (by kernel_rfl) (⟨((Only.refl (fun _ => False) _).drew).cell' c1 (fun f => f), ((Only.refl (fun _ => False) _).drew).cell' c0 (fun f => f)⟩) (fun hHeld => ?_); obtain ⟨z0, hz0⟩ : ∃ x, x = wr.drew := ⟨_, rfl⟩; rw [← hz0] at hHeld ⊢; have hot : Hid (Only (fun _ => False) wr z0) := hid (by rw [hz0]; exact (Only.refl _ _).drew); clear hz0; refine sho.tk 0 ?_; refine sho.tk 1 ?_; refine sho.tk 2 ?_; refine sho.tk 3 ?_; refine sho.tk 4 ?_; refine sho.tk 5 ?_; refine sho.tk 6 ?_; refine sho.tk 7 ?_; refine sho.tk 8 ?_; refine wpAnyH_ready (rs := [9]) (by kernel_rfl) (by simp) ?_; refine AllReadyH.cons rfl (fun K hK => ?_) AllReadyH.nil; (try simp only [getElem_toArray, getElem_cons_zero, getElem_cons_succ]); (go_simp); (go_at_call 106); (with_reducible refine (less_any _ _ _).mono ?_); rintro _ _ ⟨rfl, rfl⟩; (try dsimp only); refine hK.out _ _ (⟨hot.out.cell' c1 (fun f => f), hot.out.cell' c0 (fun f => f)⟩) (fun hHeld1 => ?_); clear hK K; (try simp only [getElem_toArray, getElem_cons_zero, getElem_cons_succ, Act.put, setIfInBounds_toArray, set_cons_zero, set_cons_succ]); refine wpAnyH_done (by kernel_rfl) ?_ _; refine NoPanic.normal ?_; have HZ := hid (HO.out.trans hot.out); clear hHeld hot; (go_wp2_with fail); go_roundw
      case rel => exact ⟨t1, by omega, by go_num, HZ⟩
      case measure => (simp [intOf]; omega)
    · have hi1 : ¬ (0 : Int) < (k : Int) - 1 := (by omega); (go_wp2_with fail); go_ret
      exact ⟨rfl, HO.out⟩
set_option maxRecDepth 100000 in
set_option maxHeartbeats 9000000 in
theorem periods_any (a : Option Addr) (len cap : Nat) (l : List Int) (op : Nat) (w : World) (hr : ReadsI w a len l) (hs : Rises l) (hop : op < 32) (hl : len = 0 ∨ (0 ≤ l.getD 0 0 ∧ l.getD (len - 1) 0 ≤ (op : Int))) : Calls Tryz.prog 64 #[.slice a len cap, .int .i64 (op : Int)] w fun e w' => e = .returned (.bool true) ∧ Only (fun _ => False) w w' := by
  have hm := hr.2.1; unfold maxLen at hm; have HR := hid hr; have HS := hid (sorted_any a len cap l w hr hs); have HLL := hid hl; have h32 : (op : Int) < 32 := (by omega); have h0 : (0 : Int) ≤ (op : Int) := (by omega); clear hr hs hl; go_enter Tryz.func64, Tryz.ntmps64
  (go_wp2_with fail); refine HS.out.mono ?_; rintro _ w1 ⟨rfl, ho⟩; have HO := hid ho; clear ho HS; by_cases e : len = 0
  · subst e; (go_wp2_with fail); go_ret
    exact ⟨rfl, HO.out⟩
  · obtain ⟨m, rfl⟩ : ∃ m, len = m + 1 := ⟨len - 1, by omega⟩; obtain ⟨b, off, rfl, hcell⟩ := (HR.out.only HO.out (fun _ _ f => f)).2.2.2.resolve_left (by omega); have c0 := hcell 0 (by omega); rw [Nat.add_zero] at c0; have c1 := hcell m (by omega); obtain ⟨g0, g1⟩ := HLL.out.resolve_left (by omega); rw [show m + 1 - 1 = m by omega] at g1; generalize l.getD 0 0 = x0 at *; generalize l.getD m 0 = x1 at *; have e1 : ((m + 1 : Nat) : Int) - 1 = (m : Int) := (by omega); have e2 : ¬ ((m + 1 : Nat) : Int) = 0 := (by omega); have e3 : (0 : Int) < ((m + 1 : Nat) : Int) := (by omega); have e4 : (m : Int) < ((m + 1 : Nat) : Int) := (by omega); have e5 : (0 : Int) ≤ (m : Int) := (by omega); have v1 : IntKind.i64.wrap (m : Int) = (m : Int) := (by rw [IntKind.wrap_i64]; omega); have v2 : wrap64 (m : Int) = (m : Int) := (by unfold wrap64; omega); clear hcell HLL e; generalize hm1 : m + 1 = m1 at *; (go_wp2_with fail); go_ret
    exact ⟨rfl, HO.out⟩
set_option maxRecDepth 100000 in
theorem periods_32 (w : World) : Calls Tryz.prog 64 #[.slice none 0 0, .int .i64 32] w fun e w' => e = .returned (.bool false) ∧ w = w' := by
  go_enter Tryz.func64, Tryz.ntmps64
  (go_wp2_with fail); go_ret
  exact ⟨rfl, rfl⟩
theorem Pu.per {S : Nat → Prop} {w : World} {p pb pj : Nat} {A : List fnd.Ac} {op : Nat} {C : AcC → Option (List Int)} {L : List jnw.Ps} (h : Pu S w p pb pj A op C L) : Calls Tryz.prog 22 #[.pointer (some ⟨pj, 0, none⟩)] w fun e w' => e = .returned (.int .i64 (op : Int)) ∧ w = w' := by
  obtain ⟨v, m, nn, hj⟩ := h.jn; exact (jnw.period_any pj op v m w hj.jc).mono (fun e w' h => ⟨h.1, h.2.symm⟩)
set_option maxRecDepth 100000 in
set_option maxHeartbeats 9000000 in
theorem upto_any {S : Nat → Prop} {p pb pj : Nat} {A : List fnd.Ac} {op per : Nat} {C : AcC → Option (List Int)} {L : List jnw.Ps} (w : World) (h : Pu S w p pb pj A op C L) (h1 : op ≤ per) (h2 : per < 32) : Calls Tryz.prog 66 #[.pointer (some ⟨p, 0, none⟩), .int .i64 (per : Int)] w fun e w' => e = .returned (.tuple #[]) ∧ Pu S w' p pb pj A per C L ∧ Only S w w' := by
  have c1 := h.c1; have HP := hid h; have HPE := hid (Pu.per h); obtain ⟨d, rfl⟩ : ∃ d, per = op + d := ⟨per - op, by omega⟩; clear h h1; have e1 : ((op + d : Nat) : Int) - (op : Int) = (d : Int) := (by omega); have v1 : IntKind.i64.wrap (d : Int) = (d : Int) := (by rw [IntKind.wrap_i64]; omega); have v2 : wrap64 (d : Int) = (d : Int) := (by unfold wrap64; omega); go_enter Tryz.func66, Tryz.ntmps66
  generalize hper : op + d = per at *; (go_wp2_with fail); refine HPE.out.mono ?_; rintro _ _ ⟨rfl, rfl⟩; clear HPE; go_wp2_with fail
  go_loopw [11] (fun iv wr => ∃ i : Nat, i ≤ d ∧ iv = .int .i64 (i : Int) ∧ Hid (Pu S wr p pb pj A (op + i) C L) ∧ Hid (Only S w wr)) (fun iv _ => d - (intOf iv).toNat)
  case atStart => exact ⟨0, by omega, rfl, HP, hid (Only.refl _ _)⟩
  case round =>
    clear HP c1; obtain ⟨i, hi, rfl, HU, HO⟩ := hrel; rename World => wr
    by_cases h8 : i < d
    · have hi1 : (i : Int) < (d : Int) := (by omega); have c1 := HU.out.c1; have HC := hid (Pu.close HU.out (by omega)); clear HU; (go_wp2_with fail); refine HC.out.mono ?_; rintro _ w2 ⟨rfl, hu, ho⟩; have HU := hid hu; have HO2 := hid (HO.out.trans ho); clear hu ho c1 HC; (go_wp2_with fail); go_roundw
      case rel => exact ⟨i + 1, by omega, by go_num, HU, HO2⟩
      case measure => (simp [intOf]; omega)
    · have hi1 : ¬ (i : Int) < (d : Int) := (by omega); obtain rfl : i = d := (by omega); go_wp2_with fail
      go_end0
      rw [hper] at HU; exact ⟨rfl, HU.out, HO.out⟩
end Go.Proofs.YtkbaafgaaiekpaaGreat.pdw
