/- Several texts together: PdE, PdG, PdH. -/
import Derived.Test.YtkbaafgaaiekpaaGreatPeriodActsZ1
import Derived.Test.YtkbaafgaaiekpaaGreatPeriodActsZ2
import Derived.Test.YtkbaafgaaiekpaaGreatPeriodActsZ18
import Derived.Test.YtkbaafgaaiekpaaGreatPeriodActsZ28
import Derived.Test.YtkbaafgaaiekpaaGreatPeriodActsZ38
import Derived.Deep.CutRange
import Derived.Deep.CutBlock
namespace Go.Proofs.YtkbaafgaaiekpaaGreat.pdw
open Go.RowKit mem entm puw tre
set_option linter.unusedVariables false

structure AcT where
  what : Int
  node : Int
  pa : Option Addr
  pn : Nat
  pc : Nat
  pl : List Int
  la : Option Addr
  ln : Nat
  lc : Nat
  ll : List Int
  amt : Int
  grp : Int
  ca : Option Addr
  cn : Nat
  cc : Nat
  cl : List Int
deriving Inhabited
structure ActR (w : World) (x : AcT) : Prop where
  nd : entw.InI x.node
  gr : entw.InI x.grp
  p : IntsR w x.pa x.pn x.pc x.pl
  l : IntsR w x.la x.ln x.lc x.ll
  c : IntsR w x.ca x.cn x.cc x.cl
theorem tmod_in6 (x : Int) : 0 ≤ wrap64 ((IntKind.u64.wrap x).tmod 6) ∧ wrap64 ((IntKind.u64.wrap x).tmod 6) < 6 := by
  have h1 : 0 ≤ IntKind.u64.wrap x := by rw [IntKind.wrap_u64]; omega
  have h2 : 0 ≤ (IntKind.u64.wrap x).tmod 6 := Int.tmod_nonneg 6 h1
  have h3 : (IntKind.u64.wrap x).tmod 6 < 6 := Int.tmod_lt_of_pos _ (by omega)
  unfold wrap64
  omega
set_option maxRecDepth 100000 in
set_option maxHeartbeats 8000000 in
theorem do_any {base p q n : Nat} (what node : Int) (pa : Option Addr) (pn pc : Nat) (pl : List Int) (la : Option Addr) (ln lc : Nat) (ll : List Int) (amt grp : Int) (ca : Option Addr) (cn cc : Nat) (cl : List Int) (w : World) (h : PD base p q n w) (hn : n ≤ 110) (hnd : entw.InI node) (hgr : entw.InI grp) (h1 : IntsR w pa pn pc pl) (h2 : IntsR w la ln lc ll) (h3 : IntsR w ca cn cc cl) :
    Calls Tryz.prog 19 #[.agg #[.int .i64 what, .int .i64 node, .slice pa pn pc, .slice la ln lc, .int .i64 amt, .int .i64 grp, .slice ca cn cc], .pointer (some ⟨p, 0, none⟩), .pointer (some ⟨q, 0, none⟩)] w fun e w' => e = .returned (.bool true) ∧ Only (fun x => base ≤ x) w w' ∧ PD base p q (n + 1) w' := by
  obtain ⟨Sp, Sd, pb, pj, op, A, C, L, vL, vW, D, h⟩ := h
  have HH := Lib.hid h
  have HN := Lib.hid hn
  have HND := Lib.hid hnd
  have HGR := Lib.hid hgr
  have HBW : Hid (base ≤ w.heap.size) := Lib.hid (by have := h.ad q h.dk.sp; omega)
  have HSP : Hid (∀ k, Sp k → base ≤ k ∧ k < w.heap.size) := Lib.hid (fun k s => ⟨(h.ap k s).1, h.pv.lt k s⟩)
  have HSD : Hid (∀ k, Sd k → base ≤ k ∧ k < w.heap.size) := Lib.hid h.ad
  have HZ := Lib.hid (tmod_in6 what)
  obtain ⟨w1, hw1⟩ : ∃ zz, zz = w.alloc (.cells #[.int .i64 what, .int .i64 node, .slice pa pn pc, .slice la ln lc, .int .i64 amt, .int .i64 grp, .slice ca cn cc] 51) := ⟨_, rfl⟩
  obtain ⟨g, hg⟩ : ∃ zz, zz = w.heap.size := ⟨_, rfl⟩
  have d0 : w1.cell? ⟨g, 0, none⟩ = some (.int .i64 what) := by rw [hw1]; exact alloc_cell hg rfl
  have d1 : w1.cell? ⟨g, 1, none⟩ = some (.int .i64 node) := by rw [hw1]; exact alloc_cell hg rfl
  have d2 : w1.cell? ⟨g, 2, none⟩ = some (.slice pa pn pc) := by rw [hw1]; exact alloc_cell hg rfl
  have d3 : w1.cell? ⟨g, 3, none⟩ = some (.slice la ln lc) := by rw [hw1]; exact alloc_cell hg rfl
  have d4 : w1.cell? ⟨g, 4, none⟩ = some (.int .i64 amt) := by rw [hw1]; exact alloc_cell hg rfl
  have d5 : w1.cell? ⟨g, 5, none⟩ = some (.int .i64 grp) := by rw [hw1]; exact alloc_cell hg rfl
  have d6 : w1.cell? ⟨g, 6, none⟩ = some (.slice ca cn cc) := by rw [hw1]; exact alloc_cell hg rfl
  have ho1 : Only (fun _ => False) w w1 := by rw [hw1]; exact (Only.refl _ _).alloc _
  have HO1 := Lib.hid ho1
  have HG : Hid (¬ Sp g ∧ ¬ Sd g ∧ base ≤ g) := Lib.hid ⟨fun e => by have := HSP.out _ e; omega, fun e => by have := HSD.out _ e; omega, by have := HBW.out; omega⟩
  have HD : Hid (∀ w', Only (fun _ => False) w1 w' → w'.cell? ⟨g, 0, none⟩ = some (.int .i64 what) ∧ w'.cell? ⟨g, 1, none⟩ = some (.int .i64 node) ∧ w'.cell? ⟨g, 2, none⟩ = some (.slice pa pn pc) ∧ w'.cell? ⟨g, 3, none⟩ = some (.slice la ln lc) ∧ w'.cell? ⟨g, 4, none⟩ = some (.int .i64 amt) ∧ w'.cell? ⟨g, 5, none⟩ = some (.int .i64 grp) ∧ w'.cell? ⟨g, 6, none⟩ = some (.slice ca cn cc)) := Lib.hid (fun w' ho => ⟨ho.cell' d0 (fun f => f), ho.cell' d1 (fun f => f), ho.cell' d2 (fun f => f), ho.cell' d3 (fun f => f), ho.cell' d4 (fun f => f), ho.cell' d5 (fun f => f), ho.cell' d6 (fun f => f)⟩)
  have HF1 : Hid (∀ w', Only (fun _ => False) w1 w' → Calls Tryz.prog 51 #[.slice pa pn pc, .int .i64 5] w' (FewR (pl.take 5) w')) := Lib.hid (fun w' ho => few_any pa pn pc 5 pl w' ⟨h1.1.only (ho1.trans ho) (fun _ _ f => f), h1.2⟩ (by omega))
  have HF2 : Hid (∀ w', Only (fun _ => False) w1 w' → Calls Tryz.prog 51 #[.slice la ln lc, .int .i64 5] w' (FewR (ll.take 5) w')) := Lib.hid (fun w' ho => few_any la ln lc 5 ll w' ⟨h2.1.only (ho1.trans ho) (fun _ _ f => f), h2.2⟩ (by omega))
  have HF3 : Hid (∀ w', Only (fun _ => False) w1 w' → Calls Tryz.prog 51 #[.slice ca cn cc, .int .i64 40] w' (FewR (cl.take 40) w')) := Lib.hid (fun w' ho => few_any ca cn cc 40 cl w' ⟨h3.1.only (ho1.trans ho) (fun _ _ f => f), h3.2⟩ (by omega))
  obtain ⟨P, hP⟩ : ∃ P, P = pl.take 5 := ⟨_, rfl⟩
  obtain ⟨LM, hL⟩ : ∃ L, L = ll.take 5 := ⟨_, rfl⟩
  obtain ⟨CR, hC⟩ : ∃ L, L = cl.take 40 := ⟨_, rfl⟩
  rw [← hP] at HF1
  rw [← hL] at HF2
  rw [← hC] at HF3
  clear hP hL hC h h1 h2 h3 hn hnd hgr ho1 d0 d1 d2 d3 d4 d5 d6
  go_enter Tryz.func19, Tryz.ntmps19
  go_upto_region 1 with fail
  simp only [← hw1, ← hg]
  clear hw1 hg
  refine wp_region_noPanic ?_
  refine wp_region_held_drew (S := (fun w' => w'.cell? ⟨g, 2, none⟩ = some (.slice pa pn pc) ∧ w'.cell? ⟨g, 3, none⟩ = some (.slice la ln lc))) (by kernel_rfl) ((by obtain ⟨-, -, x2, x3, -⟩ := HD.out _ ((Only.refl _ _).drew); exact ⟨x2, x3⟩)) (fun hHeld => ?_)
  obtain ⟨z0, hz0⟩ : ∃ x, x = w1.drew := ⟨_, rfl⟩
  rw [← hz0] at hHeld ⊢
  have hot : Hid (Only (fun _ => False) w1 z0) := Lib.hid (by rw [hz0]; exact (Only.refl _ _).drew)
  clear hz0
  refine sho.tk 0 ?_
  refine sho.tk 1 ?_
  refine sho.tk 3 ?_
  refine sho.tk 4 ?_
  refine wpAnyH_ready (rs := [2]) (by kernel_rfl) (by simp) ?_
  refine AllReadyH.cons rfl (fun K hK => ?_) AllReadyH.nil
  try simp only [List.getElem_toArray, List.getElem_cons_zero, List.getElem_cons_succ]
  go_simp
  go_at_call 51
  with_reducible refine (HF1.out _ hot.out).mono ?_
  rintro _ W1 ⟨a1, c1, rfl, hr1, hc1, hm1, hb1, ho⟩
  have HR1 := Lib.hid hr1
  have HB1 : Hid (∀ y, a1 = some y → w.heap.size ≤ y.block) := Lib.hid (fun y hy => by have := hb1 y hy; have := HO1.out.size; have := hot.out.size; omega)
  have HC1 : Hid (P.length ≤ c1 ∧ c1 ≤ 9223372036854775807) := Lib.hid ⟨hc1, by unfold maxLen at hm1; exact hm1⟩
  replace hot := Lib.hid (hot.out.trans ho)
  clear ho hr1 hc1 hm1 hb1
  try dsimp only
  refine hK.out _ _ ((by obtain ⟨-, -, x2, x3, -⟩ := HD.out _ hot.out; exact ⟨x2, x3⟩)) (fun hHeld1 => ?_)
  clear hK K
  try simp only [List.getElem_toArray, List.getElem_cons_zero, List.getElem_cons_succ, Act.put, List.setIfInBounds_toArray, List.set_cons_zero, List.set_cons_succ]
  refine wpAnyH_ready (rs := [5]) (by kernel_rfl) (by simp) ?_
  refine AllReadyH.cons rfl (fun K hK => ?_) AllReadyH.nil
  try simp only [List.getElem_toArray, List.getElem_cons_zero, List.getElem_cons_succ]
  go_simp
  go_at_call 51
  with_reducible refine (HF2.out _ hot.out).mono ?_
  rintro _ W2 ⟨a2, c2, rfl, hr2, hc2, hm2, hb2, ho⟩
  have HR2 := Lib.hid hr2
  replace HR1 := Lib.hid (HR1.out.only ho (fun _ _ f => f))
  have HB2 : Hid (∀ y, a2 = some y → w.heap.size ≤ y.block) := Lib.hid (fun y hy => by have := hb2 y hy; have := HO1.out.size; have := hot.out.size; omega)
  replace hot := Lib.hid (hot.out.trans ho)
  clear ho hr2 hc2 hm2 hb2
  try dsimp only
  refine hK.out _ _ ((by obtain ⟨-, -, x2, x3, -⟩ := HD.out _ hot.out; exact ⟨x2, x3⟩)) (fun hHeld2 => ?_)
  clear hK K
  try simp only [List.getElem_toArray, List.getElem_cons_zero, List.getElem_cons_succ, Act.put, List.setIfInBounds_toArray, List.set_cons_zero, List.set_cons_succ]
  refine sho.tk 6 ?_
  refine sho.tk 7 ?_
  refine wpAnyH_done (by kernel_rfl) ?_ _
  refine NoPanic.normal ?_
  clear hHeld HF1 HF2
  rename World => w2
  have HO2 := hot
  clear hot
  have d0 := (HD.out _ HO2.out).1
  have HW2 := Lib.hid (HO1.out.trans HO2.out)
  obtain ⟨k1, hk1⟩ : ∃ x, x = P.length := ⟨_, rfl⟩
  obtain ⟨k2, hk2⟩ : ∃ x, x = LM.length := ⟨_, rfl⟩
  rw [← hk1] at HR1 HC1 ⊢
  rw [← hk2] at HR2 ⊢
  clear hk1 hk2
  have HS : Hid (∀ w', Only (fun x => Sp x ∨ Sd x) w2 w' → w'.cell? ⟨g, 1, none⟩ = some (.int .i64 node) ∧ w'.cell? ⟨g, 4, none⟩ = some (.int .i64 amt) ∧ w'.cell? ⟨g, 5, none⟩ = some (.int .i64 grp)) := Lib.hid (fun w' ho => by
    obtain ⟨-, x1, -, -, x4, x5, -⟩ := HD.out _ HO2.out
    have hn : ¬ (Sp g ∨ Sd g) := fun e => e.elim HG.out.1 HG.out.2.1
    exact ⟨ho.cell' x1 hn, ho.cell' x4 hn, ho.cell' x5 hn⟩)
  have HAP : Hid (∀ y, a1 = some y → ¬ Sp y.block ∧ ¬ Sd y.block) := Lib.hid (fun y hy => ⟨fun e => by have := HB1.out y hy; have := HSP.out _ e; omega, fun e => by have := HB1.out y hy; have := HSD.out _ e; omega⟩)
  have HAL : Hid (∀ y, a2 = some y → ¬ Sp y.block) := Lib.hid (fun y hy e => by have := HB2.out y hy; have := HSP.out _ e; omega)
  go_upto_region 3 with fail
  clear d0
  generalize wrap64 ((IntKind.u64.wrap what).tmod 6) = z at *
  obtain ⟨hz0, hz6⟩ := HZ.out
  clear HZ
  have hzz : z = 0 ∨ z = 1 ∨ z = 2 ∨ z = 3 ∨ z = 4 ∨ z = 5 := by omega
  clear hz0 hz6
  rcases hzz with rfl | rfl | rfl | rfl | rfl | rfl
  · have HCA := Lib.hid (fun w' (ho : Only (fun _ => False) w2 w') => (HH.out.quiet (HW2.out.trans ho)).top (by have := HN.out; omega) node amt HND.out)
    go_upto_region 4 with fail
    refine wp_region_noPanic ?_
    refine wp_region_held_drew (S := (fun w' => w'.cell? ⟨g, 1, none⟩ = some (.int .i64 node) ∧ w'.cell? ⟨g, 4, none⟩ = some (.int .i64 amt) ∧ w'.cell? ⟨g, 5, none⟩ = some (.int .i64 grp))) (by kernel_rfl) (HS.out _ ((Only.refl _ _).drew)) (fun hHeld => ?_)
    obtain ⟨z0, hz0⟩ : ∃ x, x = w2.drew := ⟨_, rfl⟩
    rw [← hz0] at hHeld ⊢
    have hot : Hid (Only (fun _ => False) w2 z0) := Lib.hid (by rw [hz0]; exact (Only.refl _ _).drew)
    clear hz0
    refine sho.tk 0 ?_
    refine sho.tk 1 ?_
    refine sho.tk 2 ?_
    refine sho.tk 3 ?_
    refine sho.tk 4 ?_
    refine sho.tk 6 ?_
    refine sho.tk 7 ?_
    refine sho.tk 8 ?_
    refine sho.tk 9 ?_
    refine sho.tk 10 ?_
    refine wpAnyH_ready (rs := [5]) (by kernel_rfl) (by simp) ?_
    refine AllReadyH.cons rfl (fun K hK => ?_) AllReadyH.nil
    try simp only [List.getElem_toArray, List.getElem_cons_zero, List.getElem_cons_succ]
    go_simp
    go_at_call 10
    with_reducible refine (HCA.out _ hot.out).mono ?_
    rintro _ W1 ⟨er, rfl, hop, hc2⟩
    have HOP : Hid (Only Sp w2 W1) := Lib.hid ((hot.out.mono (fun _ _ f => f.elim)).trans hop)
    have HC2 := Lib.hid hc2
    have hos : Only (fun x => Sp x ∨ Sd x) w2 W1 := HOP.out.mono (fun x _ e => .inl e)
    clear hop hc2
    try dsimp only
    refine hK.out _ _ (HS.out _ hos) (fun hHeld1 => ?_)
    clear hK K
    try simp only [List.getElem_toArray, List.getElem_cons_zero, List.getElem_cons_succ, Act.put, List.setIfInBounds_toArray, List.set_cons_zero, List.set_cons_succ]
    refine wpAnyH_ready (rs := [11]) (by kernel_rfl) (by simp) ?_
    refine AllReadyH.cons rfl (fun K hK => ?_) AllReadyH.nil
    try simp only [List.getElem_toArray, List.getElem_cons_zero, List.getElem_cons_succ]
    go_simp
    go_at_call 52
    with_reducible refine HC2.out.mono ?_
    rintro _ W2 ⟨rfl, hod, hpd⟩
    have HOD := Lib.hid hod
    have HPD := Lib.hid hpd
    have hos2 : Only (fun x => Sp x ∨ Sd x) w2 W2 := (HOP.out.mono (fun x _ e => .inl e)).trans (hod.mono (fun x _ e => .inr e))
    clear hod hpd
    try dsimp only
    refine hK.out _ _ (HS.out _ hos2) (fun hHeld2 => ?_)
    clear hK K
    try simp only [List.getElem_toArray, List.getElem_cons_zero, List.getElem_cons_succ, Act.put, List.setIfInBounds_toArray, List.set_cons_zero, List.set_cons_succ]
    refine sho.tk 12 ?_
    refine sho.tk 13 ?_
    refine wpAnyH_done (by kernel_rfl) ?_ _
    refine NoPanic.normal ?_
    clear hHeld
    have HEND : Hid (Only (fun x => base ≤ x) w W2) := Lib.hid ((HW2.out.mono (fun _ _ f => f.elim)).trans (hos2.mono (fun x _ e => e.elim (fun e => (HSP.out x e).1) (fun e => (HSD.out x e).1))))
    have hee : (er == er) = true := by simp
    clear hos hos2 hot HS HOP HOD HC2
    go_wp2_with fail
    go_ret
    exact ⟨rfl, HEND.out, HPD.out⟩
  · have HCA := Lib.hid (fun w' (ho : Only (fun _ => False) w2 w') => (HH.out.quiet (HW2.out.trans ho)).hold (by have := HN.out; omega) a1 k1 c1 P a2 k2 c2 LM amt (HR1.out.only ho (fun _ _ f => f)) HC1.out.1 HC1.out.2 (HR2.out.only ho (fun _ _ f => f)) HAP.out HAL.out)
    go_upto_region 6 with fail
    refine wp_region_noPanic ?_
    refine wp_region_held_drew (S := (fun w' => w'.cell? ⟨g, 1, none⟩ = some (.int .i64 node) ∧ w'.cell? ⟨g, 4, none⟩ = some (.int .i64 amt) ∧ w'.cell? ⟨g, 5, none⟩ = some (.int .i64 grp))) (by kernel_rfl) (HS.out _ ((Only.refl _ _).drew)) (fun hHeld => ?_)
    obtain ⟨z0, hz0⟩ : ∃ x, x = w2.drew := ⟨_, rfl⟩
    rw [← hz0] at hHeld ⊢
    have hot : Hid (Only (fun _ => False) w2 z0) := Lib.hid (by rw [hz0]; exact (Only.refl _ _).drew)
    clear hz0
    refine sho.tk 0 ?_
    refine sho.tk 1 ?_
    refine sho.tk 2 ?_
    refine sho.tk 3 ?_
    refine sho.tk 4 ?_
    refine sho.tk 6 ?_
    refine sho.tk 7 ?_
    refine sho.tk 8 ?_
    refine sho.tk 9 ?_
    refine sho.tk 10 ?_
    refine wpAnyH_ready (rs := [5]) (by kernel_rfl) (by simp) ?_
    refine AllReadyH.cons rfl (fun K hK => ?_) AllReadyH.nil
    try simp only [List.getElem_toArray, List.getElem_cons_zero, List.getElem_cons_succ]
    go_simp
    go_at_call 11
    with_reducible refine (HCA.out _ hot.out).mono ?_
    rintro _ W1 ⟨er, rfl, hop, hc2⟩
    have HOP : Hid (Only Sp w2 W1) := Lib.hid ((hot.out.mono (fun _ _ f => f.elim)).trans hop)
    have HC2 := Lib.hid hc2
    have hos : Only (fun x => Sp x ∨ Sd x) w2 W1 := HOP.out.mono (fun x _ e => .inl e)
    clear hop hc2
    try dsimp only
    refine hK.out _ _ (HS.out _ hos) (fun hHeld1 => ?_)
    clear hK K
    try simp only [List.getElem_toArray, List.getElem_cons_zero, List.getElem_cons_succ, Act.put, List.setIfInBounds_toArray, List.set_cons_zero, List.set_cons_succ]
    refine wpAnyH_ready (rs := [11]) (by kernel_rfl) (by simp) ?_
    refine AllReadyH.cons rfl (fun K hK => ?_) AllReadyH.nil
    try simp only [List.getElem_toArray, List.getElem_cons_zero, List.getElem_cons_succ]
    go_simp
    go_at_call 53
    with_reducible refine HC2.out.mono ?_
    rintro _ W2 ⟨rfl, hod, hpd⟩
    have HOD := Lib.hid hod
    have HPD := Lib.hid hpd
    have hos2 : Only (fun x => Sp x ∨ Sd x) w2 W2 := (HOP.out.mono (fun x _ e => .inl e)).trans (hod.mono (fun x _ e => .inr e))
    clear hod hpd
    try dsimp only
    refine hK.out _ _ (HS.out _ hos2) (fun hHeld2 => ?_)
    clear hK K
    try simp only [List.getElem_toArray, List.getElem_cons_zero, List.getElem_cons_succ, Act.put, List.setIfInBounds_toArray, List.set_cons_zero, List.set_cons_succ]
    refine sho.tk 12 ?_
    refine sho.tk 13 ?_
    refine wpAnyH_done (by kernel_rfl) ?_ _
    refine NoPanic.normal ?_
    clear hHeld
    have HEND : Hid (Only (fun x => base ≤ x) w W2) := Lib.hid ((HW2.out.mono (fun _ _ f => f.elim)).trans (hos2.mono (fun x _ e => e.elim (fun e => (HSP.out x e).1) (fun e => (HSD.out x e).1))))
    have hee : (er == er) = true := by simp
    clear hos hos2 hot HS HOP HOD HC2
    go_wp2_with fail
    go_ret
    exact ⟨rfl, HEND.out, HPD.out⟩
  · have HCA := Lib.hid (fun w' (ho : Only (fun _ => False) w2 w') => (HH.out.quiet (HW2.out.trans ho)).rel (by have := HN.out; omega) a1 k1 c1 P amt (HR1.out.only ho (fun _ _ f => f)) HC1.out.1 HC1.out.2 HAP.out)
    go_upto_region 8 with fail
    refine wp_region_noPanic ?_
    refine wp_region_held_drew (S := (fun w' => w'.cell? ⟨g, 1, none⟩ = some (.int .i64 node) ∧ w'.cell? ⟨g, 4, none⟩ = some (.int .i64 amt) ∧ w'.cell? ⟨g, 5, none⟩ = some (.int .i64 grp))) (by kernel_rfl) (HS.out _ ((Only.refl _ _).drew)) (fun hHeld => ?_)
    obtain ⟨z0, hz0⟩ : ∃ x, x = w2.drew := ⟨_, rfl⟩
    rw [← hz0] at hHeld ⊢
    have hot : Hid (Only (fun _ => False) w2 z0) := Lib.hid (by rw [hz0]; exact (Only.refl _ _).drew)
    clear hz0
    refine sho.tk 0 ?_
    refine sho.tk 1 ?_
    refine sho.tk 2 ?_
    refine sho.tk 3 ?_
    refine sho.tk 5 ?_
    refine sho.tk 6 ?_
    refine sho.tk 7 ?_
    refine sho.tk 8 ?_
    refine wpAnyH_ready (rs := [4]) (by kernel_rfl) (by simp) ?_
    refine AllReadyH.cons rfl (fun K hK => ?_) AllReadyH.nil
    try simp only [List.getElem_toArray, List.getElem_cons_zero, List.getElem_cons_succ]
    go_simp
    go_at_call 12
    with_reducible refine (HCA.out _ hot.out).mono ?_
    rintro _ W1 ⟨er, rfl, hop, hc2⟩
    have HOP : Hid (Only Sp w2 W1) := Lib.hid ((hot.out.mono (fun _ _ f => f.elim)).trans hop)
    have HC2 := Lib.hid hc2
    have hos : Only (fun x => Sp x ∨ Sd x) w2 W1 := HOP.out.mono (fun x _ e => .inl e)
    clear hop hc2
    try dsimp only
    refine hK.out _ _ (HS.out _ hos) (fun hHeld1 => ?_)
    clear hK K
    try simp only [List.getElem_toArray, List.getElem_cons_zero, List.getElem_cons_succ, Act.put, List.setIfInBounds_toArray, List.set_cons_zero, List.set_cons_succ]
    refine wpAnyH_ready (rs := [9]) (by kernel_rfl) (by simp) ?_
    refine AllReadyH.cons rfl (fun K hK => ?_) AllReadyH.nil
    try simp only [List.getElem_toArray, List.getElem_cons_zero, List.getElem_cons_succ]
    go_simp
    go_at_call 54
    with_reducible refine HC2.out.mono ?_
    rintro _ W2 ⟨rfl, hod, hpd⟩
    have HOD := Lib.hid hod
    have HPD := Lib.hid hpd
    have hos2 : Only (fun x => Sp x ∨ Sd x) w2 W2 := (HOP.out.mono (fun x _ e => .inl e)).trans (hod.mono (fun x _ e => .inr e))
    clear hod hpd
    try dsimp only
    refine hK.out _ _ (HS.out _ hos2) (fun hHeld2 => ?_)
    clear hK K
    try simp only [List.getElem_toArray, List.getElem_cons_zero, List.getElem_cons_succ, Act.put, List.setIfInBounds_toArray, List.set_cons_zero, List.set_cons_succ]
    refine sho.tk 10 ?_
    refine sho.tk 11 ?_
    refine wpAnyH_done (by kernel_rfl) ?_ _
    refine NoPanic.normal ?_
    clear hHeld
    have HEND : Hid (Only (fun x => base ≤ x) w W2) := Lib.hid ((HW2.out.mono (fun _ _ f => f.elim)).trans (hos2.mono (fun x _ e => e.elim (fun e => (HSP.out x e).1) (fun e => (HSD.out x e).1))))
    have hee : (er == er) = true := by simp
    clear hos hos2 hot HS HOP HOD HC2
    go_wp2_with fail
    go_ret
    exact ⟨rfl, HEND.out, HPD.out⟩
  · have HCA := Lib.hid (fun w' (ho : Only (fun _ => False) w2 w') => (HH.out.quiet (HW2.out.trans ho)).com (by have := HN.out; omega) a1 k1 c1 P amt grp HGR.out (HR1.out.only ho (fun _ _ f => f)) HC1.out.1 HC1.out.2 HAP.out)
    go_upto_region 10 with fail
    refine wp_region_noPanic ?_
    refine wp_region_held_drew (S := (fun w' => w'.cell? ⟨g, 1, none⟩ = some (.int .i64 node) ∧ w'.cell? ⟨g, 4, none⟩ = some (.int .i64 amt) ∧ w'.cell? ⟨g, 5, none⟩ = some (.int .i64 grp))) (by kernel_rfl) (HS.out _ ((Only.refl _ _).drew)) (fun hHeld => ?_)
    obtain ⟨z0, hz0⟩ : ∃ x, x = w2.drew := ⟨_, rfl⟩
    rw [← hz0] at hHeld ⊢
    have hot : Hid (Only (fun _ => False) w2 z0) := Lib.hid (by rw [hz0]; exact (Only.refl _ _).drew)
    clear hz0
    refine sho.tk 0 ?_
    refine sho.tk 1 ?_
    refine sho.tk 2 ?_
    refine sho.tk 3 ?_
    refine sho.tk 4 ?_
    refine sho.tk 5 ?_
    refine sho.tk 7 ?_
    refine sho.tk 8 ?_
    refine sho.tk 9 ?_
    refine sho.tk 10 ?_
    refine sho.tk 11 ?_
    refine sho.tk 12 ?_
    refine wpAnyH_ready (rs := [6]) (by kernel_rfl) (by simp) ?_
    refine AllReadyH.cons rfl (fun K hK => ?_) AllReadyH.nil
    try simp only [List.getElem_toArray, List.getElem_cons_zero, List.getElem_cons_succ]
    go_simp
    go_at_call 13
    with_reducible refine (HCA.out _ hot.out).mono ?_
    rintro _ W1 ⟨er, rfl, hop, hc2⟩
    have HOP : Hid (Only Sp w2 W1) := Lib.hid ((hot.out.mono (fun _ _ f => f.elim)).trans hop)
    have HC2 := Lib.hid hc2
    have hos : Only (fun x => Sp x ∨ Sd x) w2 W1 := HOP.out.mono (fun x _ e => .inl e)
    clear hop hc2
    try dsimp only
    refine hK.out _ _ (HS.out _ hos) (fun hHeld1 => ?_)
    clear hK K
    try simp only [List.getElem_toArray, List.getElem_cons_zero, List.getElem_cons_succ, Act.put, List.setIfInBounds_toArray, List.set_cons_zero, List.set_cons_succ]
    refine wpAnyH_ready (rs := [13]) (by kernel_rfl) (by simp) ?_
    refine AllReadyH.cons rfl (fun K hK => ?_) AllReadyH.nil
    try simp only [List.getElem_toArray, List.getElem_cons_zero, List.getElem_cons_succ]
    go_simp
    go_at_call 55
    with_reducible refine HC2.out.mono ?_
    rintro _ W2 ⟨rfl, hod, hpd⟩
    have HOD := Lib.hid hod
    have HPD := Lib.hid hpd
    have hos2 : Only (fun x => Sp x ∨ Sd x) w2 W2 := (HOP.out.mono (fun x _ e => .inl e)).trans (hod.mono (fun x _ e => .inr e))
    clear hod hpd
    try dsimp only
    refine hK.out _ _ (HS.out _ hos2) (fun hHeld2 => ?_)
    clear hK K
    try simp only [List.getElem_toArray, List.getElem_cons_zero, List.getElem_cons_succ, Act.put, List.setIfInBounds_toArray, List.set_cons_zero, List.set_cons_succ]
    refine sho.tk 14 ?_
    refine sho.tk 15 ?_
    refine wpAnyH_done (by kernel_rfl) ?_ _
    refine NoPanic.normal ?_
    clear hHeld
    have HEND : Hid (Only (fun x => base ≤ x) w W2) := Lib.hid ((HW2.out.mono (fun _ _ f => f.elim)).trans (hos2.mono (fun x _ e => e.elim (fun e => (HSP.out x e).1) (fun e => (HSD.out x e).1))))
    have hee : (er == er) = true := by simp
    clear hos hos2 hot HS HOP HOD HC2
    go_wp2_with fail
    go_ret
    exact ⟨rfl, HEND.out, HPD.out⟩
  · have HCA := Lib.hid (fun w' (ho : Only (fun _ => False) w2 w') => (HH.out.quiet (HW2.out.trans ho)).ref (by have := HN.out; omega) a1 k1 c1 P amt grp HGR.out (HR1.out.only ho (fun _ _ f => f)) HC1.out.1 HC1.out.2 HAP.out)
    go_upto_region 12 with fail
    refine wp_region_noPanic ?_
    refine wp_region_held_drew (S := (fun w' => w'.cell? ⟨g, 1, none⟩ = some (.int .i64 node) ∧ w'.cell? ⟨g, 4, none⟩ = some (.int .i64 amt) ∧ w'.cell? ⟨g, 5, none⟩ = some (.int .i64 grp))) (by kernel_rfl) (HS.out _ ((Only.refl _ _).drew)) (fun hHeld => ?_)
    obtain ⟨z0, hz0⟩ : ∃ x, x = w2.drew := ⟨_, rfl⟩
    rw [← hz0] at hHeld ⊢
    have hot : Hid (Only (fun _ => False) w2 z0) := Lib.hid (by rw [hz0]; exact (Only.refl _ _).drew)
    clear hz0
    refine sho.tk 0 ?_
    refine sho.tk 1 ?_
    refine sho.tk 2 ?_
    refine sho.tk 3 ?_
    refine sho.tk 4 ?_
    refine sho.tk 5 ?_
    refine sho.tk 7 ?_
    refine sho.tk 8 ?_
    refine sho.tk 9 ?_
    refine sho.tk 10 ?_
    refine sho.tk 11 ?_
    refine sho.tk 12 ?_
    refine wpAnyH_ready (rs := [6]) (by kernel_rfl) (by simp) ?_
    refine AllReadyH.cons rfl (fun K hK => ?_) AllReadyH.nil
    try simp only [List.getElem_toArray, List.getElem_cons_zero, List.getElem_cons_succ]
    go_simp
    go_at_call 14
    with_reducible refine (HCA.out _ hot.out).mono ?_
    rintro _ W1 ⟨er, rfl, hop, hc2⟩
    have HOP : Hid (Only Sp w2 W1) := Lib.hid ((hot.out.mono (fun _ _ f => f.elim)).trans hop)
    have HC2 := Lib.hid hc2
    have hos : Only (fun x => Sp x ∨ Sd x) w2 W1 := HOP.out.mono (fun x _ e => .inl e)
    clear hop hc2
    try dsimp only
    refine hK.out _ _ (HS.out _ hos) (fun hHeld1 => ?_)
    clear hK K
    try simp only [List.getElem_toArray, List.getElem_cons_zero, List.getElem_cons_succ, Act.put, List.setIfInBounds_toArray, List.set_cons_zero, List.set_cons_succ]
    refine wpAnyH_ready (rs := [13]) (by kernel_rfl) (by simp) ?_
    refine AllReadyH.cons rfl (fun K hK => ?_) AllReadyH.nil
    try simp only [List.getElem_toArray, List.getElem_cons_zero, List.getElem_cons_succ]
    go_simp
    go_at_call 56
    with_reducible refine HC2.out.mono ?_
    rintro _ W2 ⟨rfl, hod, hpd⟩
    have HOD := Lib.hid hod
    have HPD := Lib.hid hpd
    have hos2 : Only (fun x => Sp x ∨ Sd x) w2 W2 := (HOP.out.mono (fun x _ e => .inl e)).trans (hod.mono (fun x _ e => .inr e))
    clear hod hpd
    try dsimp only
    refine hK.out _ _ (HS.out _ hos2) (fun hHeld2 => ?_)
    clear hK K
    try simp only [List.getElem_toArray, List.getElem_cons_zero, List.getElem_cons_succ, Act.put, List.setIfInBounds_toArray, List.set_cons_zero, List.set_cons_succ]
    refine sho.tk 14 ?_
    refine sho.tk 15 ?_
    refine wpAnyH_done (by kernel_rfl) ?_ _
    refine NoPanic.normal ?_
    clear hHeld
    have HEND : Hid (Only (fun x => base ≤ x) w W2) := Lib.hid ((HW2.out.mono (fun _ _ f => f.elim)).trans (hos2.mono (fun x _ e => e.elim (fun e => (HSP.out x e).1) (fun e => (HSD.out x e).1))))
    have hee : (er == er) = true := by simp
    clear hos hos2 hot HS HOP HOD HC2
    go_wp2_with fail
    go_ret
    exact ⟨rfl, HEND.out, HPD.out⟩
  · have d6 := (HD.out _ HO2.out).2.2.2.2.2.2
    go_wp2_with fail
    refine (HF3.out _ HO2.out).mono ?_
    rintro _ w3 ⟨a3, c3, rfl, hr3, hc3, hm3, hb3, ho3⟩
    have HO3 := Lib.hid ho3
    have HR3 := Lib.hid hr3
    have HA3 : Hid (∀ y, a3 = some y → ¬ Sp y.block ∧ ¬ Sd y.block) := Lib.hid (fun y hy => by
      have h1 := hb3 y hy
      have h2 := HW2.out.size
      exact ⟨fun e => by have := HSP.out _ e; omega, fun e => by have := HSD.out _ e; omega⟩)
    have HCA := Lib.hid ((HH.out.quiet (HW2.out.trans ho3)).roll (by have := HN.out; omega) a3 c3 CR hr3 HA3.out)
    clear ho3 hr3 hc3 hm3 hb3 d6
    obtain ⟨k3, hk3⟩ : ∃ x, x = CR.length := ⟨_, rfl⟩
    rw [← hk3] at HCA ⊢
    clear hk3
    go_wp2_with fail
    refine HCA.out.mono ?_
    rintro _ w4 ⟨s4, er, rfl, hop, hc2⟩
    have HOP := Lib.hid hop
    have HC2 := Lib.hid hc2
    clear hop hc2
    go_wp2_with fail
    refine HC2.out.mono ?_
    rintro _ w5 ⟨rfl, hod, hpd⟩
    have HPD := Lib.hid hpd
    have HEND : Hid (Only (fun x => base ≤ x) w w5) := Lib.hid (((HW2.out.trans HO3.out).mono (fun _ _ f => f.elim)).trans ((HOP.out.mono (fun x _ e => (HSP.out x e).1)).trans (hod.mono (fun x _ e => (HSD.out x e).1))))
    have hee : (er == er) = true := by simp
    have hss : (s4 == s4) = true := by simp
    clear hod hpd HC2 HCA HOP
    go_wp2_with fail
    go_ret
    exact ⟨rfl, HEND.out, HPD.out⟩
end Go.Proofs.YtkbaafgaaiekpaaGreat.pdw
namespace Go.Proofs.YtkbaafgaaiekpaaGreat.pdw
open Go.RowKit mem entm puw tre
open Go.ChangeShapes Go.WideShapes Go.ChangeAt
set_option linter.unusedVariables false

def ActAt (w : World) (b o : Nat) (x : AcT) : Prop :=
  w.cell? ⟨b, o, none⟩ = some (.int .i64 x.what) ∧ w.cell? ⟨b, o + 1, none⟩ = some (.int .i64 x.node) ∧ w.cell? ⟨b, o + 2, none⟩ = some (.slice x.pa x.pn x.pc) ∧ w.cell? ⟨b, o + 3, none⟩ = some (.slice x.la x.ln x.lc) ∧ w.cell? ⟨b, o + 4, none⟩ = some (.int .i64 x.amt) ∧ w.cell? ⟨b, o + 5, none⟩ = some (.int .i64 x.grp) ∧ w.cell? ⟨b, o + 6, none⟩ = some (.slice x.ca x.cn x.cc)
def RowT (w : World) (a : Option Addr) (len : Nat) : Prop := len ≤ maxLen ∧ (len = 0 ∨ ∃ b off, a = some ⟨b, off, none⟩ ∧ ∀ i, i < len → ∃ d, ActAt w b (off + i * 7) d ∧ ActR w d)
theorem readsI_keep {b : Nat} {w w' : World} {a : Option Addr} {n : Nat} {l : List Int} (h : ReadsI w a n l) (hb : w.heap.size ≤ b) (ho : Only (fun q => b ≤ q) w w') : ReadsI w' a n l := by
  by_cases hz : n = 0
  · exact ⟨h.1, h.2.1, h.2.2.1, .inl hz⟩
  · refine h.only ho (fun y hy hs => ?_)
    obtain ⟨c, off, rfl, hc⟩ := h.2.2.2.resolve_left hz
    cases hy
    have := World.block_lt_of_cell? w _ (hc 0 (by omega))
    have hs : b ≤ c := hs
    have this : c < w.heap.size := this
    omega
theorem ActR.keep {b : Nat} {w w' : World} {d : AcT} (h : ActR w d) (hb : w.heap.size ≤ b) (ho : Only (fun q => b ≤ q) w w') : ActR w' d :=
  ⟨h.nd, h.gr, ⟨readsI_keep h.p.1 hb ho, h.p.2⟩, ⟨readsI_keep h.l.1 hb ho, h.l.2⟩, ⟨readsI_keep h.c.1 hb ho, h.c.2⟩⟩
theorem ActAt.keep {b : Nat} {w w' : World} {p o : Nat} {d : AcT} (h : ActAt w p o d) (hb : w.heap.size ≤ b) (ho : Only (fun q => b ≤ q) w w') : ActAt w' p o d := by
  have hp : ¬ b ≤ p := by have := World.block_lt_of_cell? w _ h.1; simp only at this; omega
  obtain ⟨h0, h1, h2, h3, h4, h5, h6⟩ := h
  exact ⟨ho.cell' h0 hp, ho.cell' h1 hp, ho.cell' h2 hp, ho.cell' h3 hp, ho.cell' h4 hp, ho.cell' h5 hp, ho.cell' h6 hp⟩
theorem RowT.quiet {w w' : World} {a : Option Addr} {len : Nat} (h : RowT w a len) (ho : Only (fun _ => False) w w') : RowT w' a len := by
  refine ⟨h.1, h.2.imp (fun x => x) fun ⟨b, off, e, hc⟩ => ⟨b, off, e, fun i hi => ?_⟩⟩
  obtain ⟨d, hd, hin⟩ := hc i hi
  have ho' : Only (fun q => w.heap.size ≤ q) w w' := ho.mono (fun _ _ f => f.elim)
  exact ⟨d, hd.keep (Nat.le_refl _) ho', hin.keep (Nat.le_refl _) ho'⟩
def AcT.v (x : AcT) : Value := .agg #[.int .i64 x.what, .int .i64 x.node, .slice x.pa x.pn x.pc, .slice x.la x.ln x.lc, .int .i64 x.amt, .int .i64 x.grp, .slice x.ca x.cn x.cc]
section
variable {H : Type} {enc : TypeId × Value → H} {w : World} {base : Nat}
set_option maxRecDepth 100000 in
theorem act_open {fuel : Nat} {cs : Array Value} (hsz : cs.size = 7) {x : DataW H × List MemPlace} (h : DataW.trod enc Tryz.prog w base (fun _ => true) true fuel 51 (Value.agg cs).cells.toList = some x) : ∃ d : AcT, Value.agg cs = d.v ∧ ActR w d := by
  obtain ⟨ys, n', _, _, hlen, hyl, hf⟩ := DataW.trod_struct Tryz.underlying51 h
  obtain ⟨l⟩ := cs
  match l, ys, hsz, hyl, hf with
  | [c0, c1, c2, c3, c4, c5, c6], [y0, y1, y2, y3, y4, y5, y6], _, _, hf =>
    have f0 := hf 0 _ rfl
    have f1 := hf 1 _ rfl
    have f2 := hf 2 _ rfl
    have f3 := hf 3 _ rfl
    have f4 := hf 4 _ rfl
    have f5 := hf 5 _ rfl
    have f6 := hf 6 _ rfl
    have o1 : Tryz.prog.cellsOf 3 = 1 := by kernel_rfl
    have o2 : Tryz.prog.cellsOf 37 = 1 := by kernel_rfl
    simp [o1, o2, Value.cells] at f0 f1 f2 f3 f4 f5 f6
    obtain ⟨k0, hk0, _, _⟩ := DataW.trod_int Tryz.underlying3 f0
    obtain ⟨k1, hk1, _, wf1⟩ := DataW.trod_int Tryz.underlying3 f1
    obtain ⟨k4, hk4, _, _⟩ := DataW.trod_int Tryz.underlying3 f4
    obtain ⟨k5, hk5, _, wf5⟩ := DataW.trod_int Tryz.underlying3 f5
    obtain ⟨p2, n2, q2, e2⟩ : ∃ a n c, c2 = .slice a n c := by
      rcases Go.Deep.open_slice Tryz.underlying37 f2 with ⟨hcs, _⟩ | ⟨a, len2, cap2, m, n, D, Pq, hcs, _⟩
      · exact ⟨_, _, _, by simpa using hcs⟩
      · exact ⟨_, _, _, by simpa using hcs⟩
    obtain ⟨p3, n3, q3, e3⟩ : ∃ a n c, c3 = .slice a n c := by
      rcases Go.Deep.open_slice Tryz.underlying37 f3 with ⟨hcs, _⟩ | ⟨a, len2, cap2, m, n, D, Pq, hcs, _⟩
      · exact ⟨_, _, _, by simpa using hcs⟩
      · exact ⟨_, _, _, by simpa using hcs⟩
    obtain ⟨p6, n6, q6, e6⟩ : ∃ a n c, c6 = .slice a n c := by
      rcases Go.Deep.open_slice Tryz.underlying37 f6 with ⟨hcs, _⟩ | ⟨a, len2, cap2, m, n, D, Pq, hcs, _⟩
      · exact ⟨_, _, _, by simpa using hcs⟩
      · exact ⟨_, _, _, by simpa using hcs⟩
    subst e2 e3 e6
    obtain ⟨l2, r2⟩ := opu.ints_open f2
    obtain ⟨l3, r3⟩ := opu.ints_open f3
    obtain ⟨l6, r6⟩ := opu.ints_open f6
    simp at hk0 hk1 hk4 hk5
    subst hk0 hk1 hk4 hk5
    exact ⟨⟨k0, k1, p2, n2, q2, l2, p3, n3, q3, l3, k4, k5, p6, n6, q6, l6⟩, rfl, ⟨mem.int_of_wf wf1, mem.int_of_wf wf5, r2, r3, r6⟩⟩
set_option maxRecDepth 100000 in
theorem acts_open {fuel : Nat} {ao : Option Addr} {len cap : Nat} {x : DataW H × List MemPlace} (h : DataW.trod enc Tryz.prog w base (fun _ => true) true fuel 22 [.slice ao len cap] = some x) : RowT w ao len := by
  rcases Go.Deep.open_slice Tryz.underlying22 h with ⟨hcs, _⟩ | ⟨a, len2, cap2, m, n, D, Pq, hcs, hb, hl, hm, hmm, hx, hi⟩
  · simp at hcs
    obtain ⟨rfl, rfl, rfl⟩ := hcs
    exact ⟨by unfold maxLen; omega, .inl rfl⟩
  · simp at hcs
    obtain ⟨rfl, rfl, rfl⟩ := hcs
    simp at hmm
    have hC : Tryz.prog.cellsOf 51 = 7 := by kernel_rfl
    rw [hC] at hi
    have key : ∀ i, i < len → ∃ d : AcT, (∀ c, c < 7 → w.cell? ((a.add (i * 7)).add c) = d.v.cells.toList[c]?) ∧ ActR w d := by
      intro i hil
      obtain ⟨cs', hc, ht'⟩ := hi i (by omega)
      obtain ⟨_, hcl, hat⟩ := World.cells?_some hc
      obtain ⟨d, e, hd⟩ := act_open (cs := cs'.toArray) (by simpa using hcl) (by simpa [Value.cells] using ht')
      refine ⟨d, fun c hc' => ?_, hd⟩
      rw [hat c (by omega), ← e]
      simp [Value.cells]
    by_cases h0 : len = 0
    · subst h0
      exact ⟨by unfold maxLen; omega, .inl rfl⟩
    · obtain ⟨b, off, spot⟩ := a
      obtain ⟨d0, k0, _⟩ := key 0 (by omega)
      have hs0 := k0 0 (by omega)
      have hspot : spot = none := by
        have h9 : w.cell? (((⟨b, off, spot⟩ : Addr).add (0 * 7)).add 0) = some (.int .i64 d0.what) := hs0
        simpa [Addr.add] using World.cell?_spot h9
      subst hspot
      refine ⟨by omega, .inr ⟨b, off, rfl, fun i hil => ?_⟩⟩
      obtain ⟨d, hc, hd⟩ := key i hil
      have g : ∀ c, c < 7 → w.cell? ⟨b, off + i * 7 + c, none⟩ = d.v.cells.toList[c]? := fun c hc' => by
        have := hc c hc'
        rwa [add_none, add_none] at this
      exact ⟨d, ⟨g 0 (by omega), g 1 (by omega), g 2 (by omega), g 3 (by omega), g 4 (by omega), g 5 (by omega), g 6 (by omega)⟩, hd⟩
end
theorem zeroP_list : Tryz.zeroCells49.toList = fnd.av fnd.A0 ++ [.slice none 0 0, .slice none 0 0, .int .i64 0] := by kernel_rfl
theorem zeroP_at {w w1 : World} {q : Nat} (hw : w1 = w.alloc (.cells Tryz.zeroCells49 49)) (hq : q = w.heap.size) : dkw.DkAt fnd.A0 (fun k => k = q) w1 q (.slice none 0 0) (.slice none 0 0) 0 [] := by
  have hc : ∀ j v, (fnd.av fnd.A0 ++ [.slice none 0 0, .slice none 0 0, .int .i64 0])[j]? = some v → w1.cell? ⟨q, j, none⟩ = some v := fun j v hv => by
    rw [hw, hq, Go.Joins.cell_of_block (cs := Tryz.zeroCells49) (t := 49) (fr := (0, 0)) (by rw [heap_alloc, if_pos rfl]), ← Array.getElem?_toList, zeroP_list]
    exact hv
  have hlen : (fnd.av fnd.A0).length = 165 := by rw [fnd.av_length]; rfl
  have hf : ∀ j, w1.frozen? ⟨q, j, none⟩ = false := fun j => by rw [hw]; exact alloc_froz _ _ _ _ _ hq
  refine ⟨hc 165 _ ?_, hc 166 _ ?_, hc 167 _ ?_, hf _, hf _, hf _, by omega, World.ownsRow_nil _ _ _ _, World.ownsRow_nil _ _ _ _, rfl, (fun k e => by cases e), (fun k e => by cases e), (fun x hx => by cases hx), (by simp), fun k hk => fnd.AcAt.iff.2 fun c hc5 => ?_, fun j _ => hf j⟩
  · rw [List.getElem?_append_right (by rw [hlen]; omega), hlen]; rfl
  · rw [List.getElem?_append_right (by rw [hlen]; omega), hlen]; rfl
  · rw [List.getElem?_append_right (by rw [hlen]; omega), hlen]; rfl
  · have e := fnd.av_get fnd.A0 k c (by show k < 33; exact hk) hc5
    have hj : k * 5 + c < (fnd.av fnd.A0).length := by rw [hlen]; omega
    rw [hc (k * 5 + c) _ (by rw [List.getElem?_append_left hj]; exact List.getElem?_eq_getElem hj), ← e, List.getElem?_eq_getElem hj]
theorem PD.start {w w1 w2 : World} {p pb pj q : Nat} (hp : Pu (fun k => w.heap.size ≤ k) w1 p pb pj fnd.A0 0 (fun _ => none) []) (hw : w2 = w1.alloc (.cells Tryz.zeroCells49 49)) (hq : q = w1.heap.size) (hs : w.heap.size ≤ w1.heap.size) : PD w.heap.size p q 0 w2 := by
  have ho : Only (fun _ => False) w1 w2 := by rw [hw]; exact (Only.refl _ _).alloc _
  have hsz : w2.heap.size = w1.heap.size + 1 := by rw [hw]; exact mem.size_alloc _ _
  exact ⟨_, _, pb, pj, 0, fnd.A0, _, [], _, _, [], (pnew_v hp).quiet ho, zeroP_at hw hq, lkc.Lk.nil 0, rfl, Agree.start, fun k s => ⟨s.1, fun e => by have e : k = q := e; omega⟩, fun k e => by have e : k = q := e; omega⟩
end Go.Proofs.YtkbaafgaaiekpaaGreat.pdw
namespace Go.Proofs.YtkbaafgaaiekpaaGreat.pdw
open Go.RowKit mem entm puw tre
set_option linter.unusedVariables false

theorem run_buildT3 (k n g : Int) (w : World) : (Instr.build 56 #[(0, .int .i64 k), (1, .int .i64 n), (2, .int .i64 g)]).run Tryz.prog w = .ok (.agg #[.int .i64 k, .int .i64 n, .int .i64 g]) w := by kernel_rfl
section
variable {Sp Sd : Nat → Prop} {base p q pb pj n op : Nat} {A : List fnd.Ac} {C : AcC → Option (List Int)} {L : List jnw.Ps} {vL vW : Value} {D : List jnw.Es} {w : World}
end
end Go.Proofs.YtkbaafgaaiekpaaGreat.pdw
