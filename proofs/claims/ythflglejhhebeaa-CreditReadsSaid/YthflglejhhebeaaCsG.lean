/- Sessions with grants: the law's own example; to, from. -/
import Derived.Test.YthflglejhhebeaaCsF
namespace Go.Proofs.Ythflglejhhebeaa.cs
open Go.RowKit mem rwg
set_option linter.unusedVariables false

theorem info_rgr : (Try.prog.info? 92).map (fun i => (i.zero, i.size, i.bytes)) = some (some (.agg #[.int .i64 0, .int .i64 0, .int .i64 0, .bool false]), 4, 32) := by kernel_rfl
theorem cp_nil : Cp none 0 0 := ⟨Nat.le_refl _, Nat.zero_le _, fun _ => rfl⟩
theorem reads_nil (w : World) : ReadsG w none 0 [] := ReadsR.nil _ _ _
set_option maxRecDepth 100000 in
set_option maxHeartbeats 4000000 in
theorem credits_any (w : World) : Calls Try.prog 9 #[] w fun e w' => e = .returned (.bool true) ∧ Only (fun _ => False) w w' := by
  have HW : Hid (∀ w', Only (fun q => w.heap.size ≤ q) w w' → Only (fun _ => False) w w') := Lib.hid (fun w' ho => (Only.refl _ w).then ho (fun q hq e => by have e : w.heap.size ≤ q := e; omega))
  go_enter Try.func9, Try.ntmps9
  go_wp2_with fail
  refine (cnew_any 2 w (by omega) (by omega)).mono ?_
  rintro _ w1 ⟨rfl, hc, ho⟩
  have HC1 := Lib.hid hc
  have hsz := ho.size
  obtain ⟨p, hp⟩ : ∃ x, x = w.heap.size := ⟨_, rfl⟩
  have HO1 : Hid (Only (fun q => p ≤ q) w w1) := Lib.hid (ho.mono (fun _ _ f => f.elim))
  rw [← hp] at HC1 HW hsz ⊢
  clear hc ho hp
  go_wp2_with fail
  refine (cadd_any p 2 0 _ [] 5 1 0 0 none 0 0 [] _ HC1.out (reads_nil _) cp_nil (fun _ => ⟨rfl, rfl⟩) (by simp)).mono ?_
  rintro _ w2 ⟨rfl, ⟨v2, L2, hL, hc⟩, ho⟩
  rw [show addE 2 0 (List.map Sd.sx []) ⟨5, 1, 0, 0, []⟩ = 0 by decide]
  rw [show addK 2 0 (List.map Sd.sx []) ⟨5, 1, 0, 0, []⟩ = 5 by decide] at hc
  rw [show addL 2 0 (List.map Sd.sx []) ⟨5, 1, 0, 0, []⟩ = [⟨5, 1, 0, 0, []⟩] by decide] at hL
  have HC2 : Hid (PT (fun q => p ≤ q) w2 p 2 5 v2 L2) := Lib.hid (hc.mono (fun q _ s => s.elim (fun s => s) (fun s => Nat.le_trans hsz s)))
  have HO2 : Hid (Only (fun q => p ≤ q) w w2) := Lib.hid (HO1.out.trans ho)
  have hs2 : p ≤ w2.heap.size := by have := ho.size; omega
  clear hc ho
  go_wp2_with fail
  refine (cend_any p 2 5 v2 L2 5 _ HC2.out).mono ?_
  rintro _ w3 ⟨rfl, ⟨v3, L3, hL3, hc⟩, ho⟩
  rw [hL, show endE [⟨5, 1, 0, 0, []⟩] 5 = 0 by decide]
  rw [hL, show endL [⟨5, 1, 0, 0, []⟩] 5 = [] by decide] at hL3
  have HC3 : Hid (PT (fun q => p ≤ q) w3 p 2 5 v3 L3) := Lib.hid (hc.mono (fun q _ s => s.elim (fun s => s) (fun s => Nat.le_trans hs2 s)))
  have HO3 : Hid (Only (fun q => p ≤ q) w w3) := Lib.hid (HO2.out.trans ho)
  have hl3 : L3.length = 0 := by have := congrArg List.length hL3; simpa using this
  clear hc ho
  go_wp2_with fail
  refine (cadd_any p 2 5 v3 L3 5 1 0 0 none 0 0 [] _ HC3.out (reads_nil _) cp_nil (fun _ => ⟨rfl, rfl⟩) (by omega)).mono ?_
  rintro _ w4 ⟨rfl, ⟨v4, L4, hL4, hc⟩, ho⟩
  rw [hL3, show addE 2 5 [] ⟨5, 1, 0, 0, []⟩ = 13 by decide]
  rw [hL3, show addK 2 5 [] ⟨5, 1, 0, 0, []⟩ = 5 by decide] at hc
  have HC4 := Lib.hid hc
  have HO4 : Hid (Only (fun q => p ≤ q) w w4) := Lib.hid (HO3.out.trans ho)
  clear hc ho
  go_wp2_with fail
  refine (clast_any p 2 5 v4 L4 _ HC4.out).mono ?_
  rintro _ w5 ⟨rfl, ho⟩
  have HO5 := Lib.hid (HW.out _ (HO4.out.trans (ho.mono (fun _ _ f => f.elim))))
  clear ho
  go_wp2_with fail
  go_ret
  exact ⟨rfl, HO5.out⟩
/-- a session of the call's own: its grants in a row of its own -/
def Own5 (t : TypeId) (w : World) (i nd num dl : Int) (n : Nat) (gs : List Gr) (e : Ending) (w' : World) : Prop :=
  ∃ xa xc, e = .returned (.agg #[.int .i64 i, .int .i64 nd, .int .i64 num, .int .i64 dl, .slice xa n xc]) ∧ OwnR (EG t) w' (.slice xa n xc) gs ∧ (∀ y, xa = some y → w.heap.size ≤ y.block) ∧ (n = 0 → xa = none ∧ xc = 0) ∧ Only (fun _ => False) w w'
theorem Own5.gc {t : TypeId} {w w' : World} {n : Nat} {gs : List Gr} {xa : Option Addr} {xc : Nat} (hn : gs.length = n) (h : OwnR (EG t) w' (.slice xa n xc) gs) (h2 : ∀ y, xa = some y → w.heap.size ≤ y.block) (h3 : n = 0 → xa = none ∧ xc = 0) (h4 : Only (fun _ => False) w w') : GC w n gs xa xc w' := by
  subst hn
  obtain ⟨a, c, he, h5, h6, h7⟩ := own_G (t := t) h rfl
  injection he with e1 _ e3
  subst e1 e3
  exact ⟨h6, h5, fun y e => ⟨h2 y e, (h7 y e).2⟩, h3, h4⟩
set_option maxRecDepth 100000 in
set_option maxHeartbeats 8000000 in
theorem to_any (i nd num dl : Int) (a : Option Addr) (n c : Nat) (gs : List Gr) (w : World) (h : ReadsG w a n gs) (hc : Cp a n c) (hn : n ≤ 1000) :
    Calls Try.prog 33 #[.agg #[.int .i64 i, .int .i64 nd, .int .i64 num, .int .i64 dl, .slice a n c]] w (Own5 80 w i nd num dl n gs) := by
  obtain ⟨i0, hi, hz0, hz1, hz2⟩ := info_partsS info_gr
  obtain ⟨w1, hw1⟩ : ∃ x, x = w.alloc (.cells #[.int .i64 i, .int .i64 nd, .int .i64 num, .int .i64 dl, .slice a n c] 50) := ⟨_, rfl⟩
  obtain ⟨w2, hw2⟩ : ∃ x, x = w1.alloc (.cells #[.int .i64 0, .int .i64 0, .int .i64 0, .int .i64 0, .slice none 0 0] 25) := ⟨_, rfl⟩
  obtain ⟨w3, hw3⟩ : ∃ x, x = w2.alloc (.cells #[.int .i64 i, .int .i64 nd, .int .i64 num, .int .i64 dl, .slice none 0 0] 25) := ⟨_, rfl⟩
  obtain ⟨g, hg⟩ : ∃ x, x = w.heap.size := ⟨_, rfl⟩
  have hg2 : g + 1 = w1.heap.size := by rw [hw1, hg]; simp
  obtain ⟨g3, hg3⟩ : ∃ x, x = w2.heap.size := ⟨_, rfl⟩
  have hg32 : g3 = g + 2 := by rw [hg3, hw2, size_alloc]; omega
  have HG3 := Lib.hid hg32
  have hs3 : w3.heap.size = g + 3 := by rw [hw3, size_alloc]; omega
  obtain ⟨a0, a1, a2, a3, a4, oa⟩ := sbox hw1 hg
  obtain ⟨z0, z1, z2, z3, z4, oz⟩ := sbox hw2 hg2
  obtain ⟨b0, b1, b2, b3, b4, ob⟩ := sbox hw3 hg3
  have HZ : Hid (∀ k, k < 5 → ∃ u, w3.cell? ⟨g + 1, k, none⟩ = some u) := Lib.hid (fun k hk => by
    rcases (by omega : k = 0 ∨ k = 1 ∨ k = 2 ∨ k = 3 ∨ k = 4) with rfl | rfl | rfl | rfl | rfl
    · exact ⟨_, ob.cell' z0 (fun f => f)⟩
    · exact ⟨_, ob.cell' z1 (fun f => f)⟩
    · exact ⟨_, ob.cell' z2 (fun f => f)⟩
    · exact ⟨_, ob.cell' z3 (fun f => f)⟩
    · exact ⟨_, ob.cell' z4 (fun f => f)⟩)
  have HFZ : Hid (∀ j, w3.frozen? ⟨g + 1, j, none⟩ = false) := Lib.hid (fun j => by
    have hf : w2.frozen? ⟨g + 1, j, none⟩ = false := by rw [hw2]; exact sfrozen hg2 j
    exact (ob.frozen (p := ⟨g + 1, j, none⟩) (by show g + 1 < _; omega) (fun f => f)).trans hf)
  have HF3 : Hid (w3.frozen? ⟨g3, 4, none⟩ = false) := Lib.hid (by rw [hw3]; exact sfrozen hg3 4)
  have HA : Hid (w3.cell? ⟨g, 4, none⟩ = some (.slice a n c)) := Lib.hid ((oz.trans ob).cell' a4 (fun f => f))
  have HB : Hid (w3.cell? ⟨g3, 0, none⟩ = some (.int .i64 i) ∧ w3.cell? ⟨g3, 1, none⟩ = some (.int .i64 nd) ∧ w3.cell? ⟨g3, 2, none⟩ = some (.int .i64 num) ∧ w3.cell? ⟨g3, 3, none⟩ = some (.int .i64 dl) ∧ w3.cell? ⟨g3, 4, none⟩ = some (.slice none 0 0)) := Lib.hid ⟨b0, b1, b2, b3, b4⟩
  have HO3 := Lib.hid ((oa.trans oz).trans ob)
  replace a0 := oz.cell' a0 (fun f => f)
  replace a1 := oz.cell' a1 (fun f => f)
  replace a2 := oz.cell' a2 (fun f => f)
  replace a3 := oz.cell' a3 (fun f => f)
  replace a4 := oz.cell' a4 (fun f => f)
  have HS3 : Hid (w3.heap.size = g + 3 ∧ g = w.heap.size) := Lib.hid ⟨hs3, hg⟩
  have HRD := Lib.hid h
  have HL : Hid (gs.length = n) := Lib.hid h.1
  have hnc := hc.1
  have hcm := hc.2.1
  unfold maxLen at hcm
  clear h hc oa oz ob b0 b1 b2 b3 b4 z0 z1 z2 z3 z4 hg2 hg32 hs3
  go_enter Try.func33, Try.ntmps33
  go_upto_region 1 with fail
  simp only [← hw1, ← hg, ← hw2]
  clear hw1 hg hw2
  go_upto_region 2 with fail
  simp only [← hw3, ← hg3]
  clear hw3 hg3 a0 a1 a2 a3 a4
  go_wp2_with fail
  go_loopw [4] (fun iv wr => ∃ (k : Nat) (v : Value), k ≤ n ∧ iv = .int .i64 (k : Int) ∧ Hid ((wr.cell? ⟨g3, 0, none⟩ = some (.int .i64 i) ∧ wr.cell? ⟨g3, 1, none⟩ = some (.int .i64 nd) ∧ wr.cell? ⟨g3, 2, none⟩ = some (.int .i64 num) ∧ wr.cell? ⟨g3, 3, none⟩ = some (.int .i64 dl)) ∧ wr.cell? ⟨g3, 4, none⟩ = some v ∧ wr.frozen? ⟨g3, 4, none⟩ = false) ∧ Hid (OwnR (EG 80) wr v (gs.take k)) ∧ Hid (∀ q, v.ownBlock = some q → g + 3 ≤ q) ∧ Hid (k = 0 → v = .slice none 0 0) ∧ Hid (Only (fun q => q = g3) w3 wr)) (fun iv _ => n - (intOf iv).toNat)
  case atStart => exact ⟨0, .slice none 0 0, by omega, rfl, Lib.hid ⟨⟨HB.out.1, HB.out.2.1, HB.out.2.2.1, HB.out.2.2.2.1⟩, HB.out.2.2.2.2, HF3.out⟩, Lib.hid (OwnR.nil _ _), Lib.hid (fun q e => by cases e), Lib.hid (fun _ => rfl), Lib.hid (Only.refl _ _)⟩
  case round =>
    obtain ⟨k, v, hk, rfl, HV, HW, HBK, HK0, HO⟩ := hrel
    rename World => wr
    have ha := HO.out.cell' HA.out (fun e => by have e : g = g3 := e; have := HG3.out; omega)
    by_cases h8 : k < n
    · have hk0 : (0 : Int) ≤ (k : Int) := by omega
      have hkn : (k : Int) < (n : Int) := by omega
      have hwk : wrap64 ((k : Int) + 1) = (k : Int) + 1 := by unfold wrap64; omega
      obtain ⟨b, off, rfl, hcell⟩ := HRD.out.cells (by omega)
      have hne : wr.cell? ⟨b, off + k * 4, none⟩ = some (.int .i64 (gs.getD k default).g) ∧ wr.cell? ⟨b, off + k * 4 + 1, none⟩ = some (.int .i64 (gs.getD k default).u) ∧ wr.cell? ⟨b, off + k * 4 + 2, none⟩ = some (.int .i64 (gs.getD k default).a) ∧ wr.cell? ⟨b, off + k * 4 + 3, none⟩ = some (.bool (gs.getD k default).f) := by
        obtain ⟨h0, h1, h2, h3⟩ := hcell k h8
        have hb : ¬ b = g3 := by
          have := HG3.out
          have := World.block_lt_of_cell? w _ h0
          have e : b < w.heap.size := this
          have := HS3.out
          omega
        exact ⟨HO.out.cell' (HO3.out.cell' h0 (fun f => f)) hb, HO.out.cell' (HO3.out.cell' h1 (fun f => f)) hb, HO.out.cell' (HO3.out.cell' h2 (fun f => f)) hb, HO.out.cell' (HO3.out.cell' h3 (fun f => f)) hb⟩
      obtain ⟨c0, c1, c2, c3⟩ := hne
      have HTS : Hid (gs.take (k + 1) = gs.take k ++ [gs.getD k default]) := Lib.hid (take_getG gs k (by rw [HL.out]; exact h8))
      have HTL : Hid ((gs.take k).length = k) := Lib.hid (by rw [List.length_take, HL.out]; omega)
      generalize gs.getD k default = x at *
      obtain ⟨xg, xu, xa, xf⟩ := x
      dsimp only at c0 c1 c2 c3
      obtain ⟨va, vc, hv, -, -, -, -, -⟩ := HW.out.reads
      rw [HTL.out] at hv
      subst hv
      obtain ⟨wq, hwq⟩ : ∃ z, z = wr.alloc (.cells #[.int .i64 xg, .int .i64 xu, .int .i64 xa, .bool xf] 92) := ⟨_, rfl⟩
      obtain ⟨g9, hg9⟩ : ∃ z, z = wr.heap.size := ⟨_, rfl⟩
      obtain ⟨e0, e1, e2, e3, hoq⟩ := gbox hwq hg9
      have hv := hoq.cell' HV.out.2.1 (fun f => f)
      have hfv : wq.frozen? ⟨g3, 4, none⟩ = false := (hoq.frozen (p := ⟨g3, 4, none⟩) (World.block_lt_of_cell? wr _ HV.out.2.1) (fun f => f)).trans HV.out.2.2
      have HWQ : Hid (Only (fun q => q = g3) w3 wq) := Lib.hid (HO.out.trans (hoq.mono (fun _ _ f => f.elim)))
      have HOW2 : Hid (∀ o, (wq.alloc o).ownsRow 0 80 4 (.slice va k vc) k (gv (EG 0) (gs.take k))) := Lib.hid (fun o => by
        have h := HW.out.quiet (hoq.alloc o)
        unfold OwnR at h
        rw [HTL.out] at h
        exact h)
      have HRQ := Lib.hid hoq
      clear hcell hoq
      go_upto_region 6 with fail
      simp only [← hwq, ← hg9]
      clear hwq hg9 c0 c1 c2 c3
      go_wp2_with (at_builtin; refine append_mine rfl _ _ 23 rfl 80 i0 _ 4 32 Try.underlying23 hi hz0 hz1 hz2 rfl (by decide) (.slice va k vc) k _ rfl (HOW2.out _) ⟨wq.heap.size, 0, none⟩ 1 1 (encG ⟨xg, xu, xa, xf⟩) rfl ?c1 ?c2 ?c3 ?c4 ?c5 ?_)
      case c1 => rfl
      case c2 =>
        intro j u hu
        rw [add_none, Nat.zero_add]
        exact news_one (EG 0) (x := ⟨xg, xu, xa, xf⟩) rfl rfl j u hu
      case c3 => exact (EG 0).one ⟨xg, xu, xa, xf⟩
      case c4 => (unfold maxLen; omega)
      case c5 => omega
      intro v7 w7 hown hgrow hkk
      obtain ⟨gq, bc, rfl, -⟩ := owns_form hown (by omega)
      have hgo := Only.of_grown hgrow
      have hal : Only (fun _ => False) wq (wq.alloc (.cells #[.int .i64 xg, .int .i64 xu, .int .i64 xa, .bool xf] 80)) := (Only.refl _ _).alloc _
      have HOW7 : Hid (OwnR (EG 80) w7 (.slice (some ⟨gq, 0, none⟩) (k + 1) bc) (gs.take (k + 1))) := Lib.hid (by rw [HTS.out]; exact OwnR.app (E := EG 80) hown HTL.out)
      have hbg : ∀ q, (.slice va k vc : Value).ownBlock = some q → ¬ g3 = q := fun q e e2 => by have := HBK.out q e; have := HG3.out; omega
      have hv7 := hgo.cell' (hal.cell' hv (fun f => f)) (fun e => hbg _ e rfl)
      have hf7 : w7.frozen? ⟨g3, 4, none⟩ = false := (hgo.frozen (p := ⟨g3, 4, none⟩) (World.block_lt_of_cell? _ _ (hal.cell' hv (fun f => f))) (fun e => hbg _ e rfl)).trans ((hal.frozen (p := ⟨g3, 4, none⟩) (World.block_lt_of_cell? wq _ hv) (fun f => f)).trans hfv)
      have hsz : w3.heap.size ≤ wq.heap.size := HWQ.out.size
      have HBK7 : Hid (∀ q, (.slice (some ⟨gq, 0, none⟩) (k + 1) bc : Value).ownBlock = some q → g + 3 ≤ q) := Lib.hid (fun q e => by
        rcases hkk q e with e2 | e2
        · exact HBK.out q e2
        · have := HS3.out
          omega)
      have HO7 : Hid (Only (fun q => q = g3) w3 w7) := Lib.hid ((HWQ.out.trans (hal.mono (fun _ _ f => f.elim))).then hgo (fun q hq e => by have := HBK.out q e; have := HS3.out; omega))
      obtain ⟨w8, hw8⟩ : ∃ z, z = w7.setCell ⟨g3, 4, none⟩ (.slice (some ⟨gq, 0, none⟩) (k + 1) bc) := ⟨_, rfl⟩
      have hset : Only (fun q => q = g3) w7 w8 := by rw [hw8]; exact Only.set (fun q => q = g3) w7 g3 4 _ rfl
      have hq4 : ∀ (j : Nat) (u : Value), j ≠ 4 → wr.cell? ⟨g3, j, none⟩ = some u → w8.cell? ⟨g3, j, none⟩ = some u := fun j u hj hu => by
        rw [hw8, cell_other (fun e => by injection e with _ e _; omega)]
        exact hgo.cell' (hal.cell' (HRQ.out.cell' hu (fun f => f)) (fun f => f)) (fun e => hbg _ e rfl)
      have HV8 : Hid ((w8.cell? ⟨g3, 0, none⟩ = some (.int .i64 i) ∧ w8.cell? ⟨g3, 1, none⟩ = some (.int .i64 nd) ∧ w8.cell? ⟨g3, 2, none⟩ = some (.int .i64 num) ∧ w8.cell? ⟨g3, 3, none⟩ = some (.int .i64 dl)) ∧ w8.cell? ⟨g3, 4, none⟩ = some (.slice (some ⟨gq, 0, none⟩) (k + 1) bc) ∧ w8.frozen? ⟨g3, 4, none⟩ = false) := Lib.hid ⟨⟨hq4 0 _ (by omega) HV.out.1.1, hq4 1 _ (by omega) HV.out.1.2.1, hq4 2 _ (by omega) HV.out.1.2.2.1, hq4 3 _ (by omega) HV.out.1.2.2.2⟩, by rw [hw8]; exact cell_same hv7, by rw [hw8]; exact frozen_set.trans hf7⟩
      have HOW8 : Hid (OwnR (EG 80) w8 (.slice (some ⟨gq, 0, none⟩) (k + 1) bc) (gs.take (k + 1))) := Lib.hid (HOW7.out.only hset (fun q e e2 => by have := HBK7.out q e; have e2 : q = g3 := e2; have := HG3.out; omega))
      have HO8 := Lib.hid (HO7.out.trans hset)
      clear hown hgrow hkk hgo hal hset hbg hsz HOW2 hv hq4
      go_wp2_with fail
      rw [← hw8]
      clear hw8
      go_roundw
      case rel => exact ⟨k + 1, _, by omega, by go_num, HV8, HOW8, HBK7, Lib.hid (fun e => by omega), HO8⟩
      case measure => (simp [intOf]; omega)
    · obtain rfl : k = n := by omega
      have hkn : ¬ (k : Int) < (k : Int) := by omega
      have HOW := HW.out
      rw [List.take_of_length_le (by rw [HL.out]; exact Nat.le_refl _)] at HOW
      obtain ⟨va, vc, hv, -, -, -, -, -⟩ := HOW.reads
      rw [HL.out] at hv
      subst hv
      have HOX := Lib.hid HOW
      have y4 := HV.out.2.1
      obtain ⟨y0, y1, y2, y3⟩ := HV.out.1
      have hne1 : ¬ g + 1 = g3 := by have := HG3.out; omega
      have hzf : ∀ j, wr.frozen? ⟨g + 1, j, none⟩ = false := fun j => (HO.out.frozen (p := ⟨g + 1, j, none⟩) (by have := HS3.out; show g + 1 < _; omega) hne1).trans (HFZ.out j)
      obtain ⟨z0, hz0⟩ := HZ.out 0 (by omega)
      obtain ⟨z1, hz1⟩ := HZ.out 1 (by omega)
      obtain ⟨z2, hz2⟩ := HZ.out 2 (by omega)
      obtain ⟨z3, hz3⟩ := HZ.out 3 (by omega)
      obtain ⟨z4, hz4⟩ := HZ.out 4 (by omega)
      replace hz0 := HO.out.cell' hz0 hne1
      replace hz1 := HO.out.cell' hz1 hne1
      replace hz2 := HO.out.cell' hz2 hne1
      replace hz3 := HO.out.cell' hz3 hne1
      replace hz4 := HO.out.cell' hz4 hne1
      go_wp2_with fail
      have z := putsR_cell (g + 1) [.int .i64 i, .int .i64 nd, .int .i64 num, .int .i64 dl, .slice va k vc] 0 wr (fun k hk => by
        have hk : k < 5 := hk
        rcases (by omega : k = 0 ∨ k = 1 ∨ k = 2 ∨ k = 3 ∨ k = 4) with rfl | rfl | rfl | rfl | rfl
        · exact ⟨_, hz0⟩
        · exact ⟨_, hz1⟩
        · exact ⟨_, hz2⟩
        · exact ⟨_, hz3⟩
        · exact ⟨_, hz4⟩)
      have x0 := z 0 _ rfl
      have x1 := z 1 _ rfl
      have x2 := z 2 _ rfl
      have x3 := z 3 _ rfl
      have x4 := z 4 _ rfl
      simp only [putsR, Nat.zero_add] at x0 x1 x2 x3 x4
      have hoW := putsR_only (g + 1) [.int .i64 i, .int .i64 nd, .int .i64 num, .int .i64 dl, .slice va k vc] 0 wr
      refine bodyPost_ret (v := .agg #[.int .i64 i, .int .i64 nd, .int .i64 num, .int .i64 dl, .slice va k vc]) (by simp [results, Try.results33, go_sem, x0, x1, x2, x3, x4]) rfl ⟨va, vc, rfl, ?_⟩
      have hoW2 : Only (fun q => q = g + 1) wr (putsR (g + 1) 0 [.int .i64 i, .int .i64 nd, .int .i64 num, .int .i64 dl, .slice va k vc] wr) := hoW
      have hs3 := HS3.out
      have hg3 := HG3.out
      refine ⟨HOX.out.only hoW2 (fun q e e2 => ?_), fun y e => ?_, fun e => ?_, (HO3.out.then HO.out (fun q hq e => ?_)).then hoW2 (fun q hq e => ?_)⟩
      · have := HBK.out q e
        have e2 : q = g + 1 := e2
        omega
      · have := HBK.out y.block (by rw [e]; rfl)
        omega
      · have := HK0.out e
        injection this with h1 _ h3
        exact ⟨h1, h3⟩
      · have e : q = g3 := e
        omega
      · have e : q = g + 1 := e
        omega
set_option maxRecDepth 100000 in
set_option maxHeartbeats 8000000 in
theorem from_any (i nd num dl : Int) (a : Option Addr) (n c : Nat) (gs : List Gr) (w : World) (h : ReadsG w a n gs) (hc : Cp a n c) (hn : n ≤ 1000) :
    Calls Try.prog 39 #[.agg #[.int .i64 i, .int .i64 nd, .int .i64 num, .int .i64 dl, .slice a n c]] w (Own5 92 w i nd num dl n gs) := by
  obtain ⟨i0, hi, hz0, hz1, hz2⟩ := info_partsS info_rgr
  obtain ⟨w1, hw1⟩ : ∃ x, x = w.alloc (.cells #[.int .i64 i, .int .i64 nd, .int .i64 num, .int .i64 dl, .slice a n c] 25) := ⟨_, rfl⟩
  obtain ⟨w2, hw2⟩ : ∃ x, x = w1.alloc (.cells #[.int .i64 0, .int .i64 0, .int .i64 0, .int .i64 0, .slice none 0 0] 50) := ⟨_, rfl⟩
  obtain ⟨w3, hw3⟩ : ∃ x, x = w2.alloc (.cells #[.int .i64 i, .int .i64 nd, .int .i64 num, .int .i64 dl, .slice none 0 0] 50) := ⟨_, rfl⟩
  obtain ⟨g, hg⟩ : ∃ x, x = w.heap.size := ⟨_, rfl⟩
  have hg2 : g + 1 = w1.heap.size := by rw [hw1, hg]; simp
  obtain ⟨g3, hg3⟩ : ∃ x, x = w2.heap.size := ⟨_, rfl⟩
  have hg32 : g3 = g + 2 := by rw [hg3, hw2, size_alloc]; omega
  have HG3 := Lib.hid hg32
  have hs3 : w3.heap.size = g + 3 := by rw [hw3, size_alloc]; omega
  obtain ⟨a0, a1, a2, a3, a4, oa⟩ := sbox hw1 hg
  obtain ⟨z0, z1, z2, z3, z4, oz⟩ := sbox hw2 hg2
  obtain ⟨b0, b1, b2, b3, b4, ob⟩ := sbox hw3 hg3
  have HZ : Hid (∀ k, k < 5 → ∃ u, w3.cell? ⟨g + 1, k, none⟩ = some u) := Lib.hid (fun k hk => by
    rcases (by omega : k = 0 ∨ k = 1 ∨ k = 2 ∨ k = 3 ∨ k = 4) with rfl | rfl | rfl | rfl | rfl
    · exact ⟨_, ob.cell' z0 (fun f => f)⟩
    · exact ⟨_, ob.cell' z1 (fun f => f)⟩
    · exact ⟨_, ob.cell' z2 (fun f => f)⟩
    · exact ⟨_, ob.cell' z3 (fun f => f)⟩
    · exact ⟨_, ob.cell' z4 (fun f => f)⟩)
  have HFZ : Hid (∀ j, w3.frozen? ⟨g + 1, j, none⟩ = false) := Lib.hid (fun j => by
    have hf : w2.frozen? ⟨g + 1, j, none⟩ = false := by rw [hw2]; exact sfrozen hg2 j
    exact (ob.frozen (p := ⟨g + 1, j, none⟩) (by show g + 1 < _; omega) (fun f => f)).trans hf)
  have HF3 : Hid (w3.frozen? ⟨g3, 4, none⟩ = false) := Lib.hid (by rw [hw3]; exact sfrozen hg3 4)
  have HA : Hid (w3.cell? ⟨g, 4, none⟩ = some (.slice a n c)) := Lib.hid ((oz.trans ob).cell' a4 (fun f => f))
  have HB : Hid (w3.cell? ⟨g3, 0, none⟩ = some (.int .i64 i) ∧ w3.cell? ⟨g3, 1, none⟩ = some (.int .i64 nd) ∧ w3.cell? ⟨g3, 2, none⟩ = some (.int .i64 num) ∧ w3.cell? ⟨g3, 3, none⟩ = some (.int .i64 dl) ∧ w3.cell? ⟨g3, 4, none⟩ = some (.slice none 0 0)) := Lib.hid ⟨b0, b1, b2, b3, b4⟩
  have HO3 := Lib.hid ((oa.trans oz).trans ob)
  replace a0 := oz.cell' a0 (fun f => f)
  replace a1 := oz.cell' a1 (fun f => f)
  replace a2 := oz.cell' a2 (fun f => f)
  replace a3 := oz.cell' a3 (fun f => f)
  replace a4 := oz.cell' a4 (fun f => f)
  have HS3 : Hid (w3.heap.size = g + 3 ∧ g = w.heap.size) := Lib.hid ⟨hs3, hg⟩
  have HRD := Lib.hid h
  have HL : Hid (gs.length = n) := Lib.hid h.1
  have hnc := hc.1
  have hcm := hc.2.1
  unfold maxLen at hcm
  clear h hc oa oz ob b0 b1 b2 b3 b4 z0 z1 z2 z3 z4 hg2 hg32 hs3
  go_enter Try.func39, Try.ntmps39
  go_upto_region 1 with fail
  simp only [← hw1, ← hg, ← hw2]
  clear hw1 hg hw2
  go_upto_region 2 with fail
  simp only [← hw3, ← hg3]
  clear hw3 hg3 a0 a1 a2 a3 a4
  go_wp2_with fail
  go_loopw [4] (fun iv wr => ∃ (k : Nat) (v : Value), k ≤ n ∧ iv = .int .i64 (k : Int) ∧ Hid ((wr.cell? ⟨g3, 0, none⟩ = some (.int .i64 i) ∧ wr.cell? ⟨g3, 1, none⟩ = some (.int .i64 nd) ∧ wr.cell? ⟨g3, 2, none⟩ = some (.int .i64 num) ∧ wr.cell? ⟨g3, 3, none⟩ = some (.int .i64 dl)) ∧ wr.cell? ⟨g3, 4, none⟩ = some v ∧ wr.frozen? ⟨g3, 4, none⟩ = false) ∧ Hid (OwnR (EG 92) wr v (gs.take k)) ∧ Hid (∀ q, v.ownBlock = some q → g + 3 ≤ q) ∧ Hid (k = 0 → v = .slice none 0 0) ∧ Hid (Only (fun q => q = g3) w3 wr)) (fun iv _ => n - (intOf iv).toNat)
  case atStart => exact ⟨0, .slice none 0 0, by omega, rfl, Lib.hid ⟨⟨HB.out.1, HB.out.2.1, HB.out.2.2.1, HB.out.2.2.2.1⟩, HB.out.2.2.2.2, HF3.out⟩, Lib.hid (OwnR.nil _ _), Lib.hid (fun q e => by cases e), Lib.hid (fun _ => rfl), Lib.hid (Only.refl _ _)⟩
  case round =>
    obtain ⟨k, v, hk, rfl, HV, HW, HBK, HK0, HO⟩ := hrel
    rename World => wr
    have ha := HO.out.cell' HA.out (fun e => by have e : g = g3 := e; have := HG3.out; omega)
    by_cases h8 : k < n
    · have hk0 : (0 : Int) ≤ (k : Int) := by omega
      have hkn : (k : Int) < (n : Int) := by omega
      have hwk : wrap64 ((k : Int) + 1) = (k : Int) + 1 := by unfold wrap64; omega
      obtain ⟨b, off, rfl, hcell⟩ := HRD.out.cells (by omega)
      have hne : wr.cell? ⟨b, off + k * 4, none⟩ = some (.int .i64 (gs.getD k default).g) ∧ wr.cell? ⟨b, off + k * 4 + 1, none⟩ = some (.int .i64 (gs.getD k default).u) ∧ wr.cell? ⟨b, off + k * 4 + 2, none⟩ = some (.int .i64 (gs.getD k default).a) ∧ wr.cell? ⟨b, off + k * 4 + 3, none⟩ = some (.bool (gs.getD k default).f) := by
        obtain ⟨h0, h1, h2, h3⟩ := hcell k h8
        have hb : ¬ b = g3 := by
          have := HG3.out
          have := World.block_lt_of_cell? w _ h0
          have e : b < w.heap.size := this
          have := HS3.out
          omega
        exact ⟨HO.out.cell' (HO3.out.cell' h0 (fun f => f)) hb, HO.out.cell' (HO3.out.cell' h1 (fun f => f)) hb, HO.out.cell' (HO3.out.cell' h2 (fun f => f)) hb, HO.out.cell' (HO3.out.cell' h3 (fun f => f)) hb⟩
      obtain ⟨c0, c1, c2, c3⟩ := hne
      have HTS : Hid (gs.take (k + 1) = gs.take k ++ [gs.getD k default]) := Lib.hid (take_getG gs k (by rw [HL.out]; exact h8))
      have HTL : Hid ((gs.take k).length = k) := Lib.hid (by rw [List.length_take, HL.out]; omega)
      generalize gs.getD k default = x at *
      obtain ⟨xg, xu, xa, xf⟩ := x
      dsimp only at c0 c1 c2 c3
      obtain ⟨va, vc, hv, -, -, -, -, -⟩ := HW.out.reads
      rw [HTL.out] at hv
      subst hv
      obtain ⟨wq, hwq⟩ : ∃ z, z = wr.alloc (.cells #[.int .i64 xg, .int .i64 xu, .int .i64 xa, .bool xf] 80) := ⟨_, rfl⟩
      obtain ⟨g9, hg9⟩ : ∃ z, z = wr.heap.size := ⟨_, rfl⟩
      obtain ⟨e0, e1, e2, e3, hoq⟩ := gbox hwq hg9
      have hv := hoq.cell' HV.out.2.1 (fun f => f)
      have hfv : wq.frozen? ⟨g3, 4, none⟩ = false := (hoq.frozen (p := ⟨g3, 4, none⟩) (World.block_lt_of_cell? wr _ HV.out.2.1) (fun f => f)).trans HV.out.2.2
      have HWQ : Hid (Only (fun q => q = g3) w3 wq) := Lib.hid (HO.out.trans (hoq.mono (fun _ _ f => f.elim)))
      have HOW2 : Hid (∀ o, (wq.alloc o).ownsRow 0 92 4 (.slice va k vc) k (gv (EG 0) (gs.take k))) := Lib.hid (fun o => by
        have h := HW.out.quiet (hoq.alloc o)
        unfold OwnR at h
        rw [HTL.out] at h
        exact h)
      have HRQ := Lib.hid hoq
      clear hcell hoq
      go_upto_region 6 with fail
      simp only [← hwq, ← hg9]
      clear hwq hg9 c0 c1 c2 c3
      go_wp2_with (at_builtin; refine append_mine rfl _ _ 48 rfl 92 i0 _ 4 32 Try.underlying48 hi hz0 hz1 hz2 rfl (by decide) (.slice va k vc) k _ rfl (HOW2.out _) ⟨wq.heap.size, 0, none⟩ 1 1 (encG ⟨xg, xu, xa, xf⟩) rfl ?c1 ?c2 ?c3 ?c4 ?c5 ?_)
      case c1 => rfl
      case c2 =>
        intro j u hu
        rw [add_none, Nat.zero_add]
        exact news_one (EG 0) (x := ⟨xg, xu, xa, xf⟩) rfl rfl j u hu
      case c3 => exact (EG 0).one ⟨xg, xu, xa, xf⟩
      case c4 => (unfold maxLen; omega)
      case c5 => omega
      intro v7 w7 hown hgrow hkk
      obtain ⟨gq, bc, rfl, -⟩ := owns_form hown (by omega)
      have hgo := Only.of_grown hgrow
      have hal : Only (fun _ => False) wq (wq.alloc (.cells #[.int .i64 xg, .int .i64 xu, .int .i64 xa, .bool xf] 92)) := (Only.refl _ _).alloc _
      have HOW7 : Hid (OwnR (EG 92) w7 (.slice (some ⟨gq, 0, none⟩) (k + 1) bc) (gs.take (k + 1))) := Lib.hid (by rw [HTS.out]; exact OwnR.app (E := EG 92) hown HTL.out)
      have hbg : ∀ q, (.slice va k vc : Value).ownBlock = some q → ¬ g3 = q := fun q e e2 => by have := HBK.out q e; have := HG3.out; omega
      have hv7 := hgo.cell' (hal.cell' hv (fun f => f)) (fun e => hbg _ e rfl)
      have hf7 : w7.frozen? ⟨g3, 4, none⟩ = false := (hgo.frozen (p := ⟨g3, 4, none⟩) (World.block_lt_of_cell? _ _ (hal.cell' hv (fun f => f))) (fun e => hbg _ e rfl)).trans ((hal.frozen (p := ⟨g3, 4, none⟩) (World.block_lt_of_cell? wq _ hv) (fun f => f)).trans hfv)
      have hsz : w3.heap.size ≤ wq.heap.size := HWQ.out.size
      have HBK7 : Hid (∀ q, (.slice (some ⟨gq, 0, none⟩) (k + 1) bc : Value).ownBlock = some q → g + 3 ≤ q) := Lib.hid (fun q e => by
        rcases hkk q e with e2 | e2
        · exact HBK.out q e2
        · have := HS3.out
          omega)
      have HO7 : Hid (Only (fun q => q = g3) w3 w7) := Lib.hid ((HWQ.out.trans (hal.mono (fun _ _ f => f.elim))).then hgo (fun q hq e => by have := HBK.out q e; have := HS3.out; omega))
      obtain ⟨w8, hw8⟩ : ∃ z, z = w7.setCell ⟨g3, 4, none⟩ (.slice (some ⟨gq, 0, none⟩) (k + 1) bc) := ⟨_, rfl⟩
      have hset : Only (fun q => q = g3) w7 w8 := by rw [hw8]; exact Only.set (fun q => q = g3) w7 g3 4 _ rfl
      have hq4 : ∀ (j : Nat) (u : Value), j ≠ 4 → wr.cell? ⟨g3, j, none⟩ = some u → w8.cell? ⟨g3, j, none⟩ = some u := fun j u hj hu => by
        rw [hw8, cell_other (fun e => by injection e with _ e _; omega)]
        exact hgo.cell' (hal.cell' (HRQ.out.cell' hu (fun f => f)) (fun f => f)) (fun e => hbg _ e rfl)
      have HV8 : Hid ((w8.cell? ⟨g3, 0, none⟩ = some (.int .i64 i) ∧ w8.cell? ⟨g3, 1, none⟩ = some (.int .i64 nd) ∧ w8.cell? ⟨g3, 2, none⟩ = some (.int .i64 num) ∧ w8.cell? ⟨g3, 3, none⟩ = some (.int .i64 dl)) ∧ w8.cell? ⟨g3, 4, none⟩ = some (.slice (some ⟨gq, 0, none⟩) (k + 1) bc) ∧ w8.frozen? ⟨g3, 4, none⟩ = false) := Lib.hid ⟨⟨hq4 0 _ (by omega) HV.out.1.1, hq4 1 _ (by omega) HV.out.1.2.1, hq4 2 _ (by omega) HV.out.1.2.2.1, hq4 3 _ (by omega) HV.out.1.2.2.2⟩, by rw [hw8]; exact cell_same hv7, by rw [hw8]; exact frozen_set.trans hf7⟩
      have HOW8 : Hid (OwnR (EG 92) w8 (.slice (some ⟨gq, 0, none⟩) (k + 1) bc) (gs.take (k + 1))) := Lib.hid (HOW7.out.only hset (fun q e e2 => by have := HBK7.out q e; have e2 : q = g3 := e2; have := HG3.out; omega))
      have HO8 := Lib.hid (HO7.out.trans hset)
      clear hown hgrow hkk hgo hal hset hbg hsz HOW2 hv hq4
      go_wp2_with fail
      rw [← hw8]
      clear hw8
      go_roundw
      case rel => exact ⟨k + 1, _, by omega, by go_num, HV8, HOW8, HBK7, Lib.hid (fun e => by omega), HO8⟩
      case measure => (simp [intOf]; omega)
    · obtain rfl : k = n := by omega
      have hkn : ¬ (k : Int) < (k : Int) := by omega
      have HOW := HW.out
      rw [List.take_of_length_le (by rw [HL.out]; exact Nat.le_refl _)] at HOW
      obtain ⟨va, vc, hv, -, -, -, -, -⟩ := HOW.reads
      rw [HL.out] at hv
      subst hv
      have HOX := Lib.hid HOW
      have y4 := HV.out.2.1
      obtain ⟨y0, y1, y2, y3⟩ := HV.out.1
      have hne1 : ¬ g + 1 = g3 := by have := HG3.out; omega
      have hzf : ∀ j, wr.frozen? ⟨g + 1, j, none⟩ = false := fun j => (HO.out.frozen (p := ⟨g + 1, j, none⟩) (by have := HS3.out; show g + 1 < _; omega) hne1).trans (HFZ.out j)
      obtain ⟨z0, hz0⟩ := HZ.out 0 (by omega)
      obtain ⟨z1, hz1⟩ := HZ.out 1 (by omega)
      obtain ⟨z2, hz2⟩ := HZ.out 2 (by omega)
      obtain ⟨z3, hz3⟩ := HZ.out 3 (by omega)
      obtain ⟨z4, hz4⟩ := HZ.out 4 (by omega)
      replace hz0 := HO.out.cell' hz0 hne1
      replace hz1 := HO.out.cell' hz1 hne1
      replace hz2 := HO.out.cell' hz2 hne1
      replace hz3 := HO.out.cell' hz3 hne1
      replace hz4 := HO.out.cell' hz4 hne1
      go_wp2_with fail
      have z := putsR_cell (g + 1) [.int .i64 i, .int .i64 nd, .int .i64 num, .int .i64 dl, .slice va k vc] 0 wr (fun k hk => by
        have hk : k < 5 := hk
        rcases (by omega : k = 0 ∨ k = 1 ∨ k = 2 ∨ k = 3 ∨ k = 4) with rfl | rfl | rfl | rfl | rfl
        · exact ⟨_, hz0⟩
        · exact ⟨_, hz1⟩
        · exact ⟨_, hz2⟩
        · exact ⟨_, hz3⟩
        · exact ⟨_, hz4⟩)
      have x0 := z 0 _ rfl
      have x1 := z 1 _ rfl
      have x2 := z 2 _ rfl
      have x3 := z 3 _ rfl
      have x4 := z 4 _ rfl
      simp only [putsR, Nat.zero_add] at x0 x1 x2 x3 x4
      have hoW := putsR_only (g + 1) [.int .i64 i, .int .i64 nd, .int .i64 num, .int .i64 dl, .slice va k vc] 0 wr
      refine bodyPost_ret (v := .agg #[.int .i64 i, .int .i64 nd, .int .i64 num, .int .i64 dl, .slice va k vc]) (by simp [results, Try.results39, go_sem, x0, x1, x2, x3, x4]) rfl ⟨va, vc, rfl, ?_⟩
      have hoW2 : Only (fun q => q = g + 1) wr (putsR (g + 1) 0 [.int .i64 i, .int .i64 nd, .int .i64 num, .int .i64 dl, .slice va k vc] wr) := hoW
      have hs3 := HS3.out
      have hg3 := HG3.out
      refine ⟨HOX.out.only hoW2 (fun q e e2 => ?_), fun y e => ?_, fun e => ?_, (HO3.out.then HO.out (fun q hq e => ?_)).then hoW2 (fun q hq e => ?_)⟩
      · have := HBK.out q e
        have e2 : q = g + 1 := e2
        omega
      · have := HBK.out y.block (by rw [e]; rfl)
        omega
      · have := HK0.out e
        injection this with h1 _ h3
        exact ⟨h1, h3⟩
      · have e : q = g3 := e
        omega
      · have e : q = g + 1 := e
        omega
end Go.Proofs.Ythflglejhhebeaa.cs
