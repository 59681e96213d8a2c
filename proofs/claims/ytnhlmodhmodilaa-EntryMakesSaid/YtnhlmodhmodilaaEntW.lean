/- Entries: Read. -/
import Derived.Test.YtnhlmodhmodilaaEntV
import Derived.Deep.AppendLies
namespace Go.Proofs.Ytnhlmodhmodilaa.entw
open Go.RowKit mem entm codm codw
set_option linter.unusedVariables false

/-- an entry under way at a block: its legs so far -/
structure EntAt (w : World) (q : Nat) (kind : Int) (v : Value) (xs : List Lg) : Prop where
  c0 : w.cell? ⟨q, 0, none⟩ = some (.int .i64 kind)
  c1 : w.cell? ⟨q, 1, none⟩ = some v
  f0 : w.frozen? ⟨q, 0, none⟩ = false
  f1 : w.frozen? ⟨q, 1, none⟩ = false
  own : OwnL w v xs
  ge : ∀ k, v.ownBlock = some k → q < k

theorem EntAt.only {w w' : World} {q : Nat} {kind : Int} {v : Value} {xs : List Lg} {S : Nat → Prop} (h : EntAt w q kind v xs) (ho : Only S w w') (hS : ∀ k, S k → k < q) : EntAt w' q kind v xs := by
  have hq : ¬ S q := fun f => by have := hS _ f; omega
  have hlt : q < w.heap.size := World.block_lt_of_cell? w _ h.c0
  exact ⟨ho.cell' h.c0 hq, ho.cell' h.c1 hq, (ho.frozen (p := ⟨q, 0, none⟩) hlt hq).trans h.f0, (ho.frozen (p := ⟨q, 1, none⟩) hlt hq).trans h.f1, h.own.only ho (fun k e f => by have := hS _ f; have := h.ge k e; omega), h.ge⟩

theorem ent_grown {A B p q : Nat} {wx w7 w7a w8 : World} {kind : Int} {v : Value} {xs : List Lg} {x : Lg} {r : List Nat} {gg cp m : Nat} (HR : RS A B p w7 r) (ha : Only (fun _ => False) w7 w7a) (hg : Only (fun k => v.ownBlock = some k) w7a w8)
    (hv : EntAt wx q kind v xs) (ho8 : Only (fun k => k = p ∨ v.ownBlock = some k) wx w8) (hpq : p < q) (hBq : B ≤ q) (hpB : p < B)
    (hown : OwnL w8 (.slice (some ⟨gg, 0, none⟩) m cp) (xs ++ [x])) (hge : q < gg) :
    RS A B p (w8.setCell ⟨q, 1, none⟩ (.slice (some ⟨gg, 0, none⟩) m cp)) r ∧ EntAt (w8.setCell ⟨q, 1, none⟩ (.slice (some ⟨gg, 0, none⟩) m cp)) q kind (.slice (some ⟨gg, 0, none⟩) m cp) (xs ++ [x]) ∧
      Only (fun k => k = p ∨ k = q ∨ v.ownBlock = some k) wx (w8.setCell ⟨q, 1, none⟩ (.slice (some ⟨gg, 0, none⟩) m cp)) := by
  have hset : Only (fun k => k = q) w8 (w8.setCell ⟨q, 1, none⟩ (.slice (some ⟨gg, 0, none⟩) m cp)) := Only.set (fun k => k = q) w8 q 1 _ rfl
  have hnq : ¬ (q = p ∨ v.ownBlock = some q) := by
    rintro (e | e)
    · omega
    · have := hv.ge _ e; omega
  have hlt : q < wx.heap.size := World.block_lt_of_cell? wx _ hv.c0
  refine ⟨((HR.only ha hpB (fun _ f => f.elim)).only hg hpB (fun k e => by have := hv.ge k e; omega)).only hset hpB (fun k e => by have e' : k = q := e; omega), ⟨?_, ?_, ?_, ?_, ?_, ?_⟩, ?_⟩
  · rw [cell_other (by simp)]; exact ho8.cell' hv.c0 hnq
  · exact cell_same (ho8.cell' hv.c1 hnq)
  · rw [frozen_set]; exact (ho8.frozen (p := ⟨q, 0, none⟩) hlt hnq).trans hv.f0
  · rw [frozen_set]; exact (ho8.frozen (p := ⟨q, 1, none⟩) hlt hnq).trans hv.f1
  · refine hown.only hset (fun k e f => ?_)
    have e' : k = q := f
    have e2 : some gg = some k := e
    have e3 : gg = k := by injection e2
    omega
  · intro k e
    have e2 : some gg = some k := e
    have e3 : gg = k := by injection e2
    omega
  · exact (ho8.mono (fun k _ e => e.elim .inl (fun e => .inr (.inr e)))).setCell (p := ⟨q, 1, none⟩) (.inl (.inr (.inl rfl))) _

set_option maxRecDepth 100000 in
set_option maxHeartbeats 4000000 in
attribute [local go_sem ↓] Go.wp_at_zero Go.wp_at_succ in
theorem eread_yes (kind : Int) (a : Option Addr) (n cap : Nat) (ls : List Lg) (w : World) (h : Bytes w a n cap (encE kind ls)) (hc : chk kind ls = 0) (hi : ∀ l ∈ ls, InL l) :
    Calls Try.prog 10 #[.slice a n cap] w (ReadAt kind ls w) := by
  obtain ⟨i0, hii, hz0, hz1, hz2⟩ := info_parts info_leg
  obtain ⟨hkk, ⟨hl2, hl64⟩, hok, _⟩ := (chk_ok kind ls).1 hc
  obtain ⟨hk1, hk6⟩ := kind_in hkk
  have HOK := Lib.hid hok
  have HI := Lib.hid hi
  have HCK := Lib.hid hc
  have hnl : n ≤ 140737488355328 := by
    have h1 := h.1.1
    have h2 := encS_len ls
    have h3 := rucount_len kind
    have h4 := rucount_len (ls.length : Int)
    unfold encE at h1
    simp only [List.length_append] at h1
    omega
  have HB := Lib.hid h
  clear h hc hi hok hkk
  go_enter Try.func10, Try.ntmps10
  go_wp2_with fail
  obtain ⟨w0, hw0⟩ : ∃ w0, w0 = w.alloc (Obj.cells #[Value.int IntKind.i64 0, Value.slice none 0 0] 25) := ⟨_, rfl⟩
  have HO0 : Hid (Only (fun _ => False) w w0) := by rw [hw0]; exact Lib.hid ((Only.refl _ w).alloc _)
  rw [← hw0]
  refine (read_any a n cap _ _ (HB.out.only HO0.out (fun _ _ f => f)) hnl).mono ?_
  rintro _ w1 ⟨p, a1, len1, cap1, rfl, hr1, ho1, hp1, hx1⟩
  have HR1 : Hid (RS w.heap.size w1.heap.size p w1 (rucount kind ++ (rucount (ls.length : Int) ++ encS ls))) := Lib.hid ⟨a1, len1, cap1, hr1, fun x e => by have := hx1 x e; have := HO0.out.size; omega⟩
  have HPL : Hid (w0.heap.size ≤ p ∧ p < w1.heap.size) := Lib.hid ⟨hp1, World.block_lt_of_cell? w1 _ hr1.c0⟩
  have HE00 : Hid (w0.cell? ⟨w.heap.size, 0, none⟩ = some (.int .i64 0) ∧ w0.cell? ⟨w.heap.size, 1, none⟩ = some (.slice none 0 0) ∧ w0.frozen? ⟨w.heap.size, 0, none⟩ = false ∧ w0.frozen? ⟨w.heap.size, 1, none⟩ = false) := Lib.hid (by
    rw [hw0]; exact ⟨alloc_new _ _ _ _ _ _ rfl rfl, alloc_new _ _ _ _ _ _ rfl rfl, by simp, by simp⟩)
  have HO1 := Lib.hid ho1
  clear hr1 ho1 hx1 HB hw0 hp1
  go_wp2_with fail
  refine (rs_uint HR1.out (by omega) (by omega)).mono ?_
  rintro _ w2 ⟨rfl, hr2, ho2⟩
  have HR2 := Lib.hid hr2
  have HO2 : Hid (Only (fun _ => False) w0 w2) := Lib.hid (HO1.out.then ho2 (fun i hi e => by have := HPL.out; omega))
  have HS2 : Hid (w1.heap.size ≤ w2.heap.size) := Lib.hid ho2.size
  clear hr2 ho2 HR1
  go_wp2_with fail
  obtain ⟨we, hwe⟩ : ∃ we, we = w2.alloc (Obj.cells #[Value.int IntKind.i64 kind, Value.slice none 0 0] 25) := ⟨_, rfl⟩
  have HOe : Hid (Only (fun _ => False) w2 we) := by rw [hwe]; exact Lib.hid ((Only.refl _ w2).alloc _)
  have HE0 : Hid (we.cell? ⟨w2.heap.size, 0, none⟩ = some (.int .i64 kind) ∧ we.cell? ⟨w2.heap.size, 1, none⟩ = some (.slice none 0 0) ∧ we.frozen? ⟨w2.heap.size, 0, none⟩ = false ∧ we.frozen? ⟨w2.heap.size, 1, none⟩ = false) := Lib.hid (by
    rw [hwe]; exact ⟨alloc_new _ _ _ _ _ _ rfl rfl, alloc_new _ _ _ _ _ _ rfl rfl, by simp, by simp⟩)
  have HSE : Hid (we.heap.size = w2.heap.size + 1) := Lib.hid (by rw [hwe, size_alloc])
  rw [← hwe]
  clear hwe
  refine (rs_uint (HR2.out.only HOe.out HPL.out.2 (fun _ f => f.elim)) (by omega) (by omega)).mono ?_
  rintro _ w3 ⟨rfl, hr3, ho3⟩
  have HR3 := Lib.hid hr3
  have HO3 : Hid (Only (fun _ => False) w0 w3) := Lib.hid ((HO2.out.trans HOe.out).then ho3 (fun i hi e => by have := HPL.out; omega))
  have HE3 : Hid (EntAt w3 w2.heap.size kind (.slice none 0 0) []) := Lib.hid (by
    obtain ⟨c0, c1, f0, f1⟩ := HE0.out
    have hne : ¬ (w2.heap.size = p) := by have := HPL.out; have := HS2.out; omega
    have hlt : w2.heap.size < we.heap.size := by have := HSE.out; omega
    exact ⟨ho3.cell' c0 hne, ho3.cell' c1 hne, (ho3.frozen (p := ⟨w2.heap.size, 0, none⟩) hlt hne).trans f0, (ho3.frozen (p := ⟨w2.heap.size, 1, none⟩) hlt hne).trans f1, OwnL.nil _, fun k e => by cases e⟩)
  clear hr3 ho3 HR2 HE0 HSE HOe
  have HQP : Hid (p < w2.heap.size ∧ w0.heap.size ≤ w2.heap.size) := Lib.hid ⟨by have := HPL.out; have := HS2.out; omega, HO2.out.size⟩
  go_wp2_with fail
  go_loopw [15] (fun i wr => ∃ k : Nat, k ≤ ls.length ∧ i = .int .i64 k ∧ Hid (RS w.heap.size w1.heap.size p wr (encS (ls.drop k))) ∧ Hid (∃ v, EntAt wr w2.heap.size kind v (ls.take k)) ∧ Hid (Only (fun _ => False) w0 wr)) (fun i _ => ls.length - (intOf i).toNat)
  case atStart => exact ⟨0, by omega, rfl, HR3, Lib.hid ⟨_, HE3.out⟩, HO3⟩
  case round =>
    obtain ⟨k, hk, rfl, HR, HE, HO⟩ := hrel
    by_cases h8 : k < ls.length
    · obtain ⟨v, hv⟩ := HE.out
      have hr := HR.out
      rw [encS_drop ls k h8] at hr
      have HR4 := Lib.hid hr
      have HV := Lib.hid hv
      have HLM := getL_mem ls k h8
      have HAC := (HOK.out _ HLM).1
      obtain ⟨a1, a2, a3⟩ := acc_pos HAC
      obtain ⟨b1, b2, b3⟩ := acc_most HAC
      have HIL := Lib.hid (HI.out _ HLM)
      clear hr hv HLM HAC HR HE
      have HTK : Hid (ls.take k ++ [ls.getD k default] = ls.take (k + 1)) := Lib.hid (by rw [List.take_succ_eq_append_getElem h8]; simp [List.getD, h8])
      generalize ls.getD k default = l at *
      obtain ⟨lk, ln, lg, la⟩ := l
      dsimp only at a1 a2 a3 b1 b2 b3 HIL HR4
      go_wp2_with fail
      refine (rs_uint HR4.out a1 b1).mono ?_
      rintro _ w4 ⟨rfl, hr4, ho4⟩
      have HR5 := Lib.hid hr4
      have HO4 := Lib.hid ho4
      clear hr4 ho4
      go_wp2_with fail
      refine (rs_uint HR5.out a2 b2).mono ?_
      rintro _ w5 ⟨rfl, hr5, ho5⟩
      have HR6 := Lib.hid hr5
      have HO5 := Lib.hid (HO4.out.trans ho5)
      clear hr5 ho5
      go_wp2_with fail
      refine (rs_uint HR6.out a3 b3).mono ?_
      rintro _ w6 ⟨rfl, hr6, ho6⟩
      have HR7 := Lib.hid hr6
      have HO6 := Lib.hid (HO5.out.trans ho6)
      clear hr6 ho6
      go_wp2_with fail
      obtain ⟨wx, hwx⟩ : ∃ wx, wx = w6.alloc (Obj.cells #[Value.int IntKind.i64 lk, Value.int IntKind.i64 ln, Value.int IntKind.i64 lg] 53) := ⟨_, rfl⟩
      have HOX : Hid (Only (fun _ => False) w6 wx) := by rw [hwx]; exact Lib.hid ((Only.refl _ w6).alloc _)
      have x0 : wx.cell? ⟨w6.heap.size, 0, none⟩ = some (.int .i64 lk) := by rw [hwx]; exact alloc_new _ _ _ _ _ _ rfl rfl
      have x1 : wx.cell? ⟨w6.heap.size, 1, none⟩ = some (.int .i64 ln) := by rw [hwx]; exact alloc_new _ _ _ _ _ _ rfl rfl
      have x2 : wx.cell? ⟨w6.heap.size, 2, none⟩ = some (.int .i64 lg) := by rw [hwx]; exact alloc_new _ _ _ _ _ _ rfl rfl
      rw [← hwx]
      clear hwx
      have hp6 : Hid (p < w6.heap.size) := Lib.hid (by have := HO6.out.size; have := HO.out.size; have h3 : w2.heap.size < wr.heap.size := World.block_lt_of_cell? _ _ HV.out.c0; have := HQP.out; omega)
      have HVX : Hid (EntAt wx w2.heap.size kind v (ls.take k)) := Lib.hid ((HV.out.only HO6.out (fun j e => by have := HQP.out; have e' : j = p := e; omega)).only HOX.out (fun _ f => f.elim))
      have HVL : Hid (∀ j, v.ownBlock = some j → w2.heap.size < j ∧ j < w6.heap.size) := Lib.hid (fun j e => ⟨HVX.out.ge j e, own_lt ((HV.out.only HO6.out (fun j e => by have := HQP.out; have e' : j = p := e; omega)).own) j e⟩)
      have HT1 : Hid (∀ w', Only (fun k => k = p) wx w' → Only (fun k => k = p ∨ v.ownBlock = some k) wx w') := Lib.hid (fun w' ho => ho.mono (fun j _ e => .inl e))
      have HSX : Hid (∀ w', Only (fun k => k = p ∨ v.ownBlock = some k) wx w' → Only (fun k => k = p ∨ v.ownBlock = some k) wx w' ∧ w'.cell? ⟨w2.heap.size, 1, none⟩ = some v ∧ w'.frozen? ⟨w2.heap.size, 1, none⟩ = false ∧ w'.cell? ⟨w6.heap.size, 0, none⟩ = some (.int .i64 lk) ∧ w'.cell? ⟨w6.heap.size, 1, none⟩ = some (.int .i64 ln) ∧ w'.cell? ⟨w6.heap.size, 2, none⟩ = some (.int .i64 lg)) := Lib.hid (fun w' ho => by
        have hn : ¬ (w6.heap.size = p ∨ v.ownBlock = some w6.heap.size) := by
          rintro (e | e)
          · have := hp6.out; omega
          · have := HVL.out _ e; omega
        have hn2 : ¬ (w2.heap.size = p ∨ v.ownBlock = some w2.heap.size) := by
          rintro (e | e)
          · have := HQP.out; omega
          · have := HVL.out _ e; omega
        exact ⟨ho, ho.cell' HVX.out.c1 hn2, (ho.frozen (p := ⟨w2.heap.size, 1, none⟩) (World.block_lt_of_cell? wx _ HVX.out.c1) hn2).trans HVX.out.f1, ho.cell' x0 hn, ho.cell' x1 hn, ho.cell' x2 hn⟩)
      have HOWN : Hid (∀ w', Only (fun k => k = p) wx w' → w'.ownsRow 0 55 4 v (ls.take k).length (lv (ls.take k))) := Lib.hid (fun w' ho => (HVX.out.only ho (fun j e => by have := HQP.out; have e' : j = p := e; omega)).own)
      have htl : (ls.take k).length = k := by rw [List.length_take]; omega
      have hn1 : (ls.take k).length + 1 ≤ maxLen := by rw [htl]; unfold maxLen; omega
      have hn2 : ((ls.take k).length + 1) * 32 ≤ 140737488355328 := by rw [htl]; omega
      have HINT : Hid (∀ w', Only (fun _ => False) wx w' → Calls Try.prog 23 #[.pointer (some ⟨p, 0, none⟩)] w' fun en w'' => en = .returned (.int .i64 la) ∧ RS w.heap.size w1.heap.size p w'' (encS (ls.drop (k + 1))) ∧ Only (fun k => k = p) w' w'') := Lib.hid (fun w' ho =>
        rs_int ((HR7.out.only HOX.out HPL.out.2 (fun _ f => f.elim)).only ho HPL.out.2 (fun _ f => f.elim)) HIL.out.2.2.2)
      clear HR4 HR5 HR6
      have hxv := HVX.out.c1
      have hxf := HVX.out.f1
      go_region_law (first | (refine step_append_lies _ (by rfl) _ _ _ (by rfl) 0 55 i0 _ 4 32 Try.underlying23 hii hz0 hz1 hz2 rfl (by omega) v (ls.take k).length (lv (ls.take k)) (by rfl) (HOWN.out _ (by repeat' (with_reducible first | exact Only.refl _ _ | refine Only.drew ?_ | refine only_drewN ?_ _ | refine Only.alloc ?_ _ | refine Only.trans ?_ ho7))) ⟨w7.heap.size, 0, none⟩ 1 1 (encL ⟨lk, ln, lg, la⟩) (by rfl) (by rfl) (World.news_of_block (cs := #[.int .i64 lk, .int .i64 ln, .int .i64 lg, .int .i64 la]) (t := 55) (fr := (0, 0)) (heap_alloc_new w7 _)) (by simp [Value.oneCell', encL]) (by omega) hn1 hn2 (by simp) (w7.heap.size + 1) (by simp) ?_; intro gg cp w8 hown8 hgrow8 hat8 hlt8; have ho8 := (HT1.out _ (by repeat' (with_reducible first | exact Only.refl _ _ | refine Only.drew ?_ | refine only_drewN ?_ _ | refine Only.alloc ?_ _ | refine Only.trans ?_ ho7))).trans ((Only.of_grown hgrow8).mono (fun j _ e => .inr e)); obtain ⟨_, z1, z2, _, _, _⟩ := HSX.out w8 ho8) | (go_simp; go_at_call 23; (with_reducible refine (HINT.out _ (by repeat' (with_reducible first | exact Only.refl _ _ | refine Only.drew ?_ | refine only_drewN ?_ _ | refine Only.alloc ?_ _))).mono ?_); rintro _ w7 ⟨rfl, hr7, ho7⟩; obtain ⟨_, y1, y2, y3, y4, y5⟩ := HSX.out w7 (HT1.out _ (by repeat' (with_reducible first | exact Only.refl _ _ | refine Only.drew ?_ | refine only_drewN ?_ _ | refine Only.alloc ?_ _ | refine Only.trans ?_ ho7))); obtain ⟨_, u1, u2, u3, u4, u5⟩ := HSX.out (w7.alloc (Obj.cells #[Value.int IntKind.i64 lk, Value.int IntKind.i64 ln, Value.int IntKind.i64 lg, Value.int IntKind.i64 la] 55)) (HT1.out _ (by repeat' (with_reducible first | exact Only.refl _ _ | refine Only.drew ?_ | refine only_drewN ?_ _ | refine Only.alloc ?_ _ | refine Only.trans ?_ ho7)))))
      all_goals
        obtain ⟨hR9, hE9, hO9⟩ := ent_grown hr7 ((Only.refl (fun _ => False) w7).alloc _) (Only.of_grown hgrow8) HVX.out ho8 HQP.out.1 HS2.out HPL.out.2 (x := ⟨lk, ln, lg, la⟩) (by unfold OwnL; rw [List.length_append, lv_append]; exact hown8) (by
          rcases hat8 with e | e
          · exact HVX.out.ge _ e
          · have h3 : w2.heap.size < wx.heap.size := World.block_lt_of_cell? wx _ HVX.out.c0
            have := ho7.size
            have h9 := (HT1.out w7 (by repeat' (with_reducible first | exact Only.refl _ _ | refine Only.drew ?_ | refine only_drewN ?_ _ | refine Only.alloc ?_ _ | refine Only.trans ?_ ho7))).size
            omega)
        rw [htl] at hR9 hE9 hO9
        have HEQ : ls.take k ++ [⟨lk, ln, lg, la⟩] = ls.take (k + 1) := HTK.out
        rw [HEQ] at hE9
        have HR9 := Lib.hid hR9
        have HE9 := Lib.hid hE9
        have HO9 := Lib.hid (((HO.out.then HO6.out (fun j hj e => by have e' : j = p := e; have := HPL.out; omega)).trans HOX.out).then hO9 (fun j hj e => by
          rcases e with e | e | e
          · have := HPL.out; omega
          · have := HQP.out; omega
          · have := HVX.out.ge _ e; have := HQP.out; omega))
        clear hR9 hE9 hO9 hr7 ho7 hown8 hgrow8 hat8 hlt8 ho8 z1 z2 y1 y2 y3 y4 y5 u1 u2 u3 u4 u5 HEQ
        go_wp2_with fail
        exact ⟨⟨k + 1, by omega, by go_num, HR9, Lib.hid ⟨_, HE9.out⟩, HO9⟩, by simp [intOf]; omega⟩
    · obtain rfl : k = ls.length := by omega
      obtain ⟨v, hv⟩ := HE.out
      rw [List.take_length] at hv
      obtain ⟨g, cp, hvv, _, hgl, hc1, hc2⟩ := owns_form hv.own (by omega)
      subst hvv
      have hin := HI.out
      have HRD := Lib.hid (OwnL.reads hv.own rfl (by omega) hin)
      have hrs := HR.out
      rw [show encS (ls.drop ls.length) = [] from by simp [encS]] at hrs
      have HRS := Lib.hid hrs
      have HV := Lib.hid hv
      have hx0 := hv.c0
      have hx1 := hv.c1
      have HGE := Lib.hid (hv.ge g rfl)
      clear hrs hv HR HE
      go_wp2_with fail
      refine (rs_end HRS.out).mono ?_
      rintro _ _ ⟨rfl, rfl⟩
      go_wp2_with fail
      refine (check_any kind (some ⟨g, 0, none⟩) ls.length cp ls _ HRD.out).mono ?_
      rintro _ w9 ⟨rfl, ho9⟩
      rw [HCK.out]
      have y0 := ho9.cell' hx0 (fun f => f)
      have y1 := ho9.cell' hx1 (fun f => f)
      have HO9 : Hid (Only (fun _ => False) w0 w9) := Lib.hid (HO.out.trans ho9)
      have HRD9 := Lib.hid (HRD.out.only ho9 (fun _ _ f => f))
      clear ho9
      have hw0 : w.heap.size < w0.heap.size := World.block_lt_of_cell? w0 _ HE00.out.1
      have k0 := HO9.out.cell' HE00.out.1 (fun f => f)
      have k1 := HO9.out.cell' HE00.out.2.1 (fun f => f)
      have j0 : w9.frozen? ⟨w.heap.size, 0, none⟩ = false := (HO9.out.frozen (p := ⟨w.heap.size, 0, none⟩) hw0 (fun f => f)).trans HE00.out.2.2.1
      have j1 : w9.frozen? ⟨w.heap.size, 1, none⟩ = false := (HO9.out.frozen (p := ⟨w.heap.size, 1, none⟩) hw0 (fun f => f)).trans HE00.out.2.2.2
      have HS9 : Hid (∀ x y, Only (fun k => k = w.heap.size) w9 ((w9.setCell ⟨w.heap.size, 0, none⟩ x).setCell ⟨w.heap.size, 1, none⟩ y)) := Lib.hid (fun x y => ((Only.refl (fun k => k = w.heap.size) w9).setCell (p := ⟨w.heap.size, 0, none⟩) (.inl rfl) x).setCell (p := ⟨w.heap.size, 1, none⟩) (.inl rfl) y)
      have HGW : Hid (w.heap.size + 1 ≤ g) := Lib.hid (by have := HGE.out; have := HQP.out; omega)
      clear hx0 hx1 hw0 hin
      generalize hlen : ls.length = len2 at *
      have HLEN := Lib.hid hlen
      clear hlen
      go_wp2_with fail
      refine bodyPost_ret (v := .tuple #[.agg #[.int .i64 kind, .slice (some ⟨g, 0, none⟩) len2 cp], .int .i64 0]) ?_ rfl ⟨g, cp, by rw [HLEN.out], ?_, ?_, ?_⟩
      · simp [results, Try.results10, go_sem, (set_two (x := .int .i64 kind) (y := .slice (some ⟨g, 0, none⟩) len2 cp) k0 k1).1, (set_two (x := .int .i64 kind) (y := .slice (some ⟨g, 0, none⟩) len2 cp) k0 k1).2]
      · rw [HLEN.out]; exact HRD9.out.only (HS9.out _ _) (fun x hx e => by injection hx with hx; subst hx; have := HGW.out; exact absurd e (by show g ≠ w.heap.size; omega))
      · have := HGW.out; omega
      · exact (HO0.out.trans HO9.out).then (HS9.out _ _) (fun q hq e => by have e' : q = w.heap.size := e; omega)
end Go.Proofs.Ytnhlmodhmodilaa.entw
