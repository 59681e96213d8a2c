/- Sessions with grants: Get, Ids, Held. -/
import Derived.Test.YthflglejhhebeaaCsE
import Derived.Test.YthflglejhhebeaaZ4
import Derived.Test.YthflglejhhebeaaRowI
import Derived.Test.YthflglejhhebeaaOwI
import Derived.Deep.OwnRows
namespace Go.Proofs.Ythflglejhhebeaa.cs
open Go.RowKit mem rwg bigm bigw intm owi
set_option linter.unusedVariables false

/-- what Get answers -/
def GotS (L : List Sd) (g : Int) (w : World) (e : Ending) (w' : World) : Prop :=
  (sIdx g 0 (L.map Sd.sx) < 0 ∧ e = .returned (.tuple #[.agg #[.int .i64 0, .int .i64 0, .int .i64 0, .int .i64 0, .slice none 0 0], .int .i64 7]) ∧ Only (fun _ => False) w w') ∨
  (∃ k : Nat, k < L.length ∧ sIdx g 0 (L.map Sd.sx) = (k : Int) ∧ ∃ xa xc, e = .returned (.tuple #[.agg #[.int .i64 (L.getD k default).i, .int .i64 (L.getD k default).nd, .int .i64 (L.getD k default).num, .int .i64 (L.getD k default).dl, .slice xa (L.getD k default).n xc], .int .i64 0]) ∧ GC w (L.getD k default).n (L.getD k default).gs xa xc w')
set_option maxRecDepth 100000 in
set_option maxHeartbeats 4000000 in
theorem cget_any {S : Nat → Prop} (p : Nat) (places last : Int) (v : Value) (L : List Sd) (g : Int) (w : World) (h : PT S w p places last v L) (hn : ∀ x ∈ L, x.gs.length ≤ 1000) : Calls Try.prog 7 #[.pointer (some ⟨p, 0, none⟩), .int .i64 g] w (GotS L g w) := by
  obtain ⟨w1, hw⟩ : ∃ x, x = w.alloc (.cells #[.int .i64 0, .int .i64 0, .int .i64 0, .int .i64 0, .slice none 0 0] 25) := ⟨_, rfl⟩
  obtain ⟨q, hq⟩ : ∃ x, x = w.heap.size := ⟨_, rfl⟩
  have HBX := Lib.hid (sbox hw hq)
  have hf1 : ∀ j, w1.frozen? ⟨q, j, none⟩ = false := fun j => by rw [hw]; exact sfrozen hq j
  have HF1 := Lib.hid hf1
  have hql : q < w1.heap.size := World.block_lt_of_cell? w1 _ HBX.out.1
  have HQ : Hid (q < w1.heap.size ∧ w.heap.size ≤ q) := Lib.hid ⟨hql, by omega⟩
  have HCT := Lib.hid (h.quiet HBX.out.2.2.2.2.2)
  have HF := Lib.hid (cfind_any p places last v L g w1 HCT.out)
  have HN := Lib.hid hn
  have HX := Lib.hid (sIdx_lt g (L.map Sd.sx))
  obtain ⟨Q, hQ⟩ : ∃ Q, GotS L g w = Q := ⟨_, rfl⟩
  rw [hQ]
  have HQQ := Lib.hid hQ
  clear h hn hf1 hql hQ
  rcases HX.out with ⟨hk, -⟩ | ⟨k, hkl, hke, -⟩
  · rw [if_pos hk, if_pos hk] at HF
    have HKK := Lib.hid hk
    clear HX hk
    go_enter Try.func7, Try.ntmps7
    go_upto_region 1 with fail
    simp only [← hw, ← hq]
    clear hw hq
    go_wp2_with fail
    refine HF.out.mono ?_
    rintro _ w2 ⟨rfl, ho⟩
    have HO2 := Lib.hid (HBX.out.2.2.2.2.2.trans ho)
    have z0 := ho.cell' HBX.out.1 (fun f => f)
    have z1 := ho.cell' HBX.out.2.1 (fun f => f)
    have z2 := ho.cell' HBX.out.2.2.1 (fun f => f)
    have z3 := ho.cell' HBX.out.2.2.2.1 (fun f => f)
    have z4 := ho.cell' HBX.out.2.2.2.2.1 (fun f => f)
    have hf : ∀ j, w2.frozen? ⟨q, j, none⟩ = false := fun j => (ho.frozen (p := ⟨q, j, none⟩) HQ.out.1 (fun f => f)).trans (HF1.out j)
    clear ho HF
    go_wp2_with fail
    have z := putsR_cell q [.int .i64 0, .int .i64 0, .int .i64 0, .int .i64 0, .slice none 0 0] 0 w2 (fun k hk => by
      have hk : k < 5 := hk
      rcases (by omega : k = 0 ∨ k = 1 ∨ k = 2 ∨ k = 3 ∨ k = 4) with rfl | rfl | rfl | rfl | rfl
      · exact ⟨_, z0⟩
      · exact ⟨_, z1⟩
      · exact ⟨_, z2⟩
      · exact ⟨_, z3⟩
      · exact ⟨_, z4⟩)
    have x0 := z 0 _ rfl
    have x1 := z 1 _ rfl
    have x2 := z 2 _ rfl
    have x3 := z 3 _ rfl
    have x4 := z 4 _ rfl
    simp only [putsR, Nat.zero_add] at x0 x1 x2 x3 x4
    have hoW := putsR_only q [.int .i64 0, .int .i64 0, .int .i64 0, .int .i64 0, .slice none 0 0] 0 w2
    refine bodyPost_ret (v := .tuple #[.agg #[.int .i64 0, .int .i64 0, .int .i64 0, .int .i64 0, .slice none 0 0], .int .i64 7]) (by simp [results, Try.results7, go_sem, x0, x1, x2, x3, x4]) rfl ?_
    rw [← HQQ.out]
    exact .inl ⟨HKK.out, rfl, HO2.out.then hoW (fun x hx e => by have e : x = q := e; have := HQ.out.2; omega)⟩
  · rw [List.length_map] at hkl
    have hkn0 : ¬ (k : Int) < 0 := by omega
    rw [hke, if_neg hkn0, if_neg hkn0] at HF
    obtain ⟨b, cap, rfl, hcc, -, ⟨c0, c1, c3, c4, c5⟩, hgr, hnz⟩ := HCT.out.at hkl
    have c2 := HCT.out.c2
    have hl16 := HCT.out.len
    have hgl := HN.out (L.getD k default) (by
      have : L.getD k default = L[k] := by simp [List.getD, hkl]
      rw [this]; exact List.getElem_mem hkl)
    have hgn := hgr.1.1
    have HQG : Hid (∀ w' xa xc, GC w (L.getD k default).n (L.getD k default).gs xa xc w' → Q (.returned (.tuple #[.agg #[.int .i64 (L.getD k default).i, .int .i64 (L.getD k default).nd, .int .i64 (L.getD k default).num, .int .i64 (L.getD k default).dl, .slice xa (L.getD k default).n xc], .int .i64 0])) w') := Lib.hid (fun w' xa xc hg => by rw [← HQQ.out]; exact .inr ⟨k, hkl, hke, xa, xc, rfl, hg⟩)
    generalize L.getD k default = y at *
    obtain ⟨yi, yn, ym, yd, ya, yq, yc, yg⟩ := y
    dsimp only at c0 c1 c3 c4 c5 HQG hnz hgl
    have HGR := Lib.hid hgr
    have HNZ := Lib.hid (hnz rfl)
    have hki : (0 : Int) ≤ (k : Int) := by omega
    have hkL : (k : Int) < (L.length : Int) := by omega
    have hyq : yq ≤ 1000 := by dsimp only at hgn; omega
    clear HX hke hkn0 hgr hnz hgn hgl HQQ
    go_enter Try.func7, Try.ntmps7
    go_upto_region 1 with fail
    simp only [← hw, ← hq]
    clear hw hq
    go_wp2_with fail
    refine HF.out.mono ?_
    rintro _ w2 ⟨rfl, ho⟩
    have HO2 := Lib.hid (HBX.out.2.2.2.2.2.trans ho)
    replace c0 := ho.cell' c0 (fun f => f)
    replace c1 := ho.cell' c1 (fun f => f)
    replace c2 := ho.cell' c2 (fun f => f)
    replace c3 := ho.cell' c3 (fun f => f)
    replace c4 := ho.cell' c4 (fun f => f)
    replace c5 := ho.cell' c5 (fun f => f)
    have HCL := Lib.hid (sclone_any yi yn ym yd ya yq yc yg w2 (HGR.out.1.quiet ho) hyq HNZ.out)
    have HO12 := Lib.hid ho
    clear ho HF
    go_wp2_with fail
    refine HCL.out.mono ?_
    rintro _ w3 ⟨xa, xc, rfl, hgc⟩
    have ho3 := HO12.out.trans hgc.2.2.2.2
    have z0 := ho3.cell' HBX.out.1 (fun f => f)
    have z1 := ho3.cell' HBX.out.2.1 (fun f => f)
    have z2 := ho3.cell' HBX.out.2.2.1 (fun f => f)
    have z3 := ho3.cell' HBX.out.2.2.2.1 (fun f => f)
    have z4 := ho3.cell' HBX.out.2.2.2.2.1 (fun f => f)
    have hf : ∀ j, w3.frozen? ⟨q, j, none⟩ = false := fun j => (ho3.frozen (p := ⟨q, j, none⟩) HQ.out.1 (fun f => f)).trans (HF1.out j)
    have HGC := Lib.hid hgc
    have HO3 := Lib.hid (HBX.out.2.2.2.2.2.trans ho3)
    clear hgc ho3 HCL c0 c1 c2 c3 c4 c5
    go_wp2_with fail
    have z := putsR_cell q [.int .i64 yi, .int .i64 yn, .int .i64 ym, .int .i64 yd, .slice xa yq xc] 0 w3 (fun k hk => by
      have hk : k < 5 := hk
      rcases (by omega : k = 0 ∨ k = 1 ∨ k = 2 ∨ k = 3 ∨ k = 4) with rfl | rfl | rfl | rfl | rfl
      · exact ⟨_, z0⟩
      · exact ⟨_, z1⟩
      · exact ⟨_, z2⟩
      · exact ⟨_, z3⟩
      · exact ⟨_, z4⟩)
    have x0 := z 0 _ rfl
    have x1 := z 1 _ rfl
    have x2 := z 2 _ rfl
    have x3 := z 3 _ rfl
    have x4 := z 4 _ rfl
    simp only [putsR, Nat.zero_add] at x0 x1 x2 x3 x4
    have hoW := putsR_only q [.int .i64 yi, .int .i64 yn, .int .i64 ym, .int .i64 yd, .slice xa yq xc] 0 w3
    refine bodyPost_ret (v := .tuple #[.agg #[.int .i64 yi, .int .i64 yn, .int .i64 ym, .int .i64 yd, .slice xa yq xc], .int .i64 0]) (by simp [results, Try.results7, go_sem, x0, x1, x2, x3, x4]) rfl (HQG.out _ xa xc ?_)
    obtain ⟨k1, k2, k3, k4, k5⟩ := HGC.out
    have hq2 := HQ.out
    have hs12 := HO12.out.size
    have hoW2 : Only (fun x => x = q) w3 (putsR q 0 [.int .i64 yi, .int .i64 yn, .int .i64 ym, .int .i64 yd, .slice xa yq xc] w3) := hoW
    refine ⟨k1.only' hoW2 (fun y e _ e2 => ?_), k2, fun y e => ?_, k4, HO3.out.then hoW2 (fun x hx e => ?_)⟩
    · have e2 : y.block = q := e2
      have := k3 y e
      omega
    · have h1 := k3 y e
      have h2 := HO2.out.size
      have h3 := hoW2.size
      exact ⟨by omega, Nat.lt_of_lt_of_le h1.2 h3⟩
    · have e : x = q := e
      omega
theorem getG_mem (ls : List Gr) (k : Nat) (h : k < ls.length) : ls.getD k default ∈ ls := by
  have : ls.getD k default = ls[k] := by simp [List.getD, h]
  rw [this]; exact List.getElem_mem h
theorem range_mapG {β : Type} (f : Gr → β) (ls : List Gr) : (List.range ls.length).map (fun j => f (ls.getD j default)) = ls.map f := by
  apply List.ext_getElem
  · simp
  · intro i h1 h2
    simp at h1
    simp [List.getD, h1]
theorem mapG_take_succ (ls : List Gr) (k : Nat) (h : k < ls.length) : (ls.take (k + 1)).map Gr.a = (ls.take k).map Gr.a ++ [(ls.getD k default).a] := by
  rw [List.take_succ_eq_append_getElem h, List.map_append]
  simp [List.getD, h]
set_option maxRecDepth 100000 in
set_option maxHeartbeats 1000000 in
theorem held_any (a : Option Addr) (len cap : Nat) (gs : List Gr) (w : World) (h : ReadsG w a len gs) (hin : ∀ x ∈ gs, (-9223372036854775808 ≤ x.a ∧ x.a ≤ 9223372036854775807)) (hlen : len ≤ 1000) :
    Calls Try.prog 31 #[.slice a len cap] w fun e w' => e = .returned (.int .i64 (intOr (gs.map Gr.a).sum)) ∧ Only (fun _ => False) w w' := by
  have hmk := run_make_row' (P := Try.prog) 38 3 (.int .i64 0) 8 Try.underlying38 info_i64 rfl .i64 .i64 len (by omega) (by omega)
  have H := Lib.hid h
  have HIN := Lib.hid hin
  have HL : Hid (gs.length = len) := Lib.hid h.1
  have HM := Lib.hid (made_row w len)
  obtain ⟨P, hP⟩ : ∃ P, intOr (gs.map Gr.a).sum = P := ⟨_, rfl⟩
  rw [hP]
  have HPP := Lib.hid hP
  clear h hin hP
  go_enter Try.func31, Try.ntmps31
  go_wp2_with fail
  clear hmk
  go_loopw [13] (fun i wr => ∃ k : Nat, k ≤ len ∧ i = .int .i64 k ∧ Hid (RowI wr w.heap.size len (mixf (fun j => (gs.getD j default).a) (fun _ => 0) k)) ∧ Hid (Only (fun _ => False) w wr)) (fun i _ => len - (intOf i).toNat)
  case atStart => exact ⟨0, by omega, rfl, Lib.hid HM.out.start, Lib.hid ((Only.refl _ w).alloc _)⟩
  case round =>
    obtain ⟨k, hk, rfl, HRW, HO⟩ := hrel
    by_cases h8 : k < len
    · obtain ⟨b, off, rfl, hcell⟩ := H.out.cells (by omega)
      obtain ⟨hc0, hc1, hc2, hc3⟩ := hcell k h8
      have c0 := HO.out.cell' hc0 (fun f => f)
      have c1 := HO.out.cell' hc1 (fun f => f)
      have c2 := HO.out.cell' hc2 (fun f => f)
      have c3 := HO.out.cell' hc3 (fun f => f)
      clear hcell hc0 hc1 hc2 hc3
      have HN := Lib.hid (fun o => (HRW.out.only (S := fun _ => False) ((Only.refl _ wr).alloc o) (fun f => f)).next h8)
      have HW := Lib.hid (fun o v => (HO.out.alloc o).setCell (p := ⟨w.heap.size, k, none⟩) (.inr (Nat.le_refl _)) v)
      have HC := Lib.hid (fun o => (HRW.out.only (S := fun _ => False) ((Only.refl _ wr).alloc o) (fun f => f)) k h8)
      generalize gs.getD k default = x at *
      obtain ⟨xg, xu, xa, xf⟩ := x
      dsimp only at c0 c1 c2 c3 HN
      have q := HC.out (.cells #[.int .i64 xg, .int .i64 xu, .int .i64 xa, .bool xf] 80)
      obtain ⟨q0, z0⟩ := q
      go_wp2_with fail
      go_roundw
      case rel => exact ⟨k + 1, by omega, by go_num, Lib.hid (HN.out _), Lib.hid (HW.out _ _)⟩
      case measure => simp [intOf]; omega
    · obtain rfl : k = len := by omega
      have hr := HRW.out.whole.reads (by unfold maxLen; omega) (fun j hj => HIN.out _ (getG_mem gs j (by rw [HL.out]; exact hj)))
      have e : (List.range k).map (fun j => (gs.getD j default).a) = gs.map Gr.a := by rw [← HL.out]; exact range_mapG Gr.a gs
      rw [e] at hr
      have HR := Lib.hid hr
      clear hr e
      go_wp2_with fail
      refine (asum_any _ _ _ (gs.map Gr.a) _ HR.out).mono ?_
      rintro _ _ ⟨rfl, rfl⟩
      rw [HPP.out]
      generalize isInt (gs.map Gr.a).sum = q2 at *
      go_wp2_with fail
      go_ret
      exact ⟨rfl, HO.out⟩
set_option maxRecDepth 100000 in
set_option maxHeartbeats 1000000 in
theorem rheld_any (a : Option Addr) (len cap : Nat) (gs : List Gr) (w : World) (h : ReadsG w a len gs) (hin : ∀ x ∈ gs, (-9223372036854775808 ≤ x.a ∧ x.a ≤ 9223372036854775807)) (hlen : len ≤ 1000) :
    Calls Try.prog 40 #[.slice a len cap] w fun e w' => e = .returned (.int .i64 (intOr (gs.map Gr.a).sum)) ∧ Only (fun _ => False) w w' := by
  obtain ⟨i0, hi, hz0, hz1, hz2⟩ := info_partsS info_i64
  have H := Lib.hid h
  have HIN := Lib.hid hin
  have HL : Hid (gs.length = len) := Lib.hid h.1
  obtain ⟨P, hP⟩ : ∃ P, intOr (gs.map Gr.a).sum = P := ⟨_, rfl⟩
  rw [hP]
  have HPP := Lib.hid hP
  clear h hin hP
  go_enter Try.func40, Try.ntmps40
  go_wp2_with fail
  go_loopw [3, 4] (fun nv i wr => ∃ (k : Nat) (v : Value) (xs : List Int), k ≤ len ∧ i = .int .i64 k ∧ v = nv ∧ xs.length = k ∧ Hid (xs = (gs.take k).map Gr.a) ∧ Hid (OwnI wr v xs) ∧ Hid (∀ q, v.ownBlock = some q → w.heap.size ≤ q) ∧ Hid (Only (fun _ => False) w wr)) (fun _ i _ => len - (intOf i).toNat)
  case atStart => exact ⟨0, _, [], by omega, rfl, rfl, rfl, Lib.hid rfl, Lib.hid (OwnI.nil _), Lib.hid (fun q e => by cases e), Lib.hid (Only.refl _ _)⟩
  case round =>
    obtain ⟨k, v, xs, hk, rfl, rfl, hxl, HX, HOW, HBK, HO⟩ := hrel
    have HXL := Lib.hid hxl
    clear hxl
    by_cases h8 : k < len
    · obtain ⟨b, off, rfl, hcell⟩ := H.out.cells (by omega)
      obtain ⟨_, _, hc1, _⟩ := hcell k h8
      have c1 := HO.out.cell' hc1 (fun f => f)
      have HXN : Hid (xs ++ [(gs.getD k default).a] = (gs.take (k + 1)).map Gr.a) := Lib.hid (by rw [HX.out, mapG_take_succ gs k (by rw [HL.out]; exact h8)])
      clear hcell hc1
      generalize (gs.getD k default).a = x at *
      have HOW2 : Hid ((wr.alloc (.cells #[.int .i64 x] 3)).ownsRow 0 3 1 v xs.length (iv xs)) := Lib.hid (owns_only (S := fun _ => False) ((Only.refl _ wr).alloc _) HOW.out (fun _ _ f => f))
      go_wp2_with (at_builtin; refine append_mine rfl _ _ 38 rfl 3 i0 _ 1 8 Try.underlying38 hi hz0 hz1 hz2 rfl (by decide) _ xs.length _ rfl HOW2.out ⟨wr.heap.size, 0, none⟩ 1 1 (iv [x]) rfl ?c1 ?c2 ?c3 ?c4 ?c5 ?_)
      case c1 => rfl
      case c2 => exact news_int rfl _
      case c3 => exact iv_one [x]
      case c4 => have := HXL.out; unfold maxLen; omega
      case c5 => have := HXL.out; omega
      intro v2 w2 hown hgrow hkk
      have HON : Hid (OwnI w2 v2 (xs ++ [x])) := Lib.hid (by unfold OwnI; rw [List.length_append, iv_append]; exact hown)
      have HBK2 : Hid (∀ q, v2.ownBlock = some q → w.heap.size ≤ q) := Lib.hid (fun q hq => by
        rcases hkk q hq with e | e
        · exact HBK.out q e
        · have := HO.out.size
          omega)
      have HO2 : Hid (Only (fun _ => False) w w2) := Lib.hid ((HO.out.alloc _).then (Only.of_grown hgrow) (fun q hq e => by have := HBK.out q e; omega))
      clear hown hgrow hkk HOW2
      go_wp2_with fail
      go_roundw
      case rel => exact ⟨k + 1, v2, xs ++ [x], by omega, by go_num, rfl, by rw [List.length_append, HXL.out]; rfl, HXN, HON, HBK2, HO2⟩
      case measure => simp [intOf]; omega
    · obtain rfl : k = len := by omega
      have hx := HX.out
      rw [List.take_of_length_le (by rw [HL.out]; omega)] at hx
      have hxi : ∀ c ∈ xs, -9223372036854775808 ≤ c ∧ c ≤ 9223372036854775807 := by
        rw [hx]
        intro c hc
        obtain ⟨y, hy, rfl⟩ := List.mem_map.1 hc
        exact HIN.out y hy
      obtain ⟨av, cv, rfl, hrd⟩ := OwnI.reads HOW.out hxi (by have := HXL.out; omega)
      have HRS := Lib.hid (rsum_any av xs.length cv xs wr hrd)
      rw [hx, ← hx] at HRS
      have HSM : Hid (xs.sum = (gs.map Gr.a).sum) := Lib.hid (by rw [hx])
      rw [HSM.out, HPP.out] at HRS
      clear hx hxi hrd HX HOW HBK
      generalize isInt (gs.map Gr.a).sum = q2 at *
      generalize xs.length = q3 at *
      go_wp2_with fail
      refine HRS.out.mono ?_
      rintro _ w2 ⟨rfl, h2⟩
      have H2 := Lib.hid (HO.out.trans h2)
      clear h2
      go_wp2_with fail
      go_ret
      exact ⟨rfl, H2.out⟩
set_option maxRecDepth 100000 in
set_option maxHeartbeats 4000000 in
theorem cids_any {S : Nat → Prop} (p : Nat) (places last : Int) (v : Value) (L : List Sd) (w : World) (h : PT S w p places last v L) : Calls Try.prog 14 #[.pointer (some ⟨p, 0, none⟩)] w fun e w' => (∃ v', e = .returned v' ∧ OwnI w' v' (L.map Sd.i)) ∧ Only (fun _ => False) w w' := by
  obtain ⟨i1, hj, hy0, hy1, hy2⟩ : ∃ i1, Try.prog.info? 3 = some i1 ∧ i1.zero = some (.int .i64 0) ∧ i1.size = 1 ∧ i1.bytes = 8 := by
    obtain ⟨i, h1, h2⟩ := Option.map_eq_some_iff.1 info_i64
    exact ⟨i, h1, by simpa using h2⟩
  have hll := h.len
  have c2 := h.c2
  obtain ⟨a, cap, rfl, hc, -, -, hr, -⟩ := own_S h.own
  have HR := Lib.hid hr
  have HTK : Hid (∀ k, k < L.length → (L.map Sd.i).take (k + 1) = (L.map Sd.i).take k ++ [(L.getD k default).i]) := Lib.hid (fun k hk => by
    rw [List.take_succ_eq_append_getElem (by rw [List.length_map]; exact hk)]
    simp [List.getD, hk])
  have HTL : Hid (∀ k, k ≤ L.length → ((L.map Sd.i).take k).length = k) := Lib.hid (fun k hk => by rw [List.length_take, List.length_map]; omega)
  have HTE : Hid ((L.map Sd.i).take L.length = L.map Sd.i) := Lib.hid (List.take_of_length_le (by rw [List.length_map]; exact Nat.le_refl _))
  clear h hr
  generalize hM : L.map Sd.i = M at *
  clear hM
  generalize hn : L.length = n at *
  go_enter Try.func14, Try.ntmps14
  go_wp2_with fail
  go_loopw [3, 13] (fun ov kv wr => ∃ (k : Nat) (dv : Value), k ≤ n ∧ kv = .int .i64 (k : Int) ∧ dv = ov ∧ Hid (OwnI wr dv (M.take k)) ∧ Hid (∀ q, dv.ownBlock = some q → w.heap.size ≤ q) ∧ Hid (Only (fun _ => False) w wr)) (fun _ kv _ => n - (intOf kv).toNat)
  case atStart => exact ⟨0, _, by omega, rfl, rfl, Lib.hid (OwnI.nil _), Lib.hid (fun q e => by cases e), Lib.hid (Only.refl _ _)⟩
  case round =>
    obtain ⟨k, dv, hk, rfl, rfl, HI, HBK, HO⟩ := hrel
    rename World => wr
    by_cases h8 : k < n
    · have hk0 : (0 : Int) ≤ k := by omega
      have hkn : (k : Int) < n := by omega
      obtain ⟨g, rfl, hcell⟩ := HR.out.resolve_left (by omega)
      obtain ⟨d0, d1, d2, d3, d4⟩ := hcell k h8
      replace d0 := HO.out.cell' d0 (fun f => f)
      replace d1 := HO.out.cell' d1 (fun f => f)
      replace d2 := HO.out.cell' d2 (fun f => f)
      replace d3 := HO.out.cell' d3 (fun f => f)
      replace d4 := HO.out.cell' d4 (fun f => f)
      have HSU := Lib.hid (HTK.out k h8)
      have HTK2 := Lib.hid (HTL.out k hk)
      generalize L.getD k default = xx at *
      obtain ⟨x, y, zm, zd, za, zn, zc, zg⟩ := xx
      dsimp only at d0 d1 d2 d3 d4 HSU
      obtain ⟨wq, hwq⟩ : ∃ z, z = wr.alloc (.cells #[.int .i64 x, .int .i64 y, .int .i64 zm, .int .i64 zd, .slice za zn zc] 25) := ⟨_, rfl⟩
      obtain ⟨g9, hg9⟩ : ∃ z, z = wr.heap.size := ⟨_, rfl⟩
      obtain ⟨e0, -, -, -, -, hoq⟩ := sbox hwq hg9
      have HWQ := Lib.hid (HO.out.trans hoq)
      have HOW2 : Hid ((wq.alloc (.cells #[.int .i64 x] 3)).ownsRow 0 3 1 dv (M.take k).length (iv (M.take k))) := Lib.hid (HI.out.only (hoq.alloc _) (fun _ _ f => f))
      rw [HTK2.out] at HOW2
      clear hcell hoq
      go_upto_region 7 with fail
      simp only [← hwq, ← hg9]
      clear hwq hg9 d0 d1 d2 d3 d4
      go_wp2_with (at_builtin; refine append_mine rfl _ _ 38 rfl 3 i1 _ 1 8 Try.underlying38 hj hy0 hy1 hy2 rfl (by decide) _ k _ rfl HOW2.out ⟨wq.heap.size, 0, none⟩ 1 1 (iv [x]) rfl ?c1 ?c2 ?c3 ?c4 ?c5 ?_)
      case c1 => rfl
      case c2 => exact news_int rfl _
      case c3 => exact iv_one _
      case c4 => unfold maxLen; omega
      case c5 => omega
      intro v3 w3 hown hgrow hkk
      have HON : Hid (OwnI w3 v3 (M.take (k + 1))) := Lib.hid (by
        unfold OwnI
        rw [HSU.out, iv_append, List.length_append, HTK2.out]
        exact hown)
      have HBN : Hid (∀ q, v3.ownBlock = some q → w.heap.size ≤ q) := Lib.hid (fun q hq => by
        rcases hkk q hq with e | e
        · exact HBK.out q e
        · have h5 : wq.heap.size ≤ q := by first | omega | (simp only [size_alloc] at e; omega)
          have := HWQ.out.size
          omega)
      have HON2 : Hid (Only (fun _ => False) w w3) := Lib.hid ((HWQ.out.alloc _).then (Only.of_grown hgrow) (fun q hq e => by have := HBK.out q e; omega))
      clear hown hgrow hkk HOW2
      go_wp2_with fail
      go_roundw
      case rel => exact ⟨k + 1, v3, by omega, by go_num, rfl, HON, HBN, HON2⟩
      case measure => simp [intOf]; omega
    · obtain rfl : k = n := by omega
      have HEND : Hid (OwnI wr dv M) := Lib.hid (by rw [← HTE.out]; exact HI.out)
      go_wp2_with fail
      go_ret
      exact ⟨⟨_, rfl, HEND.out⟩, HO.out⟩
/-- what is held of a node, by all sessions -/
def heldOf (L : List Sx) (nd : Int) : Int := (L.map (fun x => if x.nd = nd then (x.gs.map Gr.a).sum else 0)).sum
theorem heldOf_step {L : List Sx} {k : Nat} (nd : Int) (h : k < L.length) : heldOf (L.take (k + 1)) nd = heldOf (L.take k) nd + (if (L.getD k default).nd = nd then ((L.getD k default).gs.map Gr.a).sum else 0) := by
  unfold heldOf
  rw [take_getG L k h, List.map_append, List.sum_append]
  simp
theorem sum_bd {gs : List Gr} {B : Int} (h : ∀ x ∈ gs, 0 ≤ x.a ∧ x.a ≤ B) : 0 ≤ (gs.map Gr.a).sum ∧ (gs.map Gr.a).sum ≤ B * gs.length := by
  induction gs with
  | nil => simp
  | cons x r ih =>
    have h1 := h x (List.mem_cons_self ..)
    have h2 := ih (fun y hy => h y (List.mem_cons_of_mem _ hy))
    rw [List.map_cons, List.sum_cons, List.length_cons]
    constructor
    · omega
    · have e : B * ((r.length + 1 : Nat) : Int) = B * r.length + B := by push_cast; rw [Int.mul_add, Int.mul_one]
      rw [e]; omega
theorem right_sum {x : Sx} (h : rightB x = true) : 0 ≤ (x.gs.map Gr.a).sum ∧ (x.gs.map Gr.a).sum ≤ 36028797018963968 := by
  have hg := ((rightB_iff x).1 h).2.2.2.2.2.2
  have h4 := grsB_len hg
  obtain ⟨h1, h2⟩ := sum_bd (B := 9007199254740992) (fun y hy => (grsB_ok hg y hy).2.2)
  refine ⟨h1, Int.le_trans h2 ?_⟩
  omega
theorem heldOf_bd (L : List Sx) (nd : Int) (h : ∀ x ∈ L, rightB x = true) : 0 ≤ heldOf L nd ∧ heldOf L nd ≤ 36028797018963968 * L.length := by
  unfold heldOf
  induction L with
  | nil => simp
  | cons x r ih =>
    have h1 := right_sum (h x (List.mem_cons_self ..))
    have h2 := ih (fun y hy => h y (List.mem_cons_of_mem _ hy))
    rw [List.map_cons, List.sum_cons, List.length_cons]
    have e : (36028797018963968 : Int) * ((r.length + 1 : Nat) : Int) = 36028797018963968 * r.length + 36028797018963968 := by omega
    rw [e]
    split <;> constructor <;> omega
set_option maxRecDepth 100000 in
set_option maxHeartbeats 4000000 in
theorem cheld_any {S : Nat → Prop} (p : Nat) (places last : Int) (v : Value) (L : List Sd) (nd : Int) (w : World) (h : PT S w p places last v L) (hR : ∀ x ∈ L, rightB x.sx = true) : Calls Try.prog 16 #[.pointer (some ⟨p, 0, none⟩), .int .i64 nd] w fun e w' => e = .returned (.int .i64 (heldOf (L.map Sd.sx) nd)) ∧ Only (fun _ => False) w w' := by
  have HCT := Lib.hid h
  have HRR := Lib.hid hR
  have hll := h.len
  have c2 := h.c2
  obtain ⟨a, cap, rfl, hc, -, -, hr, -⟩ := own_S h.own
  have HR := Lib.hid hr
  have HST : Hid (∀ k, k < L.length → heldOf ((L.map Sd.sx).take (k + 1)) nd = heldOf ((L.map Sd.sx).take k) nd + (if (L.getD k default).nd = nd then ((L.getD k default).gs.map Gr.a).sum else 0)) := Lib.hid (fun k hk => by
    rw [heldOf_step nd (by rw [List.length_map]; exact hk), sx_get L hk]; rfl)
  have HBD : Hid (∀ k, k ≤ L.length → 0 ≤ heldOf ((L.map Sd.sx).take k) nd ∧ heldOf ((L.map Sd.sx).take k) nd ≤ 576460752303423488) := Lib.hid (fun k hk => by
    have h1 := heldOf_bd ((L.map Sd.sx).take k) nd (fun x hx => by
      obtain ⟨y, hy, rfl⟩ := List.mem_map.1 (List.mem_of_mem_take hx)
      exact hR y hy)
    have h2 : ((L.map Sd.sx).take k).length ≤ 16 := by rw [List.length_take, List.length_map]; omega
    have h3 : (((L.map Sd.sx).take k).length : Int) ≤ 16 := by omega
    exact ⟨h1.1, by omega⟩)
  have HGE : Hid (∀ k, k < L.length → GrIn S w p (.slice a L.length cap) (L.getD k default) ∧ (∀ y ∈ (L.getD k default).gs, -9223372036854775808 ≤ y.a ∧ y.a ≤ 9223372036854775807) ∧ (L.getD k default).gs.length ≤ 4) := Lib.hid (fun k hk => by
    have hm : L.getD k default ∈ L := by
      have : L.getD k default = L[k] := by simp [List.getD, hk]
      rw [this]; exact List.getElem_mem hk
    have hg := ((rightB_iff _).1 (hR _ hm)).2.2.2.2.2.2
    exact ⟨HCT.out.kd _ hm, fun y hy => by have := (grsB_ok hg y hy).2.2; omega, grsB_len hg⟩)
  have HEN : Hid (heldOf ((L.map Sd.sx).take L.length) nd = heldOf (L.map Sd.sx) nd) := Lib.hid (by rw [List.take_of_length_le (by rw [List.length_map]; exact Nat.le_refl _)])
  have H00 : Hid (heldOf ((L.map Sd.sx).take 0) nd = 0) := Lib.hid rfl
  generalize hT : L.map Sd.sx = T at *
  clear hT h hr hR HRR
  generalize hn : L.length = n at *
  go_enter Try.func16, Try.ntmps16
  go_wp2_with fail
  clear c2
  go_loopw [5, 15] (fun sv kv wr => ∃ (k : Nat) (s : Int), k ≤ n ∧ kv = .int .i64 (k : Int) ∧ sv = .int .i64 s ∧ Hid (s = heldOf (T.take k) nd) ∧ Hid (Only (fun _ => False) w wr)) (fun _ kv _ => n - (intOf kv).toNat)
  case atStart => exact ⟨0, 0, by omega, rfl, rfl, Lib.hid H00.out.symm, Lib.hid (Only.refl _ _)⟩
  case round =>
    obtain ⟨k, s, hk, rfl, rfl, HS, HO⟩ := hrel
    rename World => wr
    by_cases h8 : k < n
    · have hk0 : (0 : Int) ≤ (k : Int) := by omega
      have hkn : (k : Int) < (n : Int) := by omega
      obtain ⟨g, rfl, hcell⟩ := HR.out.resolve_left (by omega)
      obtain ⟨d0, d1, d2, d3, d4⟩ := hcell k h8
      replace d0 := HO.out.cell' d0 (fun f => f)
      replace d1 := HO.out.cell' d1 (fun f => f)
      replace d2 := HO.out.cell' d2 (fun f => f)
      replace d3 := HO.out.cell' d3 (fun f => f)
      replace d4 := HO.out.cell' d4 (fun f => f)
      have HSU := Lib.hid (HST.out k h8)
      have HGK := Lib.hid (HGE.out k h8)
      have HB0 := Lib.hid (HBD.out k hk)
      have HB1 := Lib.hid (HBD.out (k + 1) (by omega))
      generalize L.getD k default = xx at *
      obtain ⟨x, y, zm, zd, za, zn, zc, zg⟩ := xx
      dsimp only at d0 d1 d2 d3 d4 HSU HGK
      obtain ⟨wq, hwq⟩ : ∃ z, z = wr.alloc (.cells #[.int .i64 x, .int .i64 y, .int .i64 zm, .int .i64 zd, .slice za zn zc] 25) := ⟨_, rfl⟩
      obtain ⟨g9, hg9⟩ : ∃ z, z = wr.heap.size := ⟨_, rfl⟩
      obtain ⟨e0, e1, e2, e3, e4, hoq⟩ := sbox hwq hg9
      have HWQ := Lib.hid (HO.out.trans hoq)
      clear hcell hoq
      go_upto_region 7 with fail
      simp only [← hwq, ← hg9]
      clear hwq hg9 d0 d1 d2 d3 d4
      by_cases hnd : y = nd
      · have hb : (y == nd) = true := by simpa using hnd
        have hs1 : heldOf (T.take (k + 1)) nd = heldOf (T.take k) nd + (zg.map Gr.a).sum := HSU.out.trans (by rw [if_pos hnd])
        have hzs : intOr (zg.map Gr.a).sum = (zg.map Gr.a).sum := by
          have h1 := HB0.out
          have h2 := HB1.out
          rw [hs1] at h2
          unfold intOr
          rw [if_pos (by unfold isInt; simp; omega)]
        have HHE := Lib.hid (held_any za zn zc zg wq (HGK.out.1.1.quiet HWQ.out) HGK.out.2.1 (by have h1 := HGK.out.1.1.1; have h2 := HGK.out.2.2; dsimp only at h1; omega))
        rw [hzs] at HHE
        have hw1 : IntKind.i64.wrap (s + (zg.map Gr.a).sum) = s + (zg.map Gr.a).sum := by
          rw [IntKind.wrap_i64]
          have h1 := HB1.out
          rw [hs1] at h1
          have h2 := HS.out
          omega
        have HSN : Hid (s + (zg.map Gr.a).sum = heldOf (T.take (k + 1)) nd) := Lib.hid (by rw [hs1, HS.out])
        clear hs1 hzs hnd
        generalize (zg.map Gr.a).sum = zs at *
        go_wp2_with fail
        refine HHE.out.mono ?_
        rintro _ w5 ⟨rfl, ho5⟩
        have HO5 := Lib.hid (HWQ.out.trans ho5)
        clear ho5 HHE
        go_wp2_with fail
        go_roundw
        case rel => exact ⟨k + 1, _, by omega, by go_num, rfl, HSN, HO5⟩
        case measure => (simp [intOf]; omega)
      · have hb : (y == nd) = false := by simpa using hnd
        have HSN : Hid (s = heldOf (T.take (k + 1)) nd) := Lib.hid (by rw [HSU.out, if_neg hnd, Int.add_zero]; exact HS.out)
        clear hnd
        go_wp2_with fail
        go_roundw
        case rel => exact ⟨k + 1, _, by omega, by go_num, rfl, HSN, HWQ⟩
        case measure => (simp [intOf]; omega)
    · obtain rfl : k = n := by omega
      have HEND : Hid (heldOf T nd = s) := Lib.hid (by rw [← HEN.out]; exact HS.out.symm)
      go_wp2_with fail
      go_ret
      exact ⟨by rw [HEND.out]; rfl, HO.out⟩
end Go.Proofs.Ythflglejhhebeaa.cs
