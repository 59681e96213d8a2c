/- SnapSaves' walk. -/
import Derived.Test.YtcbpgplmphgcgaaSnT
import Derived.Test.YtcbpgplmphgcgaaHeldL
import Derived.Test.YtcbpgplmphgcgaaDsk9

import Derived.BigQuiet
namespace Go.Proofs.Ytcbpgplmphgcgaa.snw
open Go.RowKit mem snm crcm dskw
set_option linter.unusedVariables false

theorem bx3_new {w w1 : World} {g : Nat} {t : TypeId} {x0 x1 x2 : Value} (hw : w1 = w.alloc (.cells #[x0, x1, x2] t)) (hg : g = w.heap.size) : w1.cell? ⟨g, 0, none⟩ = some x0 ∧ w1.cell? ⟨g, 1, none⟩ = some x1 ∧ w1.cell? ⟨g, 2, none⟩ = some x2 ∧ Only (fun _ => False) w w1 := by
  subst hw hg
  have h : ∀ k u, (#[x0, x1, x2] : Array Value)[k]? = some u → (w.alloc (.cells #[x0, x1, x2] t)).cell? ⟨w.heap.size, k, none⟩ = some u := fun k u hu => by
    rw [Go.Joins.cell_of_block (cs := #[x0, x1, x2]) (t := t) (fr := (0, 0)) (by rw [heap_alloc, if_pos rfl])]; exact hu
  exact ⟨h 0 _ rfl, h 1 _ rfl, h 2 _ rfl, (Only.refl _ w).alloc _⟩
theorem saveF_head (L : Nat → List Nat) (at_ gen : Nat) (im : List Nat) : secs (saveF L at_ gen im) at_ 1 = headL gen im := secs_put (bodyF L at_ im) at_ 1 (headL gen im) (by rw [head_len])
theorem saveF_body (L : Nat → List Nat) (at_ gen : Nat) (im : List Nat) : secs (saveF L at_ gen im) (at_ + 1) (nsec im.length) = wl im := by
  have h := secs_far (bodyF L at_ im) at_ 1 (headL gen im) (at_ + 1) (nsec im.length) (.inr (by omega))
  have h2 := secs_put L (at_ + 1) (nsec im.length) (wl im) (wl_len im)
  exact h.trans h2
theorem w64n (k : Nat) (h : k ≤ 100) : wrap64 (k : Int) = (k : Int) := IntWalk.wrap64_in _ (by omega)
theorem dirty_nil (p bl bm n : Nat) (L : Nat → List Nat) (cut : Int) (off : Bool) (w : World) (h : DskAt w p bl bm n L (fun _ => none) cut off) :
    Calls Try.prog 30 #[.pointer (some ⟨p, 0, none⟩)] w fun e w' => e = .returned (.slice none 0 0) ∧ Only (fun _ => False) w w' := by
  refine (dirty_any p bl bm n L _ cut off w h).mono ?_
  rintro e w' ⟨v, rfl, h1, h2, h3⟩
  have e0 : dirtyL (fun _ => none) n = [] := by unfold dirtyL; simp
  exact ⟨by rw [h2.2 e0], Only.of_below h3⟩
theorem sec_n (sec : Int) : ∃ nn : Nat, wrap64 (1 + wrap64 ((IntKind.u64.wrap sec).tmod 24)) = (nn : Int) ∧ 1 ≤ nn ∧ nn ≤ 24 := by
  have h0 : 0 ≤ IntKind.u64.wrap sec := by rw [IntKind.wrap_u64]; omega
  rw [Int.tmod_eq_emod_of_nonneg h0]
  obtain ⟨r, hr⟩ : ∃ r : Nat, IntKind.u64.wrap sec % 24 = (r : Int) := Int.eq_ofNat_of_zero_le (by omega)
  have hr2 : r < 24 := by omega
  rw [hr, IntWalk.wrap64_in (r : Int) (by omega), IntWalk.wrap64_in (1 + (r : Int)) (by omega)]
  exact ⟨1 + r, by omega, by omega, by omega⟩
set_option maxRecDepth 100000 in
set_option maxHeartbeats 8000000 in
theorem saves_any (sec f s g : Int) (ao : Option Addr) (n c : Nat) (l : List Nat) (w : World) (hf : -9223372036854775808 ≤ f ∧ f ≤ 9223372036854775807) (hs : -9223372036854775808 ≤ s ∧ s ≤ 9223372036854775807) (hg : -9223372036854775808 ≤ g ∧ g ≤ 9223372036854775807) (h : Bytes w ao n c l) :
    Calls Try.prog 8 #[.int .i64 sec, .agg #[.int .i64 f, .int .i64 s, .int .i64 g], .slice ao n c] w fun e w' => e = .returned (.bool true) ∧ Only (fun _ => False) w w' := by
  obtain ⟨nn, hnn, hn1, hn24⟩ := sec_n sec
  have HB := Lib.hid h
  clear h
  obtain ⟨w0, hw0⟩ : ∃ x, x = w.alloc (.cells #[.int .i64 f, .int .i64 s, .int .i64 g] 22) := ⟨_, rfl⟩
  obtain ⟨g0, hg0⟩ : ∃ x, x = w.heap.size := ⟨_, rfl⟩
  obtain ⟨p0, p1, p2, ho0⟩ := bx3_new hw0 hg0
  have HP := Lib.hid (And.intro p0 (And.intro p1 p2))
  have HO0 := Lib.hid ho0
  clear p0 p1 p2 ho0
  go_enter Try.func8, Try.ntmps8
  go_upto_region 2 with fail
  simp only [← hw0, ← hg0, hnn]
  clear hw0 hg0 hnn
  go_wp2_with fail
  refine (new_any nn hn1 (by omega) w0).mono ?_
  rintro _ w1 ⟨p, bl, bm, rfl, hd, ho1, hp, hbl, hbm⟩
  have HD := Lib.hid hd
  have HO1 := Lib.hid ho1
  have HPP : Hid (w.heap.size ≤ p ∧ w.heap.size ≤ bl ∧ w.heap.size ≤ bm) := Lib.hid (by have := HO0.out.size; exact ⟨by omega, by omega, by omega⟩)
  have HTM := Lib.hid (tame_any ao n c l w1 (HB.out.only (HO0.out.trans ho1) (fun _ _ f => f)))
  have HI5 : Hid ((l.take 500).length ≤ 500) := Lib.hid (by rw [List.length_take]; omega)
  generalize l.take 500 = im at *
  clear hd ho1 hp hbl hbm HB
  go_wp2_with fail
  refine HTM.out.mono ?_
  rintro _ w2 ⟨v, rfl, hv, ho2, hvk⟩
  have hcv := conv_own hv
  have HIB : Hid (∀ c ∈ im, c < 256) := Lib.hid hv.2.1
  have HV := Lib.hid hv
  have HVK : Hid (∀ q, v.ownBlock = some q → ¬ Dbl p bl bm q) := Lib.hid (fun q e => by
    have h1 := hvk q e
    have h2 := HD.out.lt
    rintro (e | e | e) <;> omega)
  have HD2 := Lib.hid (HD.out.only ho2 (fun f => f) (fun f => f) (fun f => f))
  have HP2 := Lib.hid (And.intro ((HO1.out.trans ho2).cell' HP.out.1 (fun f => f)) (And.intro ((HO1.out.trans ho2).cell' HP.out.2.1 (fun f => f)) ((HO1.out.trans ho2).cell' HP.out.2.2 (fun f => f))))
  have HO2 := Lib.hid ((HO0.out.trans HO1.out).trans ho2)
  clear hv ho2 hvk HTM HD HP HO0 HO1
  go_upto_region 5 with fail
  obtain ⟨p0, p1, p2⟩ := HP2.out
  have HO2q : Hid (∀ nq, Only (fun _ => False) w2 (w2.drewN nq)) := Lib.hid (fun nq => drewN_sn (Only.refl _ _) nq)
  clear HP2 hcv
  go_quiet (fail)
  obtain ⟨w3, hw3⟩ : ∃ x, x = w2.drewN nq := ⟨_, rfl⟩
  have ho3 := HO2q.out nq
  rw [← hw3] at ho3 ⊢
  clear hw3 p0 p1 p2 HO2q
  have HSV := Lib.hid (save_all p bl bm nn f s g v im w3 (HD2.out.only ho3 (fun f => f) (fun f => f) (fun f => f)) hf hg.2 (HV.out.only ho3 (fun _ _ f => f)) HVK.out)
  have HO3 := Lib.hid (HO2.out.trans ho3)
  clear ho3 HD2 HV HO2
  obtain ⟨I, hI⟩ : ∃ I, strN im = I := ⟨_, rfl⟩
  have HI := Lib.hid hI
  rw [hI]
  have HIs : Hid (I.size = im.length) := Lib.hid (by rw [← hI, strN_size])
  clear hI
  go_wp2_with fail
  refine HSV.out.mono ?_
  rintro _ w4 ⟨sv, F, rfl, hsp, hd4, hv4, ho4⟩
  have HSP := Lib.hid hsp
  have HD4 := Lib.hid hd4
  have HV4 := Lib.hid hv4
  have HO4 : Hid (Only (fun _ => False) w w4) := Lib.hid (HO3.out.then ho4 (fun q hq e => by have := HPP.out; rcases e with e | e | e <;> omega))
  have HLD := Lib.hid (load_all p bl bm nn f s g im sv F w4 hsp hd4 hf hg.2)
  obtain ⟨lv, hlv⟩ : ∃ x, ldE nn f s sv = x := ⟨_, rfl⟩
  rw [hlv] at HLD
  have HLV := Lib.hid hlv
  clear hsp hd4 hv4 ho4 HSV HO3 hlv
  go_wp2_with fail
  refine HLD.out.mono ?_
  rintro _ w5 ⟨xa, xb, rfl, ho5⟩
  have HO5 := Lib.hid ho5
  have HGN := Lib.hid (gens_all p bl bm nn f s F w5 (HD4.out.only ho5 (fun f => f) (fun f => f) (fun f => f)) hf)
  obtain ⟨gv, hgv⟩ : ∃ x, gnE nn f s = x := ⟨_, rfl⟩
  rw [hgv] at HGN
  have HGV := Lib.hid hgv
  clear ho5 HLD hgv
  go_wp2_with fail
  refine HGN.out.mono ?_
  rintro _ w6 ⟨x0, x1, y0, y1, rfl, ho6⟩
  have HO6 := Lib.hid (HO5.out.trans ho6)
  clear ho6 HGN HO5
  obtain ⟨wa, hwa⟩ : ∃ x, x = w6.alloc (.cells #[.int .i64 x0, .int .i64 x1] 70) := ⟨_, rfl⟩
  obtain ⟨g9, hg9⟩ : ∃ x, x = w6.heap.size := ⟨_, rfl⟩
  obtain ⟨w7, hwd⟩ : ∃ x, x = wa.alloc (.cells #[.bool y0, .bool y1] 71) := ⟨_, rfl⟩
  have how7 : Only (fun _ => False) w6 w7 := by rw [hwd, hwa]; exact ((Only.refl _ _).alloc _).alloc _
  go_upto_region 9 with fail
  simp only [← hwa, ← hg9, ← hwd]
  clear hwa hg9 hwd
  have HO7 := Lib.hid (HO6.out.trans how7)
  have HL2 := Lib.hid (load_no (.pointer none) 0 1 w7 (noW_nil 0 1 w7))
  clear how7 HO6
  go_wp2_with fail
  refine HL2.out.mono ?_
  rintro _ w8 ⟨rfl, ho8⟩
  have HO8 := Lib.hid (HO7.out.trans ho8)
  have HG2 := Lib.hid (gens_no (.pointer none) 0 1 w8 (noW_nil 0 1 w8))
  clear ho8 HO7 HL2
  go_wp2_with fail
  refine HG2.out.mono ?_
  rintro _ w9 ⟨rfl, ho9⟩
  have HO9 := Lib.hid (HO8.out.trans ho9)
  clear ho9 HO8 HG2
  obtain ⟨wb, hwa⟩ : ∃ x, x = w9.alloc (.cells #[.int .i64 0, .int .i64 0] 70) := ⟨_, rfl⟩
  obtain ⟨g10, hg9⟩ : ∃ x, x = w9.heap.size := ⟨_, rfl⟩
  obtain ⟨w10, hwd⟩ : ∃ x, x = wb.alloc (.cells #[.bool false, .bool false] 71) := ⟨_, rfl⟩
  have how10 : Only (fun _ => False) w9 w10 := by rw [hwd, hwa]; exact ((Only.refl _ _).alloc _).alloc _
  go_upto_region 11 with fail
  simp only [← hwa, ← hg9, ← hwd]
  clear hwa hg9 hwd
  have HO10 := Lib.hid (HO9.out.trans how10)
  clear how10 HO9
  go_wp2_with fail
  refine (snaps_any w10).mono ?_
  rintro _ w11 ⟨rfl, ho11⟩
  have HO11 := Lib.hid (HO10.out.trans ho11)
  have HV11 := Lib.hid (HV4.out.only HO11.out (fun _ _ f => f))
  have HD11 := Lib.hid (HD4.out.only HO11.out (fun f => f) (fun f => f) (fun f => f))
  have HOF := Lib.hid (HO4.out.trans HO11.out)
  have hcv := conv_own HV11.out
  rw [HI.out] at hcv
  have hself : (I.toList == I.toList) = true := by simp
  have HSN := Lib.hid (save_no (.pointer none) 0 1 1 none 0 0 w11 false (noW_nil 0 1 w11 w11 (Only.refl _ _)) (.inl rfl))
  have HRM := Lib.hid (room_any s w11)
  have HRR := Lib.hid (rroom_any s w11)
  obtain ⟨R, hR⟩ : ∃ R, roomL s = R := ⟨_, rfl⟩
  rw [hR] at HRM HRR
  have HRE := Lib.hid hR
  clear ho11 HO10 HO11 HV4 HD4 HO4 hR
  go_wp2_with fail
  refine HSN.out.mono ?_
  rintro _ _ ⟨rfl, rfl⟩
  clear HSN
  go_wp2_with fail
  refine HRM.out.mono ?_
  rintro _ _ ⟨rfl, rfl⟩
  clear HRM
  go_wp2_with fail
  refine HRR.out.mono ?_
  rintro _ _ ⟨rfl, rfl⟩
  go_upto_region 13 with fail
  obtain ⟨q, hq⟩ : ∃ q, nn / 2 = q := ⟨_, rfl⟩
  have hqq : (nn : Int).tdiv 2 = (q : Int) := by rw [Int.tdiv_eq_ediv_of_nonneg (by omega)]; omega
  have HQ : Hid (q = nn / 2) := Lib.hid hq.symm
  have hq12 : q ≤ 12 := by omega
  clear hq
  by_cases hW : WIn nn f s
  · have hgn : gv = 0 := by rw [← HGV.out]; unfold gnE; rw [if_pos hW]
    obtain ⟨c1, c2, c3⟩ := id hW
    have d1 : ¬ f < 0 := by omega
    have d2 : ¬ s < 1 := by omega
    have d3 : ¬ (q : Int) < s := by have := HQ.out; omega
    have d5 : IntKind.i64.wrap (2 * s) = 2 * s := by rw [IntKind.wrap_i64]; omega
    have d6 : IntKind.i64.wrap ((nn : Int) - 2 * s) = (nn : Int) - 2 * s := by rw [IntKind.wrap_i64]; omega
    have d4 : ¬ (nn : Int) - 2 * s < f := by omega
    subst hgn
    have hsp := HSP.out
    clear HSP
    cases hsp with
    | out h0 => exact absurd hW h0
    | low h0 hg1 =>
      obtain rfl : lv = 7 := by rw [← HLV.out]; unfold ldE; rw [if_pos hW, if_neg (by omega)]
      clear hW c1 c2 c3 HGV HLV HRE HRR
      go_wp2_with fail
      go_ret
      exact ⟨by simp, HOF.out⟩
    | big h0 hg1 hr =>
      obtain rfl : lv = 7 := by rw [← HLV.out]; unfold ldE; rw [if_pos hW, if_neg (by omega)]
      have hg1' : ¬ g < 1 := by omega
      obtain ⟨li, hli⟩ : ∃ x, im.length = x := ⟨_, rfl⟩
      have hIs : I.size = li := by rw [HIs.out, hli]
      have hRl : R < (li : Int) := by rw [← HRE.out, ← hli]; exact hr
      clear hW c1 c2 c3 HGV HLV HRE h0 hr hli
      go_wp2_with fail
      refine HRR.out.mono ?_
      rintro _ _ ⟨rfl, rfl⟩
      clear HRR
      go_wp2_with fail
      go_ret
      exact ⟨by simp, HOF.out⟩
    | done a b c' ha hb hc h4 h5 h6 h7 =>
      obtain rfl : lv = 0 := by rw [← HLV.out]; unfold ldE; rw [if_pos hW, if_pos rfl]
      subst ha hb hc
      have hg1' : ¬ (c' : Int) < 1 := by omega
      obtain ⟨li, hli⟩ : ∃ x, im.length = x := ⟨_, rfl⟩
      have hIs : I.size = li := by rw [HIs.out, hli]
      have hRl : ¬ R < (li : Int) := by rw [← HRE.out, ← hli]; unfold roomL; rw [if_neg (by omega)]; omega
      obtain ⟨r, hr⟩ : ∃ r, c' % 2 = r := ⟨_, rfl⟩
      have hr1 : r < 2 := by omega
      obtain ⟨t, ht⟩ : ∃ t, r * b = t := ⟨_, rfl⟩
      have htb : t ≤ b := by
        rcases (by omega : r = 0 ∨ r = 1) with h0 | h0 <;> rw [h0] at ht <;> omega
      obtain ⟨at_, hat⟩ : ∃ x, a + t = x := ⟨_, rfl⟩
      have HAT : Hid (a + c' % 2 * b = at_) := Lib.hid (by rw [hr, ht, hat])
      have hcm : (c' : Int).tmod 2 = (r : Int) := by rw [Int.tmod_eq_emod_of_nonneg (by omega)]; omega
      have hcm2 : (c' : Int) % 2 = (r : Int) := by omega
      have hti : (r : Int) * (b : Int) = (t : Int) := by rw [← ht]; norm_cast
      have hw1 : IntKind.i64.wrap ((r : Int) * (b : Int)) = (t : Int) := by rw [hti, IntKind.wrap_i64]; omega
      have hai : (a : Int) + (t : Int) = (at_ : Int) := by omega
      have hw2 : IntKind.i64.wrap ((a : Int) + (t : Int)) = (at_ : Int) := by rw [IntKind.wrap_i64]; omega
      have hw3 : IntKind.i64.wrap ((at_ : Int) + 1) = (at_ : Int) + 1 := by rw [IntKind.wrap_i64]; omega
      have HAB : Hid (at_ + b ≤ nn) := Lib.hid (by omega)
      have hbn : b ≤ nn := by omega
      have haN : at_ ≤ nn := by omega
      have hrl : (roomL (b : Int)) = 64 * ((b : Int) - 1) := by unfold roomL; rw [if_neg (by omega)]
      clear hr ht hat
      have HAR := Lib.hid (And.intro h4 (And.intro h5 (And.intro h6 h7)))
      have HHD := Lib.hid (fun w' => rhead_any c' im w' (by omega) (by have := HI5.out; omega) HIB.out)
      have HBD := Lib.hid (fun w' => rbody_any im w' (by have := HI5.out; omega))
      simp only [HI.out] at HHD HBD
      have HRE2 := Lib.hid (HRE.out.symm.trans hrl)
      clear hW c1 c2 c3 HGV HLV HRE h4 h5 h6 h7 hf hs hg hli hrl htb hbn
      go_wp2_with fail
      refine HRR.out.mono ?_
      rintro _ _ ⟨rfl, rfl⟩
      clear HRR
      obtain ⟨ns, hns⟩ : ∃ x, nsec im.length = x := ⟨_, rfl⟩
      have hnb : 1 + ns ≤ b := by rw [← hns]; exact nsec_le HAR.out.2.2.2 HAR.out.2.1
      have hns24 : ns ≤ 24 := by have := HAB.out; omega
      have HWN : Hid (wrap64 (ns : Int) = (ns : Int)) := Lib.hid (w64n ns (by omega))
      clear hns24
      obtain ⟨Wb, hWb⟩ : ∃ x, strN (wl im) = x := ⟨_, rfl⟩
      have hWs : Wb.size = ns * 64 := by rw [← hWb, strN_size, wl_len, hns]
      have hqd : ((ns : Int) * 64).tdiv 64 = (ns : Int) := by rw [Int.tdiv_eq_ediv_of_nonneg (by omega)]; omega
      have hqd2 : ((ns : Int) * 64) / 64 = (ns : Int) := by omega
      have HR1 := Lib.hid (read_yes p bl bm nn _ _ 0 at_ 1 (by have := HAB.out; omega) w11 HD11.out)
      rw [cur_none, HAT.out, saveF_head] at HR1
      have HR2 := Lib.hid (fun w' (ho : Only (fun _ => False) w11 w') => read_yes p bl bm nn _ _ 0 (at_ + 1) ns (by have := HAB.out; omega) w' (HD11.out.only ho (fun f => f) (fun f => f) (fun f => f)))
      have hbody := saveF_body zF at_ c' im
      rw [hns] at hbody
      rw [cur_none, HAT.out, hbody] at HR2
      simp only [hWb] at HBD
      simp only [Int.cast_ofNat_Int, Int.natCast_add] at HR1 HR2
      have HWB := Lib.hid hWb
      have HNS := Lib.hid hns
      clear hbody hWb hns hnb
      go_wp2_with fail
      refine HR1.out.mono ?_
      rintro _ w12 ⟨ga, ca, rfl, hwa, ho12, -⟩
      have HWA := Lib.hid hwa
      have HO12 := Lib.hid ho12
      clear hwa ho12 HR1
      go_wp2_with fail
      refine (HBD.out w12).mono ?_
      rintro _ _ ⟨rfl, rfl⟩
      have HR2' := Lib.hid (HR2.out w12 HO12.out)
      clear HR2
      go_wp2_with fail
      rw [HWN.out]
      with_reducible refine HR2'.out.mono ?_
      rintro _ w13 ⟨gb, cb, rfl, hwb, ho13, -⟩
      have HO13 := Lib.hid (HO12.out.trans ho13)
      have HWA13 := Lib.hid (HWA.out.only ho13 (fun _ _ f => f))
      have HWB13 := Lib.hid hwb
      clear hwb ho13 HWA HR2' HO12
      generalize (headL c' im).length = la at *
      generalize (wl im).length = lb at *
      obtain ⟨Hs, hHs⟩ : ∃ x, strN (headL c' im) = x := ⟨_, rfl⟩
      have HSL : Hid (∀ w', Only (fun _ => False) w13 w' → Only (fun _ => False) w13 w' ∧ (convert 47 9 (.slice (some ⟨ga, 0, none⟩) la ca)).run Try.prog w' = .ok (.string Hs) w' ∧ (convert 47 9 (.slice (some ⟨gb, 0, none⟩) lb cb)).run Try.prog w' = .ok (.string Wb) w') := Lib.hid (fun w' ho => ⟨ho, by rw [← hHs]; exact conv_own (HWA13.out.only ho (fun _ _ f => f)), by rw [← HWB.out]; exact conv_own (HWB13.out.only ho (fun _ _ f => f))⟩)
      have HDY : Hid (∀ w', Only (fun _ => False) w13 w' → Calls Try.prog 30 #[.pointer (some ⟨p, 0, none⟩)] w' fun e w'' => e = .returned (.slice none 0 0) ∧ Only (fun _ => False) w' w'') := Lib.hid (fun w' ho => dirty_nil p bl bm nn _ 0 false w' (HD11.out.only (HO13.out.trans ho) (fun f => f) (fun f => f) (fun f => f)))
      simp only [hHs] at HHD
      have hself1 : (Hs.toList == Hs.toList) = true := by simp
      have hself2 : (Wb.toList == Wb.toList) = true := by simp
      have HOF13 : Hid (Only (fun _ => False) w w13) := Lib.hid (HOF.out.trans HO13.out)
      clear hHs HWB HD11 HO13 HOF HWA13 HWB13 hcv hself
      go_upto_region 22 with fail
      refine wp_region_noPanic ?_
      refine late.region (fun w' => Only (fun _ => False) w13 w' ∧ (convert 47 9 (.slice (some ⟨ga, 0, none⟩) la ca)).run Try.prog w' = .ok (.string Hs) w' ∧ (convert 47 9 (.slice (some ⟨gb, 0, none⟩) lb cb)).run Try.prog w' = .ok (.string Wb) w') (fun j => [].contains j) (by kernel_rfl) (HSL.out _ (Only.refl _ _).drew) (fun hHeld => ?_)
      obtain ⟨z0, hz0⟩ : ∃ x, x = w13.drew := ⟨_, rfl⟩
      rw [← hz0] at hHeld ⊢
      have hot : Hid (Only (fun _ => False) w13 z0) := Lib.hid (by rw [hz0]; exact (Only.refl _ _).drew)
      clear hz0
      refine late.take (i := 0) [1, 2, 3, 4, 5, 6, 7, 8, 9, 10, 11, 12, 13, 14, 15, 16, 17, 18, 19, 20, 21, 22, 23, 24, 25, 26, 27, 28, 29, 30, 31, 32, 33, 34, 35, 36, 37, 38, 39] (v := ?_) rfl (by kernel_rfl) (by kernel_rfl) (by kernel_rfl) (by kernel_rfl) (fun _ _ _ h => h) (Or.inl ⟨by rfl, ?_⟩) (by assumption) ?_
      rotate_left 1
      · intro w' hSw
        try dsimp only at hSw
        go_simp
        try with_reducible rfl
      try simp only [List.getElem_toArray, List.getElem_cons_zero, Act.put, List.setIfInBounds_toArray, List.set_cons_zero, List.set_cons_succ]
      refine late.take (i := 1) [2, 3, 4, 5, 6, 7, 8, 9, 10, 11, 12, 13, 14, 15, 16, 17, 18, 19, 20, 21, 22, 23, 24, 25, 26, 27, 28, 29, 30, 31, 32, 33, 34, 35, 36, 37, 38, 39] (v := ?_) rfl (by kernel_rfl) (by kernel_rfl) (by kernel_rfl) (by kernel_rfl) (fun _ _ _ h => h) (Or.inl ⟨by rfl, ?_⟩) (by assumption) ?_
      rotate_left 1
      · intro w' hSw
        try dsimp only at hSw
        go_simp
        try with_reducible rfl
      try simp only [List.getElem_toArray, List.getElem_cons_zero, List.getElem_cons_succ, Act.put, List.setIfInBounds_toArray, List.set_cons_zero, List.set_cons_succ]
      refine late.take (i := 2) [3, 4, 5, 6, 7, 8, 9, 10, 11, 12, 13, 14, 15, 16, 17, 18, 19, 20, 21, 22, 23, 24, 25, 26, 27, 28, 29, 30, 31, 32, 33, 34, 35, 36, 37, 38, 39] (v := ?_) rfl (by kernel_rfl) (by kernel_rfl) (by kernel_rfl) (by kernel_rfl) (fun _ _ _ h => h) (Or.inl ⟨by rfl, ?_⟩) (by assumption) ?_
      rotate_left 1
      · intro w' hSw
        try dsimp only at hSw
        go_simp
        try with_reducible rfl
      try simp only [List.getElem_toArray, List.getElem_cons_zero, List.getElem_cons_succ, Act.put, List.setIfInBounds_toArray, List.set_cons_zero, List.set_cons_succ]
      refine late.take (i := 3) [4, 5, 6, 7, 8, 9, 10, 11, 12, 13, 14, 15, 16, 17, 18, 19, 20, 21, 22, 23, 24, 25, 26, 27, 28, 29, 30, 31, 32, 33, 34, 35, 36, 37, 38, 39] (v := ?_) rfl (by kernel_rfl) (by kernel_rfl) (by kernel_rfl) (by kernel_rfl) (fun _ _ _ h => h) (Or.inl ⟨by rfl, ?_⟩) (by assumption) ?_
      rotate_left 1
      · intro w' hSw
        try dsimp only at hSw
        go_simp
        try with_reducible rfl
      try simp only [List.getElem_toArray, List.getElem_cons_zero, List.getElem_cons_succ, Act.put, List.setIfInBounds_toArray, List.set_cons_zero, List.set_cons_succ]
      refine late.take (i := 4) [5, 6, 7, 8, 9, 10, 11, 12, 13, 14, 15, 16, 17, 18, 19, 20, 21, 22, 23, 24, 25, 26, 27, 28, 29, 30, 31, 32, 33, 34, 35, 36, 37, 38, 39] (v := ?_) rfl (by kernel_rfl) (by kernel_rfl) (by kernel_rfl) (by kernel_rfl) (fun _ _ _ h => h) (Or.inl ⟨by rfl, ?_⟩) (by assumption) ?_
      rotate_left 1
      · intro w' hSw
        try dsimp only at hSw
        go_simp
        try with_reducible rfl
      try simp only [List.getElem_toArray, List.getElem_cons_zero, List.getElem_cons_succ, Act.put, List.setIfInBounds_toArray, List.set_cons_zero, List.set_cons_succ]
      refine late.take (i := 5) [6, 7, 8, 9, 10, 11, 12, 13, 14, 15, 16, 17, 18, 19, 20, 21, 22, 23, 24, 25, 26, 27, 28, 29, 30, 31, 32, 33, 34, 35, 36, 37, 38, 39] (v := ?_) rfl (by kernel_rfl) (by kernel_rfl) (by kernel_rfl) (by kernel_rfl) (fun _ _ _ h => h) (Or.inl ⟨by rfl, ?_⟩) (by assumption) ?_
      rotate_left 1
      · intro w' hSw
        try dsimp only at hSw
        go_simp
        try with_reducible rfl
      try simp only [List.getElem_toArray, List.getElem_cons_zero, List.getElem_cons_succ, Act.put, List.setIfInBounds_toArray, List.set_cons_zero, List.set_cons_succ]
      refine late.take (i := 6) [7, 8, 9, 10, 11, 12, 13, 14, 15, 16, 17, 18, 19, 20, 21, 22, 23, 24, 25, 26, 27, 28, 29, 30, 31, 32, 33, 34, 35, 36, 37, 38, 39] (v := ?_) rfl (by kernel_rfl) (by kernel_rfl) (by kernel_rfl) (by kernel_rfl) (fun _ _ _ h => h) (Or.inl ⟨by rfl, ?_⟩) (by assumption) ?_
      rotate_left 1
      · intro w' hSw
        try dsimp only at hSw
        go_simp
        try with_reducible rfl
      try simp only [List.getElem_toArray, List.getElem_cons_zero, List.getElem_cons_succ, Act.put, List.setIfInBounds_toArray, List.set_cons_zero, List.set_cons_succ]
      refine late.take (i := 7) [8, 9, 10, 11, 12, 13, 14, 15, 16, 17, 18, 19, 20, 21, 22, 23, 24, 25, 26, 27, 28, 29, 30, 31, 32, 33, 34, 35, 36, 37, 38, 39] (v := ?_) rfl (by kernel_rfl) (by kernel_rfl) (by kernel_rfl) (by kernel_rfl) (fun _ _ _ h => h) (Or.inl ⟨by rfl, ?_⟩) (by assumption) ?_
      rotate_left 1
      · intro w' hSw
        try dsimp only at hSw
        go_simp
        try with_reducible rfl
      try simp only [List.getElem_toArray, List.getElem_cons_zero, List.getElem_cons_succ, Act.put, List.setIfInBounds_toArray, List.set_cons_zero, List.set_cons_succ]
      refine late.take (i := 8) [9, 10, 11, 12, 13, 14, 15, 16, 17, 18, 19, 20, 21, 22, 23, 24, 25, 26, 27, 28, 29, 30, 31, 32, 33, 34, 35, 36, 37, 38, 39] (v := ?_) rfl (by kernel_rfl) (by kernel_rfl) (by kernel_rfl) (by kernel_rfl) (fun _ _ _ h => h) (Or.inl ⟨by rfl, ?_⟩) (by assumption) ?_
      rotate_left 1
      · intro w' hSw
        try dsimp only at hSw
        go_simp
        try with_reducible rfl
      try simp only [List.getElem_toArray, List.getElem_cons_zero, List.getElem_cons_succ, Act.put, List.setIfInBounds_toArray, List.set_cons_zero, List.set_cons_succ]
      refine late.take (i := 9) [10, 11, 12, 13, 14, 15, 16, 17, 18, 19, 20, 21, 22, 23, 24, 25, 26, 27, 28, 29, 30, 31, 32, 33, 34, 35, 36, 37, 38, 39] (v := ?_) rfl (by kernel_rfl) (by kernel_rfl) (by kernel_rfl) (by kernel_rfl) (fun _ _ _ h => h) (Or.inl ⟨by rfl, ?_⟩) (by assumption) ?_
      rotate_left 1
      · intro w' hSw
        try dsimp only at hSw
        go_simp
        try with_reducible rfl
      try simp only [List.getElem_toArray, List.getElem_cons_zero, List.getElem_cons_succ, Act.put, List.setIfInBounds_toArray, List.set_cons_zero, List.set_cons_succ]
      refine late.take (i := 10) [11, 12, 13, 14, 15, 16, 17, 18, 19, 20, 21, 22, 23, 24, 25, 26, 27, 28, 29, 30, 31, 32, 33, 34, 35, 36, 37, 38, 39] (v := ?_) rfl (by kernel_rfl) (by kernel_rfl) (by kernel_rfl) (by kernel_rfl) (fun _ _ _ h => h) (Or.inl ⟨by rfl, ?_⟩) (by assumption) ?_
      rotate_left 1
      · intro w' hSw
        try dsimp only at hSw
        go_simp
        try with_reducible rfl
      try simp only [List.getElem_toArray, List.getElem_cons_zero, List.getElem_cons_succ, Act.put, List.setIfInBounds_toArray, List.set_cons_zero, List.set_cons_succ]
      refine late.take (i := 11) [12, 13, 14, 15, 16, 17, 18, 19, 20, 21, 22, 23, 24, 25, 26, 27, 28, 29, 30, 31, 32, 33, 34, 35, 36, 37, 38, 39] (v := ?_) rfl (by kernel_rfl) (by kernel_rfl) (by kernel_rfl) (by kernel_rfl) (fun _ _ _ h => h) (Or.inl ⟨by rfl, ?_⟩) (by assumption) ?_
      rotate_left 1
      · intro w' hSw
        try dsimp only at hSw
        go_simp
        try with_reducible rfl
      try simp only [List.getElem_toArray, List.getElem_cons_zero, List.getElem_cons_succ, Act.put, List.setIfInBounds_toArray, List.set_cons_zero, List.set_cons_succ]
      refine late.take (i := 12) [13, 14, 15, 16, 17, 18, 19, 20, 21, 22, 23, 24, 25, 26, 27, 28, 29, 30, 31, 32, 33, 34, 35, 36, 37, 38, 39] (v := ?_) rfl (by kernel_rfl) (by kernel_rfl) (by kernel_rfl) (by kernel_rfl) (fun _ _ _ h => h) (Or.inl ⟨by rfl, ?_⟩) (by assumption) ?_
      rotate_left 1
      · intro w' hSw
        try dsimp only at hSw
        go_simp
        try with_reducible rfl
      try simp only [List.getElem_toArray, List.getElem_cons_zero, List.getElem_cons_succ, Act.put, List.setIfInBounds_toArray, List.set_cons_zero, List.set_cons_succ]
      refine late.take (i := 13) [14, 15, 16, 17, 18, 19, 20, 21, 22, 23, 24, 25, 26, 27, 28, 29, 30, 31, 32, 33, 34, 35, 36, 37, 38, 39] (v := ?_) rfl (by kernel_rfl) (by kernel_rfl) (by kernel_rfl) (by kernel_rfl) (fun _ _ _ h => h) (Or.inl ⟨by rfl, ?_⟩) (by assumption) ?_
      rotate_left 1
      · intro w' hSw
        try dsimp only at hSw
        go_simp
        try with_reducible rfl
      try simp only [List.getElem_toArray, List.getElem_cons_zero, List.getElem_cons_succ, Act.put, List.setIfInBounds_toArray, List.set_cons_zero, List.set_cons_succ]
      refine late.take (i := 14) [15, 16, 17, 18, 19, 20, 21, 22, 23, 24, 25, 26, 27, 28, 29, 30, 31, 32, 33, 34, 35, 36, 37, 38, 39] (v := ?_) rfl (by kernel_rfl) (by kernel_rfl) (by kernel_rfl) (by kernel_rfl) (fun _ _ _ h => h) (Or.inl ⟨by rfl, ?_⟩) (by assumption) ?_
      rotate_left 1
      · intro w' hSw
        try dsimp only at hSw
        go_simp
        try with_reducible rfl
      try simp only [List.getElem_toArray, List.getElem_cons_zero, List.getElem_cons_succ, Act.put, List.setIfInBounds_toArray, List.set_cons_zero, List.set_cons_succ]
      refine late.take (i := 15) [16, 17, 18, 19, 20, 21, 22, 23, 24, 25, 26, 27, 28, 29, 30, 31, 32, 33, 34, 35, 36, 37, 38, 39] (v := ?_) rfl (by kernel_rfl) (by kernel_rfl) (by kernel_rfl) (by kernel_rfl) (fun _ _ _ h => h) (Or.inl ⟨by rfl, ?_⟩) (by assumption) ?_
      rotate_left 1
      · intro w' hSw
        try dsimp only at hSw
        go_simp
        try with_reducible rfl
      try simp only [List.getElem_toArray, List.getElem_cons_zero, List.getElem_cons_succ, Act.put, List.setIfInBounds_toArray, List.set_cons_zero, List.set_cons_succ]
      refine late.take (i := 16) [17, 18, 19, 20, 21, 22, 23, 24, 25, 26, 27, 28, 29, 30, 31, 32, 33, 34, 35, 36, 37, 38, 39] (v := ?_) rfl (by kernel_rfl) (by kernel_rfl) (by kernel_rfl) (by kernel_rfl) (fun _ _ _ h => h) (Or.inl ⟨by rfl, ?_⟩) (by assumption) ?_
      rotate_left 1
      · intro w' hSw
        try dsimp only at hSw
        go_simp
        try with_reducible rfl
      try simp only [List.getElem_toArray, List.getElem_cons_zero, List.getElem_cons_succ, Act.put, List.setIfInBounds_toArray, List.set_cons_zero, List.set_cons_succ]
      refine late.take (i := 17) [18, 19, 20, 21, 22, 23, 24, 25, 26, 27, 28, 29, 30, 31, 32, 33, 34, 35, 36, 37, 38, 39] (v := ?_) rfl (by kernel_rfl) (by kernel_rfl) (by kernel_rfl) (by kernel_rfl) (fun _ _ _ h => h) (Or.inl ⟨by rfl, ?_⟩) (by assumption) ?_
      rotate_left 1
      · intro w' hSw
        try dsimp only at hSw
        go_simp
        try with_reducible rfl
      try simp only [List.getElem_toArray, List.getElem_cons_zero, List.getElem_cons_succ, Act.put, List.setIfInBounds_toArray, List.set_cons_zero, List.set_cons_succ]
      refine late.take (i := 18) [19, 20, 21, 22, 23, 24, 25, 26, 27, 28, 29, 30, 31, 32, 33, 34, 35, 36, 37, 38, 39] (v := ?_) rfl (by kernel_rfl) (by kernel_rfl) (by kernel_rfl) (by kernel_rfl) (fun _ _ _ h => h) (Or.inl ⟨by rfl, ?_⟩) (by assumption) ?_
      rotate_left 1
      · intro w' hSw
        try dsimp only at hSw
        go_simp
        try with_reducible rfl
      try simp only [List.getElem_toArray, List.getElem_cons_zero, List.getElem_cons_succ, Act.put, List.setIfInBounds_toArray, List.set_cons_zero, List.set_cons_succ]
      refine late.take (i := 19) [20, 24, 25, 26, 27, 28, 29, 30, 31, 32, 33, 34, 35, 36, 37, 38, 39] (v := ?_) rfl (by kernel_rfl) (by kernel_rfl) (by kernel_rfl) (by kernel_rfl) (fun _ _ _ h => h) (Or.inl ⟨by rfl, ?_⟩) (by assumption) ?_
      rotate_left 1
      · intro w' hSw
        try dsimp only at hSw
        go_simp
        try with_reducible rfl
      try simp only [List.getElem_toArray, List.getElem_cons_zero, List.getElem_cons_succ, Act.put, List.setIfInBounds_toArray, List.set_cons_zero, List.set_cons_succ]
      refine late.take (i := 20) [24, 25, 26, 27, 28, 29, 30, 31, 32, 33, 34, 35, 36, 37, 38, 39] (v := ?_) rfl (by kernel_rfl) (by kernel_rfl) (by kernel_rfl) (by kernel_rfl) (fun _ _ _ h => h) (Or.inl ⟨by rfl, ?_⟩) (by assumption) ?_
      rotate_left 1
      · intro w' hSw
        try dsimp only at hSw
        go_simp
        try with_reducible rfl
      try simp only [List.getElem_toArray, List.getElem_cons_zero, List.getElem_cons_succ, Act.put, List.setIfInBounds_toArray, List.set_cons_zero, List.set_cons_succ]
      refine late.take (i := 21) [23, 24, 25, 26, 27, 28, 29, 30, 31, 32, 33, 34, 35, 36, 37, 38, 39] (v := ?_) rfl (by kernel_rfl) (by kernel_rfl) (by kernel_rfl) (by kernel_rfl) (fun _ _ _ h => h) (Or.inl ⟨by rfl, ?_⟩) (by assumption) ?_
      rotate_left 1
      · intro w' hSw
        try dsimp only at hSw
        go_simp
        try with_reducible rfl
      try simp only [List.getElem_toArray, List.getElem_cons_zero, List.getElem_cons_succ, Act.put, List.setIfInBounds_toArray, List.set_cons_zero, List.set_cons_succ]
      refine late.take (i := 22) [23, 24, 25, 26, 27, 28, 29, 30, 31, 32, 33, 34, 35, 36, 37, 38, 39] (v := ?_) rfl (by kernel_rfl) (by kernel_rfl) (by kernel_rfl) (by kernel_rfl) (fun _ _ _ h => h) (Or.inl ⟨by rfl, ?_⟩) (by assumption) ?_
      rotate_left 1
      · intro w' hSw
        try dsimp only at hSw
        go_simp
        try with_reducible rfl
      try simp only [List.getElem_toArray, List.getElem_cons_zero, List.getElem_cons_succ, Act.put, List.setIfInBounds_toArray, List.set_cons_zero, List.set_cons_succ]
      refine late.ready (rs := [23]) (by kernel_rfl) (by simp) ?_
      refine late.Each.cons rfl (fun K hK => ?_) late.Each.nil
      try simp only [List.getElem_toArray, List.getElem_cons_zero, List.getElem_cons_succ]
      go_simp
      go_at_call 43
      with_reducible refine (HHD.out _).mono ?_
      rintro _ W1 ⟨rfl, ho⟩
      replace hot := Lib.hid (hot.out.trans ho)
      clear ho
      refine hK.out _ _ (fun _ => HSL.out _ hot.out) (fun hHeld1 => ?_)
      replace hHeld1 := hHeld1 rfl
      clear hK K
      try simp only [List.getElem_toArray, List.getElem_cons_zero, List.getElem_cons_succ, Act.put, List.setIfInBounds_toArray, List.set_cons_zero, List.set_cons_succ]
      refine late.take (i := 24) [25, 26, 27, 28, 29, 30, 31, 32, 33, 34, 35, 36, 37, 38, 39] (v := ?_) rfl (by kernel_rfl) (by kernel_rfl) (by kernel_rfl) (by kernel_rfl) (fun _ _ _ h => h) (Or.inl ⟨by rfl, ?_⟩) (by assumption) ?_
      rotate_left 1
      · intro w' hSw
        try dsimp only at hSw
        go_simp
        try with_reducible rfl
      try simp only [List.getElem_toArray, List.getElem_cons_zero, List.getElem_cons_succ, Act.put, List.setIfInBounds_toArray, List.set_cons_zero, List.set_cons_succ]
      refine late.take (i := 25) [26, 27, 28, 29, 30, 31, 32, 33, 34, 35, 36, 37, 38, 39] (v := ?_) rfl (by kernel_rfl) (by kernel_rfl) (by kernel_rfl) (by kernel_rfl) (fun _ _ _ h => h) (Or.inl ⟨by rfl, ?_⟩) (by assumption) ?_
      rotate_left 1
      · intro w' hSw
        try dsimp only at hSw
        go_simp
        try with_reducible rfl
      try simp only [List.getElem_toArray, List.getElem_cons_zero, List.getElem_cons_succ, Act.put, List.setIfInBounds_toArray, List.set_cons_zero, List.set_cons_succ]
      refine late.take (i := 26) [27, 28, 29, 30, 31, 32, 33, 34, 35, 36, 37, 38, 39] (v := ?_) rfl (by kernel_rfl) (by kernel_rfl) (by kernel_rfl) (by kernel_rfl) (fun _ _ _ h => h) (Or.inl ⟨by rfl, ?_⟩) (by assumption) ?_
      rotate_left 1
      · intro w' hSw
        try dsimp only at hSw
        go_simp
        try with_reducible rfl
      try simp only [List.getElem_toArray, List.getElem_cons_zero, List.getElem_cons_succ, Act.put, List.setIfInBounds_toArray, List.set_cons_zero, List.set_cons_succ]
      refine late.take (i := 27) [28, 31, 32, 33, 34, 35, 36, 37, 38, 39] (v := ?_) rfl (by kernel_rfl) (by kernel_rfl) (by kernel_rfl) (by kernel_rfl) (fun _ _ _ h => h) (Or.inl ⟨by rfl, ?_⟩) (by assumption) ?_
      rotate_left 1
      · intro w' hSw
        try dsimp only at hSw
        go_simp
        try with_reducible rfl
      try simp only [List.getElem_toArray, List.getElem_cons_zero, List.getElem_cons_succ, Act.put, List.setIfInBounds_toArray, List.set_cons_zero, List.set_cons_succ]
      refine late.take (i := 28) [31, 32, 33, 34, 35, 36, 37, 38, 39] (v := ?_) rfl (by kernel_rfl) (by kernel_rfl) (by kernel_rfl) (by kernel_rfl) (fun _ _ _ h => h) (Or.inl ⟨by rfl, ?_⟩) (by assumption) ?_
      rotate_left 1
      · intro w' hSw
        try dsimp only at hSw
        go_simp
        try with_reducible rfl
      try simp only [List.getElem_toArray, List.getElem_cons_zero, List.getElem_cons_succ, Act.put, List.setIfInBounds_toArray, List.set_cons_zero, List.set_cons_succ]
      refine late.take (i := 29) [30, 31, 32, 33, 34, 35, 36, 37, 38, 39] (v := ?_) rfl (by kernel_rfl) (by kernel_rfl) (by kernel_rfl) (by kernel_rfl) (fun _ _ _ h => h) (Or.inl ⟨by rfl, ?_⟩) (by assumption) ?_
      rotate_left 1
      · intro w' hSw
        try dsimp only at hSw
        go_simp
        try with_reducible rfl
      try simp only [List.getElem_toArray, List.getElem_cons_zero, List.getElem_cons_succ, Act.put, List.setIfInBounds_toArray, List.set_cons_zero, List.set_cons_succ]
      refine late.ready (rs := [30]) (by kernel_rfl) (by simp) ?_
      refine late.Each.cons rfl (fun K hK => ?_) late.Each.nil
      try simp only [List.getElem_toArray, List.getElem_cons_zero, List.getElem_cons_succ]
      go_simp
      go_at_call 42
      with_reducible refine (HBD.out _).mono ?_
      rintro _ _ ⟨rfl, rfl⟩
      refine hK.out _ _ (fun _ => HSL.out _ hot.out) (fun hHeld2 => ?_)
      replace hHeld2 := hHeld2 rfl
      clear hK K
      try simp only [List.getElem_toArray, List.getElem_cons_zero, List.getElem_cons_succ, Act.put, List.setIfInBounds_toArray, List.set_cons_zero, List.set_cons_succ]
      refine late.take (i := 31) [32, 33, 34, 35, 36, 37, 38, 39] (v := ?_) rfl (by kernel_rfl) (by kernel_rfl) (by kernel_rfl) (by kernel_rfl) (fun _ _ _ h => h) (Or.inl ⟨by rfl, ?_⟩) (by assumption) ?_
      rotate_left 1
      · intro w' hSw
        try dsimp only at hSw
        go_simp
        try with_reducible rfl
      try simp only [List.getElem_toArray, List.getElem_cons_zero, List.getElem_cons_succ, Act.put, List.setIfInBounds_toArray, List.set_cons_zero, List.set_cons_succ]
      refine late.take (i := 32) [33, 34, 35, 36, 37, 38, 39] (v := ?_) rfl (by kernel_rfl) (by kernel_rfl) (by kernel_rfl) (by kernel_rfl) (fun _ _ _ h => h) (Or.inl ⟨by rfl, ?_⟩) (by assumption) ?_
      rotate_left 1
      · intro w' hSw
        try dsimp only at hSw
        go_simp
        try with_reducible rfl
      try simp only [List.getElem_toArray, List.getElem_cons_zero, List.getElem_cons_succ, Act.put, List.setIfInBounds_toArray, List.set_cons_zero, List.set_cons_succ]
      refine late.take (i := 33) [34, 35, 36, 37, 38, 39] (v := ?_) rfl (by kernel_rfl) (by kernel_rfl) (by kernel_rfl) (by kernel_rfl) (fun _ _ _ h => h) (Or.inl ⟨by rfl, ?_⟩) (by assumption) ?_
      rotate_left 1
      · intro w' hSw
        try dsimp only at hSw
        go_simp
        try with_reducible rfl
      try simp only [List.getElem_toArray, List.getElem_cons_zero, List.getElem_cons_succ, Act.put, List.setIfInBounds_toArray, List.set_cons_zero, List.set_cons_succ]
      refine late.take (i := 34) [35, 36, 37, 38, 39] (v := ?_) rfl (by kernel_rfl) (by kernel_rfl) (by kernel_rfl) (by kernel_rfl) (fun _ _ _ h => h) (Or.inl ⟨by rfl, ?_⟩) (by assumption) ?_
      rotate_left 1
      · intro w' hSw
        try dsimp only at hSw
        go_simp
        try with_reducible rfl
      try simp only [List.getElem_toArray, List.getElem_cons_zero, List.getElem_cons_succ, Act.put, List.setIfInBounds_toArray, List.set_cons_zero, List.set_cons_succ]
      refine late.ready (rs := [35]) (by kernel_rfl) (by simp) ?_
      refine late.Each.cons rfl (fun K hK => ?_) late.Each.nil
      try simp only [List.getElem_toArray, List.getElem_cons_zero, List.getElem_cons_succ]
      go_simp
      go_at_call 30
      with_reducible refine (HDY.out _ hot.out).mono ?_
      rintro _ W3 ⟨rfl, ho⟩
      replace hot := Lib.hid (hot.out.trans ho)
      clear ho
      refine hK.out _ _ (fun _ => HSL.out _ hot.out) (fun hHeld3 => ?_)
      replace hHeld3 := hHeld3 rfl
      clear hK K
      try simp only [List.getElem_toArray, List.getElem_cons_zero, List.getElem_cons_succ, Act.put, List.setIfInBounds_toArray, List.set_cons_zero, List.set_cons_succ]
      refine late.take (i := 36) [37, 38, 39] (v := ?_) rfl (by kernel_rfl) (by kernel_rfl) (by kernel_rfl) (by kernel_rfl) (fun _ _ _ h => h) (Or.inl ⟨by rfl, ?_⟩) (by assumption) ?_
      rotate_left 1
      · intro w' hSw
        try dsimp only at hSw
        go_simp
        try with_reducible rfl
      try simp only [List.getElem_toArray, List.getElem_cons_zero, List.getElem_cons_succ, Act.put, List.setIfInBounds_toArray, List.set_cons_zero, List.set_cons_succ]
      refine late.take (i := 37) [38, 39] (v := ?_) rfl (by kernel_rfl) (by kernel_rfl) (by kernel_rfl) (by kernel_rfl) (fun _ _ _ h => h) (Or.inl ⟨by rfl, ?_⟩) (by assumption) ?_
      rotate_left 1
      · intro w' hSw
        try dsimp only at hSw
        go_simp
        try with_reducible rfl
      try simp only [List.getElem_toArray, List.getElem_cons_zero, List.getElem_cons_succ, Act.put, List.setIfInBounds_toArray, List.set_cons_zero, List.set_cons_succ]
      refine late.take (i := 38) [39] (v := ?_) rfl (by kernel_rfl) (by kernel_rfl) (by kernel_rfl) (by kernel_rfl) (fun _ _ _ h => h) (Or.inl ⟨by rfl, ?_⟩) (by assumption) ?_
      rotate_left 1
      · intro w' hSw
        try dsimp only at hSw
        go_simp
        try with_reducible rfl
      try simp only [List.getElem_toArray, List.getElem_cons_zero, List.getElem_cons_succ, Act.put, List.setIfInBounds_toArray, List.set_cons_zero, List.set_cons_succ]
      refine late.take (i := 39) [] (v := ?_) rfl (by kernel_rfl) (by kernel_rfl) (by kernel_rfl) (by kernel_rfl) (fun _ _ _ h => h) (Or.inl ⟨by rfl, ?_⟩) (by assumption) ?_
      rotate_left 1
      · intro w' hSw
        try dsimp only at hSw
        go_simp
        try with_reducible rfl
      try simp only [List.getElem_toArray, List.getElem_cons_zero, List.getElem_cons_succ, Act.put, List.setIfInBounds_toArray, List.set_cons_zero, List.set_cons_succ]
      refine late.done (by kernel_rfl) ?_ _
      refine NoPanic.normal ?_
      go_wp2_with fail
      go_ret
      exact ⟨by simp, HOF13.out.trans hot.out⟩
  · have hgn : gv = 1 := by rw [← HGV.out]; unfold gnE; rw [if_neg hW]
    have hln : lv = 1 := by rw [← HLV.out]; unfold ldE; rw [if_neg hW]
    have hsn : sv = 1 := by
      have hsp := HSP.out
      cases hsp with
      | out h0 => rfl
      | low h0 hg1 => rfl
      | big h0 hg1 hr => exact absurd h0 hW
      | done a b c' ha hb hc h4 h5 h6 h7 => exact absurd ⟨by omega, by omega, by omega⟩ hW
    subst hgn hln hsn
    clear HSP HGV HLV HRE HRR
    by_cases d1 : f < 0
    · clear hW
      go_wp2_with fail
      go_ret
      exact ⟨by simp, HOF.out⟩
    · by_cases d2 : s < 1
      · clear hW
        go_wp2_with fail
        go_ret
        exact ⟨by simp, HOF.out⟩
      · by_cases d3 : (q : Int) < s
        · clear hW
          go_wp2_with fail
          go_ret
          exact ⟨by simp, HOF.out⟩
        · have d5 : IntKind.i64.wrap (2 * s) = 2 * s := by rw [IntKind.wrap_i64]; omega
          have d6 : IntKind.i64.wrap ((nn : Int) - 2 * s) = (nn : Int) - 2 * s := by rw [IntKind.wrap_i64]; omega
          have d4 : (nn : Int) - 2 * s < f := by
            have := HQ.out
            refine Classical.byContradiction fun hx => hW ⟨by omega, by omega, by omega⟩
          clear hW
          go_wp2_with fail
          go_ret
          exact ⟨by simp, HOF.out⟩
end Go.Proofs.Ytcbpgplmphgcgaa.snw
