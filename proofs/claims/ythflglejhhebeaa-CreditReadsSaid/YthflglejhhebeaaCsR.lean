/- CreditActs' walk. -/
import Derived.Test.YthflglejhhebeaaCsQ
import Derived.Deep.CutRange
import Derived.Deep.CutBlock
namespace Go.Proofs.Ythflglejhhebeaa.cs
open Go.RowKit mem rwg
set_option linter.unusedVariables false

theorem cnew_no (places : Int) (w : World) (h : ¬ (1 ≤ places ∧ places ≤ 16)) : Calls Try.prog 17 #[.int .i64 places] w fun e w' => e = .returned (.tuple #[.pointer none, .int .i64 1]) ∧ Only (fun _ => False) w w' := by
  have HO9 := Lib.hid (Only.refl (fun _ => False) w)
  rcases (by omega : places < 1 ∨ (¬ places < 1 ∧ places > 16)) with h1 | ⟨h1, h2⟩
  all_goals
    go_enter Try.func17, Try.ntmps17
    go_wp2_with fail
    go_ret2
    exact ⟨rfl, HO9.out⟩
/-- a new table and the document's -/
theorem tb_new {w w1 w2 : World} {pl : Int} {p r : Nat} (hpt : PT (fun q => w.heap.size ≤ q) w1 w.heap.size pl 0 (.slice none 0 0) []) (ho : Only (fun _ => False) w w1) (hm : 1 ≤ pl ∧ pl ≤ 16) (h2 : w2 = w1.alloc (.cells #[.int .i64 pl, .int .i64 0, .slice none 0 0] 47)) (hp : p = w.heap.size) (hr : r = w1.heap.size) : TB p pl 0 p r [] w2 := by
  subst hp hr
  have hal : Only (fun _ => False) w1 w2 := by rw [h2]; exact (Only.refl _ _).alloc _
  have hlt := hpt.lt
  have hc : ∀ k u, (#[.int .i64 pl, .int .i64 0, .slice none 0 0] : Array Value)[k]? = some u → w2.cell? ⟨w1.heap.size, k, none⟩ = some u := fun k u hu => by
    rw [h2, Go.Joins.cell_of_block (cs := #[.int .i64 pl, .int .i64 0, .slice none 0 0]) (t := 47) (fr := (0, 0)) (by rw [heap_alloc, if_pos rfl])]; exact hu
  have hf : ∀ j, w2.frozen? ⟨w1.heap.size, j, none⟩ = false := fun j => by rw [h2]; exact sfrozen rfl j
  have hs2 : w2.heap.size = w1.heap.size + 1 := by rw [h2, size_alloc]
  have hsw := ho.size
  refine ⟨fun q => w.heap.size ≤ q ∧ q < w1.heap.size, fun q => q = w1.heap.size, .slice none 0 0, .slice none 0 0, [], [], ?_, ?_, rfl, rfl, TOk.new hm, fun x s => ⟨s.1, by omega, by omega⟩, fun x s => ⟨by omega, by omega⟩⟩
  · exact ⟨hal.cell' hpt.c0 (fun f => f), hal.cell' hpt.c1 (fun f => f), hal.cell' hpt.c2 (fun f => f), (hal.frozen (p := ⟨w.heap.size, 1, none⟩) hlt (fun f => f)).trans hpt.f1, (hal.frozen (p := ⟨w.heap.size, 2, none⟩) hlt (fun f => f)).trans hpt.f2, OwnR.nil _ _, hpt.np, hpt.len, ⟨Nat.le_refl _, hlt⟩, fun q e => (by cases e), fun x hx => (by cases hx), fun _ x hx => (by cases hx)⟩
  · exact ⟨hc 0 _ rfl, hc 1 _ rfl, hc 2 _ rfl, hf 1, hf 2, OwnR.nil _ _, (by simp [Value.ownBlock]), (by simp), rfl, fun q e => (by cases e), fun x hx => (by cases hx), fun _ x hx => (by cases hx)⟩
set_option maxRecDepth 100000 in
set_option maxHeartbeats 16000000 in
theorem cacts_any (pl : Int) (a1 : Option Addr) (l1 c1 : Nat) (ask : Int) (w0 : World) (h0 : RowS w0 a1 l1) :
    Calls Try.prog 3 #[.int .i64 pl, .slice a1 l1 c1, .int .i64 ask] w0 fun e w' => e = .returned (.bool true) ∧ Only (fun _ => False) w0 w' := by
  have hm1 := h0.1
  unfold maxLen at hm1
  have H0 := Lib.hid h0
  clear h0
  go_enter Try.func3, Try.ntmps3
  go_wp2_with fail
  refine (nonek _).mono ?_
  rintro _ x1 ⟨rfl, k1⟩
  have K1 : Hid (Only (fun _ => False) w0 x1) := Lib.hid (by exact k1)
  clear k1
  go_wp2_with fail
  refine (get_nil _ _).mono ?_
  rintro _ x2 ⟨rfl, k2⟩
  have K2 : Hid (Only (fun _ => False) w0 x2) := Lib.hid (by first | exact K1.out.trans k2 | exact (K1.out.alloc _).trans k2)
  clear k2 K1
  unfold ZS
  dsimp only
  go_wp2_with fail
  refine (nonek _).mono ?_
  rintro _ x3 ⟨rfl, k3⟩
  have K3 : Hid (Only (fun _ => False) w0 x3) := Lib.hid (by first | exact K2.out.trans k3 | exact (K2.out.alloc _).trans k3)
  clear k3 K2
  go_wp2_with fail
  refine (write_nil _).mono ?_
  rintro _ x4 ⟨rfl, k4⟩
  have K4 : Hid (Only (fun _ => False) w0 x4) := Lib.hid (by first | exact K3.out.trans k4 | exact (K3.out.alloc _).trans k4)
  clear k4 K3
  go_wp2_with fail
  refine (credits_any _).mono ?_
  rintro _ x5 ⟨rfl, k5⟩
  have K5 : Hid (Only (fun _ => False) w0 x5) := Lib.hid (by first | exact K4.out.trans k5 | exact (K4.out.alloc _).trans k5)
  clear k5 K4
  go_wp2_with fail
  refine (nonek _).mono ?_
  rintro _ x6 ⟨rfl, k6⟩
  have K6 : Hid (Only (fun _ => False) w0 x6) := Lib.hid (by first | exact K5.out.trans k6 | exact (K5.out.alloc _).trans k6)
  clear k6 K5
  go_wp2_with fail
  refine (add_nil _).mono ?_
  rintro _ x7 ⟨rfl, k7⟩
  have K7 : Hid (Only (fun _ => False) w0 x7) := Lib.hid (by first | exact K6.out.trans k7 | exact (K6.out.alloc _).trans k7)
  clear k7 K6
  go_wp2_with fail
  refine (nonek _).mono ?_
  rintro _ x8 ⟨rfl, k8⟩
  have K8 : Hid (Only (fun _ => False) w0 x8) := Lib.hid (by first | exact K7.out.trans k8 | exact (K7.out.alloc _).trans k8)
  clear k8 K7
  go_wp2_with fail
  refine (set_nil _).mono ?_
  rintro _ x9 ⟨rfl, k9⟩
  have K9 : Hid (Only (fun _ => False) w0 x9) := Lib.hid (by first | exact K8.out.trans k9 | exact (K8.out.alloc _).trans k9)
  clear k9 K8
  go_wp2_with fail
  refine (nonek _).mono ?_
  rintro _ x10 ⟨rfl, k10⟩
  have K10 : Hid (Only (fun _ => False) w0 x10) := Lib.hid (by first | exact K9.out.trans k10 | exact (K9.out.alloc _).trans k10)
  clear k10 K9
  go_wp2_with fail
  refine (end_nil _ _).mono ?_
  rintro _ x11 ⟨rfl, k11⟩
  have K11 : Hid (Only (fun _ => False) w0 x11) := Lib.hid (by first | exact K10.out.trans k11 | exact (K10.out.alloc _).trans k11)
  clear k11 K10
  go_wp2_with fail
  refine (nonek _).mono ?_
  rintro _ x12 ⟨rfl, k12⟩
  have K12 : Hid (Only (fun _ => False) w0 x12) := Lib.hid (by first | exact K11.out.trans k12 | exact (K11.out.alloc _).trans k12)
  clear k12 K11
  go_wp2_with fail
  refine (step_nil _ _ _).mono ?_
  rintro _ x13 ⟨rfl, k13⟩
  have K13 : Hid (Only (fun _ => False) w0 x13) := Lib.hid (by first | exact K12.out.trans k13 | exact (K12.out.alloc _).trans k13)
  clear k13 K12
  go_wp2_with fail
  refine (nonek _).mono ?_
  rintro _ x14 ⟨rfl, k14⟩
  have K14 : Hid (Only (fun _ => False) w0 x14) := Lib.hid (by first | exact K13.out.trans k14 | exact (K13.out.alloc _).trans k14)
  clear k14 K13
  go_wp2_with fail
  refine (ids_nil _).mono ?_
  rintro _ x15 ⟨rfl, k15⟩
  have K15 : Hid (Only (fun _ => False) w0 x15) := Lib.hid (by first | exact K14.out.trans k15 | exact (K14.out.alloc _).trans k15)
  clear k15 K14
  go_wp2_with fail
  refine (nonek _).mono ?_
  rintro _ x16 ⟨rfl, k16⟩
  have K16 : Hid (Only (fun _ => False) w0 x16) := Lib.hid (by first | exact K15.out.trans k16 | exact (K15.out.alloc _).trans k16)
  clear k16 K15
  go_wp2_with fail
  refine (last_nil _).mono ?_
  rintro _ x17 ⟨rfl, k17⟩
  have K17 : Hid (Only (fun _ => False) w0 x17) := Lib.hid (by first | exact K16.out.trans k17 | exact (K16.out.alloc _).trans k17)
  clear k17 K16
  go_wp2_with fail
  refine (nonek _).mono ?_
  rintro _ x18 ⟨rfl, k18⟩
  have K18 : Hid (Only (fun _ => False) w0 x18) := Lib.hid (by first | exact K17.out.trans k18 | exact (K17.out.alloc _).trans k18)
  clear k18 K17
  go_wp2_with fail
  refine (held_nil _ _).mono ?_
  rintro _ x19 ⟨rfl, k19⟩
  have K19 : Hid (Only (fun _ => False) w0 x19) := Lib.hid (by first | exact K18.out.trans k19 | exact (K18.out.alloc _).trans k19)
  clear k19 K18
  rename World => w
  have H1 := Lib.hid (H0.out.keep (Nat.le_refl _) (K19.out.mono (fun _ _ f => f.elim)))
  clear H0
  by_cases hmo : 1 ≤ pl ∧ pl ≤ 16
  · obtain ⟨hm2, hm3⟩ := hmo
    have hm4 : ¬ pl < 1 := by omega
    have hm5 : ¬ 16 < pl := by omega
    go_wp2_with fail
    refine (cnew_any pl w hm2 hm3).mono ?_
    rintro _ w1 ⟨rfl, hpt, ho⟩
    obtain ⟨p, hp⟩ : ∃ x, x = w.heap.size := ⟨_, rfl⟩
    obtain ⟨r, hr⟩ : ∃ x, x = w1.heap.size := ⟨_, rfl⟩
    obtain ⟨w2, hw2⟩ : ∃ x, x = w1.alloc (.cells #[.int .i64 pl, .int .i64 0, .slice none 0 0] 47) := ⟨_, rfl⟩
    have HB0 := Lib.hid (tb_new hpt ho ⟨hm2, hm3⟩ hw2 hp hr)
    have HP := Lib.hid hp
    have HO0 : Hid (Only (fun q => p ≤ q) w w2) := Lib.hid (by rw [hw2]; exact (ho.mono (fun _ _ f => f.elim)).alloc _)
    clear hpt ho
    go_upto_block 0 with fail
    simp only [← hp, ← hr, ← hw2]
    clear hp hr hw2
    go_cut [13] from 92 to 109 (fun iv wx => ∃ (k : Int) (K : List Sx) (last : Int), iv = .int .i64 k ∧ Hid (TB p pl last p r K wx) ∧ Hid (Only (fun x => p ≤ x) w wx))
    case first =>
      go_wp2_with fail
      go_loopw [13] (fun iv wr => ∃ (k : Nat) (K : List Sx) (last : Int), k ≤ 40 ∧ iv = .int .i64 (k : Int) ∧ Hid (TB p pl last p r K wr) ∧ Hid (Only (fun x => p ≤ x) w wr)) (fun iv _ => 40 - (intOf iv).toNat)
      case atStart => exact ⟨0, [], 0, by omega, rfl, HB0, HO0⟩
      case round =>
        obtain ⟨k, KL, last, hk, rfl, HB, HO⟩ := hrel
        rename World => wr
        have hk0 : (0 : Int) ≤ (k : Int) := by omega
        have hwk : wrap64 ((k : Int) + 1) = (k : Int) + 1 := by unfold wrap64; omega
        by_cases h8 : k < l1
        · have hk1 : (k : Int) < l1 := by omega
          by_cases h20 : k < 40
          · have hk2 : (k : Int) < 40 := by omega
            obtain ⟨b, off, rfl, hcell⟩ := H1.out.2.resolve_left (by omega)
            obtain ⟨d, hd, hin⟩ := hcell k h8
            replace hd := hd.keep (Nat.le_of_eq HP.out.symm) HO.out
            replace hin := hin.keep (Nat.le_of_eq HP.out.symm) HO.out
            obtain ⟨z0, z1, z2, z3, z4, za, zn, zc, z6, zg⟩ := d
            obtain ⟨d0, d1, d2, d3, d4, d5, d6⟩ := hd
            obtain ⟨i0, i1⟩ := hin
            dsimp only at d0 d1 d2 d3 d4 d5 d6 i0 i1
            have HDO := Lib.hid (do_any z0 z1 z2 z3 z4 z6 za zn zc zg wr HB.out i0 i1)
            clear hcell i0 i1
            go_wp2_with fail
            refine HDO.out.mono ?_
            rintro _ w5 ⟨rfl, ⟨KN, last', hb⟩, ho⟩
            have HB5 := Lib.hid hb
            have HO5 : Hid (Only (fun x => p ≤ x) w w5) := Lib.hid (HO.out.trans ho)
            clear hb ho d0 d1 d2 d3 d4 d5 d6 HDO
            go_wp2_with fail
            go_roundw
            case rel => exact ⟨k + 1, KN, last', by omega, by go_num, HB5, HO5⟩
            case measure => (simp [intOf]; omega)
          · have hk2 : ¬ (k : Int) < 40 := by omega
            go_wp2_with fail
            go_meet
            exact ⟨_, KL, last, rfl, HB, HO⟩
        · have hk1 : ¬ (k : Int) < l1 := by omega
          go_wp2_with fail
          go_meet
          exact ⟨_, KL, last, rfl, HB, HO⟩
    case rest =>
      obtain ⟨k, KL, last, rfl, HB, HO⟩ := hcut
      rename World => wr
      clear HB0 HO0 H1
      have HHV : Hid (∀ w', Only (fun x => p ≤ x) w w' → Only (fun _ => False) w0 w') := Lib.hid (fun w' ho => K19.out.then ho (fun q hq e => by have := HP.out; have := K19.out.size; omega))
      obtain ⟨S1, S2, v, v2, L, L2, hT⟩ := HB.out
      have HT := Lib.hid hT
      have HL1K : Hid (∀ x ∈ L, x.gs.length ≤ 1000) := Lib.hid (fun x hx => by
        have h1 := (hT.ok.rt x.sx (by rw [← hT.e1]; exact List.mem_map.2 ⟨x, hx, rfl⟩)).1
        have h2 := grsB_len ((rightB_iff _).1 h1).2.2.2.2.2.2
        have h3 : x.gs.length ≤ 4 := h2
        omega)
      have HG := Lib.hid (cget_any p pl last v L ask wr hT.pt HL1K.out)
      have HGO : Hid (∀ e w', GotS L ask wr e w' → Only (fun _ => False) wr w' ∧ ∃ V E, e = .returned (.tuple #[V, .int .i64 E]) ∧ (∃ b0 b1 b2 b3 b4, V = .agg #[b0, b1, b2, b3, b4]) ∧ ((E = 0 ∧ 0 ≤ sIdx ask 0 KL) ∨ (E = 7 ∧ ¬ 0 ≤ sIdx ask 0 KL))) := Lib.hid (fun e w' hg => by
        rcases hg with ⟨h1, h2, h3⟩ | ⟨k2, h1, h2, xa, xc, h3, h4⟩
        · rw [HT.out.e1] at h1
          exact ⟨h3, _, _, h2, ⟨_, _, _, _, _, rfl⟩, .inr ⟨rfl, by omega⟩⟩
        · rw [HT.out.e1] at h2
          exact ⟨h4.2.2.2.2, _, _, h3, ⟨_, _, _, _, _, rfl⟩, .inl ⟨rfl, by omega⟩⟩)
      have HLK : Hid (∀ w', Only (fun _ => False) wr w' → Calls _ _ _ w' _) := Lib.hid (fun w' (ho : Only (fun _ => False) wr w') => like_any w' (⟨S1, S2, v, v2, L, L2, HT.out.quiet ho⟩ : TB p pl last p r KL w'))
      have HFD : Hid (∀ w', Only (fun _ => False) wr w' → Calls Try.prog 20 #[.pointer (some ⟨r, 0, none⟩), .int .i64 ask] w' fun e w2 => e = .returned (.int .i64 (sIdx ask 0 KL)) ∧ w' = w2) := Lib.hid (fun w' ho => by
        have h := rfind_any r pl last v2 L2 ask w' (HT.out.quiet ho).dt
        rw [HT.out.e2] at h
        exact h)
      have HO2 : Hid (∀ w', Only (fun _ => False) wr w' → Only (fun _ => False) w0 w') := Lib.hid (fun w' ho => HHV.out _ (HO.out.trans (ho.mono (fun _ _ f => f.elim))))
      clear hT HT HB HO HL1K HHV
      generalize sIdx ask 0 KL = sx at *
      go_wp2_with fail
      refine HG.out.mono ?_
      rintro e9 w3 hgot
      obtain ⟨ho3, V, E, rfl, -, hE⟩ := HGO.out e9 w3 hgot
      have HO3 := Lib.hid ho3
      clear hgot ho3 HG HGO
      rcases hE with ⟨rfl, hsx⟩ | ⟨rfl, hsx⟩
      all_goals
        go_wp2_with fail
        refine (HLK.out _ HO3.out).mono ?_
        rintro _ w4 ⟨rfl, ho⟩
        have HO4 := Lib.hid (HO3.out.trans ho)
        clear ho
        go_wp2_with fail
        refine (HFD.out _ HO4.out).mono ?_
        rintro _ w5 ⟨rfl, rfl⟩
        go_wp2_with fail
        go_ret
        exact ⟨by simp [hsx], HO2.out _ HO4.out⟩
  · have HO9 : Hid (∀ w', Only (fun _ => False) w w' → Only (fun _ => False) w0 w') := Lib.hid (fun w' ho => K19.out.trans ho)
    go_wp2_with fail
    refine (cnew_no pl w hmo).mono ?_
    rintro _ w1 ⟨rfl, ho⟩
    have HOE := Lib.hid (HO9.out _ ho)
    clear ho
    rcases (by omega : pl < 1 ∨ (¬ pl < 1 ∧ 16 < pl)) with h1 | ⟨h1, h2⟩
    all_goals
      go_wp2_with fail
      go_ret
      exact ⟨by simp, HOE.out⟩
end Go.Proofs.Ythflglejhhebeaa.cs
