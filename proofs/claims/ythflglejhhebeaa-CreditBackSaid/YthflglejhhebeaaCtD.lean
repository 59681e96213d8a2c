/- CreditBack's walk: a table comes back from its bytes, and goes on. -/
import Derived.Test.YthflglejhhebeaaCtC
import Derived.Deep.CutRange
import Derived.Deep.CutBlock
namespace Go.Proofs.Ythflglejhhebeaa.cs
open Go.RowKit mem rwg codm codp codw
set_option linter.unusedVariables false

theorem tmod_inC (y m : Int) (hm : 0 < m) (hm2 : m ≤ 100000000000000000) : 0 ≤ wrap64 ((IntKind.u64.wrap y).tmod m) ∧ wrap64 ((IntKind.u64.wrap y).tmod m) < m := by
  have e : IntKind.u64.wrap y = y % 18446744073709551616 := by rw [IntKind.wrap_u64]
  have h0 : 0 ≤ y % 18446744073709551616 := Int.emod_nonneg _ (by omega)
  rw [e, Int.tmod_eq_emod_of_nonneg h0]
  have h1 := Int.emod_nonneg (y % 18446744073709551616) (show m ≠ 0 by omega)
  have h2 := Int.emod_lt_of_pos (y % 18446744073709551616) hm
  unfold wrap64
  omega
theorem tab_len {pl last : Int} {K : List Sx} (h : TOk pl last K) : (tabB pl last K).length ≤ 4000 := by
  have h1 := ss_blen K (fun s hs => grsB_len ((rightB_iff s).1 (h.rt s hs).1).2.2.2.2.2.2)
  have h2 := h.ln
  have h3 := h.p1
  have h4 := (enc_length pl.toNat).1
  have h5 := (enc_length last.toNat).1
  have h6 := (enc_length K.length).1
  unfold tabB
  simp only [List.length_append]
  omega
/-- the table that came back, and the document's -/
theorem TBs.back {base : Nat} {S1 S2 : Nat → Prop} {pl last : Int} {p q u : Nat} {v v2 v3 : Value} {L L2 L3 : List Sd} {K : List Sx} {w wa wb : World} (h : TBs base S1 S2 pl last p q v v2 L L2 K w) (ha : Only (fun _ => False) w wa) (hu : PT (fun x => wa.heap.size ≤ x) wb u pl last v3 L3) (e3 : L3.map Sd.sx = K) (hb : Only (fun _ => False) wa wb) : TB base pl last u q K wb := by
  have s1 := ha.size
  have s2 := hb.size
  have hbw : base ≤ w.heap.size := by have := (h.d1 p h.pt.sp); omega
  exact ⟨fun x => wa.heap.size ≤ x ∧ x < wb.heap.size, S2, v3, v2, L3, L2, ⟨hu.mono (fun x hx s => ⟨s, hx⟩), (h.dt.quiet ha).quiet hb, e3, h.e2, h.ok, fun x s => ⟨by omega, s.2, fun t => by have := (h.d2 x t).2; omega⟩, fun x s => ⟨(h.d2 x s).1, by have := (h.d2 x s).2; omega⟩⟩⟩
theorem TB.quiet {base : Nat} {pl last : Int} {p q : Nat} {K : List Sx} {w w' : World} (h : TB base pl last p q K w) (ho : Only (fun _ => False) w w') : TB base pl last p q K w' := by
  obtain ⟨S1, S2, v, v2, L, L2, hT⟩ := h
  exact ⟨S1, S2, v, v2, L, L2, hT.quiet ho⟩
set_option maxRecDepth 100000 in
set_option maxHeartbeats 16000000 in
theorem cback_any (pl0 : Int) (a1 : Option Addr) (l1 c1 : Nat) (a2 : Option Addr) (l2 c2 : Nat) (w : World) (h1 : RowS w a1 l1) (h2 : RowS w a2 l2) :
    Calls Try.prog 4 #[.int .i64 pl0, .slice a1 l1 c1, .slice a2 l2 c2] w fun e w' => e = .returned (.bool true) ∧ Only (fun _ => False) w w' := by
  have hm1 := h1.1
  have hm2 := h2.1
  unfold maxLen at hm1 hm2
  have H1 := Lib.hid h1
  have H2 := Lib.hid h2
  clear h1 h2
  have hz := tmod_inC pl0 16 (by decide) (by decide)
  generalize hzz : wrap64 ((IntKind.u64.wrap pl0).tmod 16) = z at hz
  obtain ⟨hz0, hz1⟩ := hz
  obtain ⟨pl, hpl⟩ : ∃ x, 1 + z = x := ⟨_, rfl⟩
  have hp2 : 1 ≤ pl := by omega
  have hp3 : pl ≤ 16 := by omega
  go_enter Try.func4, Try.ntmps4
  go_wp2_with fail
  clear hzz hz0 hz1 hpl
  refine (cnew_any pl w hp2 hp3).mono ?_
  rintro _ w1 ⟨rfl, hpt, ho⟩
  obtain ⟨p, hp⟩ : ∃ x, x = w.heap.size := ⟨_, rfl⟩
  obtain ⟨r, hr⟩ : ∃ x, x = w1.heap.size := ⟨_, rfl⟩
  obtain ⟨w2, hw2⟩ : ∃ x, x = w1.alloc (.cells #[.int .i64 pl, .int .i64 0, .slice none 0 0] 47) := ⟨_, rfl⟩
  have HBA := Lib.hid (tb_new hpt ho ⟨hp2, hp3⟩ hw2 hp hr)
  have HP := Lib.hid hp
  have HOA : Hid (Only (fun q => p ≤ q) w w2) := Lib.hid (by rw [hw2]; exact (ho.mono (fun _ _ f => f.elim)).alloc _)
  have HEND : Hid (∀ w', Only (fun x => p ≤ x) w w' → Only (fun _ => False) w w') := Lib.hid (fun w' ho => (Only.refl (fun _ => False) w).then ho (fun q hq e => by have := HP.out; omega))
  clear hpt ho
  go_upto_region 4 with fail
  simp only [← hp, ← hr, ← hw2]
  clear hp hr hw2
  go_wp2_with fail
  refine (credits_any w2).mono ?_
  rintro _ w3 ⟨rfl, ho⟩
  have HB0 : Hid (TB p pl 0 p r [] w3) := Lib.hid (HBA.out.quiet ho)
  have HO0 : Hid (Only (fun q => p ≤ q) w w3) := Lib.hid (HOA.out.trans (ho.mono (fun _ _ f => f.elim)))
  clear ho HBA HOA
  go_upto_block 0 with fail
  go_cut [10] from 35 to 52 (fun iv wx => ∃ (k : Int) (K : List Sx) (last : Int), iv = .int .i64 k ∧ Hid (TB p pl last p r K wx) ∧ Hid (Only (fun x => p ≤ x) w wx))
  case first =>
    go_wp2_with fail
    go_loopw [10] (fun iv wr => ∃ (k : Nat) (K : List Sx) (last : Int), k ≤ 40 ∧ iv = .int .i64 (k : Int) ∧ Hid (TB p pl last p r K wr) ∧ Hid (Only (fun x => p ≤ x) w wr)) (fun iv _ => 40 - (intOf iv).toNat)
    case atStart => exact ⟨0, [], 0, by omega, rfl, HB0, HO0⟩
    case round =>
      clear HB0 HO0
      obtain ⟨k, KL, last, hk, rfl, HB, HO⟩ := hrel
      rename World => wr
      have hk0 : (0 : Int) ≤ (k : Int) := by omega
      have hwk : wrap64 ((k : Int) + 1) = (k : Int) + 1 := by unfold wrap64; omega
      by_cases h8 : k < l1
      · have hk1 : (k : Int) < l1 := by omega
        by_cases h20 : k < 40
        · have hk2 : (k : Int) < 40 := by omega
          obtain ⟨b, off, rfl, hcell⟩ := H1.out.2.resolve_left (by omega)
          obtain ⟨d, hd, hin⟩ := hcell k h8
          replace hd := hd.keep (Nat.le_of_eq HP.out.symm) HO.out
          replace hin := hin.keep (Nat.le_of_eq HP.out.symm) HO.out
          obtain ⟨z0, z1, z2, z3, z4, za, zn, zc, z6, zg⟩ := d
          obtain ⟨d0, d1, d2, d3, d4, d5, d6⟩ := hd
          obtain ⟨i0, i1⟩ := hin
          dsimp only at d0 d1 d2 d3 d4 d5 d6 i0 i1
          have HDO := Lib.hid (do_any z0 z1 z2 z3 z4 z6 za zn zc zg wr HB.out i0 i1)
          clear hcell i0 i1
          go_wp2_with fail
          refine HDO.out.mono ?_
          rintro _ w5 ⟨rfl, ⟨KN, last', hb⟩, ho⟩
          have HB5 := Lib.hid hb
          have HO5 : Hid (Only (fun x => p ≤ x) w w5) := Lib.hid (HO.out.trans ho)
          clear hb ho d0 d1 d2 d3 d4 d5 d6 HDO
          go_wp2_with fail
          go_roundw
          case rel => exact ⟨k + 1, KN, last', by omega, by go_num, HB5, HO5⟩
          case measure => (simp [intOf]; omega)
        · have hk2 : ¬ (k : Int) < 40 := by omega
          go_wp2_with fail
          go_meet
          exact ⟨_, KL, last, rfl, HB, HO⟩
      · have hk1 : ¬ (k : Int) < l1 := by omega
        go_wp2_with fail
        go_meet
        exact ⟨_, KL, last, rfl, HB, HO⟩
  case rest =>
    obtain ⟨k, KL, last, rfl, HB, HO⟩ := hcut
    rename World => wr
    clear HB0 HO0
    obtain ⟨S1, S2, v, v2, L, L2, hT⟩ := HB.out
    have HT := Lib.hid hT
    have HOK := Lib.hid hT.ok
    have HW0 : Hid (Calls Try.prog 8 #[.pointer (some ⟨p, 0, none⟩)] wr (Wrote wr (tabB pl last KL))) := Lib.hid (by
      have := ctwrite_any p pl last v L wr hT.pt (by rw [hT.e1]; exact hT.ok)
      rwa [hT.e1] at this)
    have HRW0 : Hid (∀ w', Only (fun _ => False) wr w' → Calls Try.prog 22 #[.pointer (some ⟨r, 0, none⟩)] w' fun e w'' => e = .returned (.string (dskw.strN (tabB pl last KL))) ∧ Only (fun _ => False) w' w'') := Lib.hid (fun w' ho => by
      have := rtwrite_any r pl last v2 L2 w' (hT.dt.quiet ho) (by rw [hT.e2]; exact hT.ok)
      rwa [hT.e2] at this)
    have HIS : Hid (isT (tabB pl last KL) pl last KL) := Lib.hid ⟨hT.ok, rfl⟩
    have hbl := tab_len hT.ok
    clear hT HB
    obtain ⟨B, hB⟩ : ∃ x, tabB pl last KL = x := ⟨_, rfl⟩
    rw [hB] at HW0 HRW0 HIS hbl
    clear hB
    go_wp2_with fail
    refine HW0.out.mono ?_
    rintro _ wa ⟨ra, rc, rfl, hby, hyb, ho⟩
    have HBA := Lib.hid hby
    have HOA := Lib.hid ho
    have hBy : By B := ⟨fun x hx => hby.1.2.2.1 x hx, by omega⟩
    have HRD := Lib.hid (ctread_any ra B.length rc B wa hby hBy)
    clear hby hyb ho hBy HW0
    generalize hnb : B.length = nb at *
    go_wp2_with fail
    refine HRD.out.mono ?_
    rintro _ wb ⟨ho, hres⟩
    rcases hres with ⟨pl', last', K', u, v3, L3, his, rfl, hpt, hK⟩ | ⟨hno, rfl⟩
    · obtain ⟨rfl, rfl, rfl⟩ := HIS.out.uniq his
      have HBW : Hid (TB p pl last u r KL wb) := Lib.hid (HT.out.back HOA.out hpt hK ho)
      have HOW : Hid (Only (fun x => p ≤ x) w wb) := Lib.hid (HO.out.trans ((HOA.out.trans ho).mono (fun _ _ f => f.elim)))
      have HSL : Hid (∀ w', Only (fun _ => False) wb w' → (convert 31 9 (.slice ra nb rc)).run Try.prog w' = .ok (.string (dskw.strN B)) w') := Lib.hid (fun w' h => dskw.conv_reads (HBA.out.1.only (ho.trans h) (fun _ _ f => f)) rc)
      have HRW : Hid (∀ w', Only (fun _ => False) wb w' → Calls Try.prog 22 #[.pointer (some ⟨r, 0, none⟩)] w' fun e w'' => e = .returned (.string (dskw.strN B)) ∧ Only (fun _ => False) w' w'') := Lib.hid (fun w' h => HRW0.out w' ((HOA.out.trans ho).trans h))
      have HLK : Hid (∀ w', Only (fun _ => False) wb w' → Calls Try.prog 19 #[.pointer (some ⟨u, 0, none⟩), .pointer (some ⟨r, 0, none⟩)] w' fun e w'' => e = .returned (.bool true) ∧ Only (fun _ => False) w' w'') := Lib.hid (fun w' h => like_any w' (HBW.out.quiet h))
      have hself : ((dskw.strN B).toList == (dskw.strN B).toList) = true := by simp
      clear his hpt hK ho HRW0 HRD HT HO HOA HBA HIS hbl hnb HOK
      generalize dskw.strN B = SB at *
      go_upto_region 13 with fail
      refine wp_region_noPanic ?_
      refine late.region (fun w' => (convert 31 9 (.slice ra nb rc)).run Try.prog w' = .ok (.string (SB)) w') (fun j => [].contains j) (by kernel_rfl) (HSL.out _ (Only.refl _ _).drew) (fun hHeld => ?_)
      obtain ⟨z0, hz0⟩ : ∃ x, x = wb.drew := ⟨_, rfl⟩
      rw [← hz0] at hHeld ⊢
      have hot : Hid (Only (fun _ => False) wb z0) := Lib.hid (by rw [hz0]; exact (Only.refl _ _).drew)
      clear hz0
      refine late.take (i := 0) [1, 2, 3, 4, 5, 6, 7, 8, 9, 10, 11, 12, 13, 14, 15, 16, 17, 18] (v := ?_) rfl (by kernel_rfl) (by kernel_rfl) (by kernel_rfl) (by kernel_rfl) (fun _ _ _ h => h) (Or.inl ⟨by rfl, ?_⟩) (by assumption) ?_
      rotate_left 1
      · intro w' hSw
        try dsimp only at hSw
        go_simp
        try with_reducible rfl
      try simp only [List.getElem_toArray, List.getElem_cons_zero, Act.put, List.setIfInBounds_toArray, List.set_cons_zero, List.set_cons_succ]
      refine late.take (i := 1) [2, 3, 4, 5, 6, 7, 8, 9, 10, 11, 12, 13, 14, 15, 16, 17, 18] (v := ?_) rfl (by kernel_rfl) (by kernel_rfl) (by kernel_rfl) (by kernel_rfl) (fun _ _ _ h => h) (Or.inl ⟨by rfl, ?_⟩) (by assumption) ?_
      rotate_left 1
      · intro w' hSw
        try dsimp only at hSw
        go_simp
        try with_reducible rfl
      try simp only [List.getElem_toArray, List.getElem_cons_zero, List.getElem_cons_succ, Act.put, List.setIfInBounds_toArray, List.set_cons_zero, List.set_cons_succ]
      refine late.take (i := 2) [3, 4, 5, 6, 7, 8, 9, 10, 11, 12, 13, 14, 15, 16, 17, 18] (v := ?_) rfl (by kernel_rfl) (by kernel_rfl) (by kernel_rfl) (by kernel_rfl) (fun _ _ _ h => h) (Or.inl ⟨by rfl, ?_⟩) (by assumption) ?_
      rotate_left 1
      · intro w' hSw
        try dsimp only at hSw
        go_simp
        try with_reducible rfl
      try simp only [List.getElem_toArray, List.getElem_cons_zero, List.getElem_cons_succ, Act.put, List.setIfInBounds_toArray, List.set_cons_zero, List.set_cons_succ]
      refine late.take (i := 3) [4, 5, 6, 7, 8, 9, 10, 11, 12, 13, 14, 15, 16, 17, 18] (v := ?_) rfl (by kernel_rfl) (by kernel_rfl) (by kernel_rfl) (by kernel_rfl) (fun _ _ _ h => h) (Or.inl ⟨by rfl, ?_⟩) (by assumption) ?_
      rotate_left 1
      · intro w' hSw
        try dsimp only at hSw
        go_simp
        try with_reducible rfl
      try simp only [List.getElem_toArray, List.getElem_cons_zero, List.getElem_cons_succ, Act.put, List.setIfInBounds_toArray, List.set_cons_zero, List.set_cons_succ]
      refine late.take (i := 4) [5, 6, 7, 8, 9, 10, 11, 12, 13, 14, 15, 16, 17, 18] (v := ?_) rfl (by kernel_rfl) (by kernel_rfl) (by kernel_rfl) (by kernel_rfl) (fun _ _ _ h => h) (Or.inl ⟨by rfl, ?_⟩) (by assumption) ?_
      rotate_left 1
      · intro w' hSw
        try dsimp only at hSw
        go_simp
        try with_reducible rfl
      try simp only [List.getElem_toArray, List.getElem_cons_zero, List.getElem_cons_succ, Act.put, List.setIfInBounds_toArray, List.set_cons_zero, List.set_cons_succ]
      refine late.take (i := 5) [6, 7, 8, 9, 10, 11, 12, 13, 14, 15, 16, 17, 18] (v := ?_) rfl (by kernel_rfl) (by kernel_rfl) (by kernel_rfl) (by kernel_rfl) (fun _ _ _ h => h) (Or.inl ⟨by rfl, ?_⟩) (by assumption) ?_
      rotate_left 1
      · intro w' hSw
        try dsimp only at hSw
        go_simp
        try with_reducible rfl
      try simp only [List.getElem_toArray, List.getElem_cons_zero, List.getElem_cons_succ, Act.put, List.setIfInBounds_toArray, List.set_cons_zero, List.set_cons_succ]
      refine late.take (i := 6) [7, 8, 9, 10, 11, 12, 13, 14, 15, 16, 17, 18] (v := ?_) rfl (by kernel_rfl) (by kernel_rfl) (by kernel_rfl) (by kernel_rfl) (fun _ _ _ h => h) (Or.inl ⟨by rfl, ?_⟩) (by assumption) ?_
      rotate_left 1
      · intro w' hSw
        try dsimp only at hSw
        go_simp
        try with_reducible rfl
      try simp only [List.getElem_toArray, List.getElem_cons_zero, List.getElem_cons_succ, Act.put, List.setIfInBounds_toArray, List.set_cons_zero, List.set_cons_succ]
      refine late.take (i := 7) [8, 11, 12, 13, 14, 15, 16, 17, 18] (v := ?_) rfl (by kernel_rfl) (by kernel_rfl) (by kernel_rfl) (by kernel_rfl) (fun _ _ _ h => h) (Or.inl ⟨by rfl, ?_⟩) (by assumption) ?_
      rotate_left 1
      · intro w' hSw
        try dsimp only at hSw
        go_simp
        try with_reducible rfl
      try simp only [List.getElem_toArray, List.getElem_cons_zero, List.getElem_cons_succ, Act.put, List.setIfInBounds_toArray, List.set_cons_zero, List.set_cons_succ]
      refine late.take (i := 8) [11, 12, 13, 14, 15, 16, 17, 18] (v := ?_) rfl (by kernel_rfl) (by kernel_rfl) (by kernel_rfl) (by kernel_rfl) (fun _ _ _ h => h) (Or.inl ⟨by rfl, ?_⟩) (by assumption) ?_
      rotate_left 1
      · intro w' hSw
        try dsimp only at hSw
        go_simp
        try with_reducible rfl
      try simp only [List.getElem_toArray, List.getElem_cons_zero, List.getElem_cons_succ, Act.put, List.setIfInBounds_toArray, List.set_cons_zero, List.set_cons_succ]
      refine late.take (i := 9) [10, 11, 12, 13, 14, 15, 16, 17, 18] (v := ?_) rfl (by kernel_rfl) (by kernel_rfl) (by kernel_rfl) (by kernel_rfl) (fun _ _ _ h => h) (Or.inl ⟨by rfl, ?_⟩) (by assumption) ?_
      rotate_left 1
      · intro w' hSw
        try dsimp only at hSw
        go_simp
        try with_reducible rfl
      try simp only [List.getElem_toArray, List.getElem_cons_zero, List.getElem_cons_succ, Act.put, List.setIfInBounds_toArray, List.set_cons_zero, List.set_cons_succ]
      refine late.ready (rs := [10]) (by kernel_rfl) (by simp) ?_
      refine late.Each.cons rfl (fun K hK => ?_) late.Each.nil
      try simp only [List.getElem_toArray, List.getElem_cons_zero, List.getElem_cons_succ]
      go_simp
      go_at_call 22
      with_reducible refine (HRW.out _ hot.out).mono ?_
      rintro _ W1 ⟨rfl, ho⟩
      replace hot := Lib.hid (hot.out.trans ho)
      clear ho
      try dsimp only
      refine hK.out _ _ (fun _ => HSL.out _ hot.out) (fun hHeld1 => ?_)
      replace hHeld1 := hHeld1 rfl
      clear hK K
      try simp only [List.getElem_toArray, List.getElem_cons_zero, List.getElem_cons_succ, Act.put, List.setIfInBounds_toArray, List.set_cons_zero, List.set_cons_succ]
      refine late.take (i := 11) [12, 13, 14, 15, 16, 17, 18] (v := ?_) rfl (by kernel_rfl) (by kernel_rfl) (by kernel_rfl) (by kernel_rfl) (fun _ _ _ h => h) (Or.inl ⟨by rfl, ?_⟩) (by assumption) ?_
      rotate_left 1
      · intro w' hSw
        try dsimp only at hSw
        go_simp
        try with_reducible rfl
      try simp only [List.getElem_toArray, List.getElem_cons_zero, List.getElem_cons_succ, Act.put, List.setIfInBounds_toArray, List.set_cons_zero, List.set_cons_succ]
      refine late.take (i := 12) [13, 14, 15, 16, 17, 18] (v := ?_) rfl (by kernel_rfl) (by kernel_rfl) (by kernel_rfl) (by kernel_rfl) (fun _ _ _ h => h) (Or.inl ⟨by rfl, ?_⟩) (by assumption) ?_
      rotate_left 1
      · intro w' hSw
        try dsimp only at hSw
        go_simp
        try with_reducible rfl
      try simp only [List.getElem_toArray, List.getElem_cons_zero, List.getElem_cons_succ, Act.put, List.setIfInBounds_toArray, List.set_cons_zero, List.set_cons_succ]
      refine late.take (i := 13) [14, 15, 16, 17, 18] (v := ?_) rfl (by kernel_rfl) (by kernel_rfl) (by kernel_rfl) (by kernel_rfl) (fun _ _ _ h => h) (Or.inl ⟨by rfl, ?_⟩) (by assumption) ?_
      rotate_left 1
      · intro w' hSw
        try dsimp only at hSw
        go_simp
        try with_reducible rfl
      try simp only [List.getElem_toArray, List.getElem_cons_zero, List.getElem_cons_succ, Act.put, List.setIfInBounds_toArray, List.set_cons_zero, List.set_cons_succ]
      refine late.take (i := 14) [16, 17, 18] (v := ?_) rfl (by kernel_rfl) (by kernel_rfl) (by kernel_rfl) (by kernel_rfl) (fun _ _ _ h => h) (Or.inl ⟨by rfl, ?_⟩) (by assumption) ?_
      rotate_left 1
      · intro w' hSw
        try dsimp only at hSw
        go_simp
        try with_reducible rfl
      try simp only [List.getElem_toArray, List.getElem_cons_zero, List.getElem_cons_succ, Act.put, List.setIfInBounds_toArray, List.set_cons_zero, List.set_cons_succ]
      refine late.take (i := 15) [16, 17, 18] (v := ?_) rfl (by kernel_rfl) (by kernel_rfl) (by kernel_rfl) (by kernel_rfl) (fun _ _ _ h => h) (Or.inl ⟨by rfl, ?_⟩) (by assumption) ?_
      rotate_left 1
      · intro w' hSw
        try dsimp only at hSw
        go_simp
        try with_reducible rfl
      try simp only [List.getElem_toArray, List.getElem_cons_zero, List.getElem_cons_succ, Act.put, List.setIfInBounds_toArray, List.set_cons_zero, List.set_cons_succ]
      refine late.ready (rs := [16]) (by kernel_rfl) (by simp) ?_
      refine late.Each.cons rfl (fun K hK => ?_) late.Each.nil
      try simp only [List.getElem_toArray, List.getElem_cons_zero, List.getElem_cons_succ]
      go_simp
      go_at_call 19
      with_reducible refine (HLK.out _ hot.out).mono ?_
      rintro _ W2 ⟨rfl, ho⟩
      replace hot := Lib.hid (hot.out.trans ho)
      clear ho
      try dsimp only
      refine hK.out _ _ (fun _ => HSL.out _ hot.out) (fun hHeld2 => ?_)
      replace hHeld2 := hHeld2 rfl
      clear hK K
      try simp only [List.getElem_toArray, List.getElem_cons_zero, List.getElem_cons_succ, Act.put, List.setIfInBounds_toArray, List.set_cons_zero, List.set_cons_succ]
      refine late.take (i := 17) [18] (v := ?_) rfl (by kernel_rfl) (by kernel_rfl) (by kernel_rfl) (by kernel_rfl) (fun _ _ _ h => h) (Or.inl ⟨by rfl, ?_⟩) (by assumption) ?_
      rotate_left 1
      · intro w' hSw
        try dsimp only at hSw
        go_simp
        try with_reducible rfl
      try simp only [List.getElem_toArray, List.getElem_cons_zero, List.getElem_cons_succ, Act.put, List.setIfInBounds_toArray, List.set_cons_zero, List.set_cons_succ]
      refine late.take (i := 18) [] (v := ?_) rfl (by kernel_rfl) (by kernel_rfl) (by kernel_rfl) (by kernel_rfl) (fun _ _ _ h => h) (Or.inl ⟨by rfl, ?_⟩) (by assumption) ?_
      rotate_left 1
      · intro w' hSw
        try dsimp only at hSw
        go_simp
        try with_reducible rfl
      try simp only [List.getElem_toArray, List.getElem_cons_zero, List.getElem_cons_succ, Act.put, List.setIfInBounds_toArray, List.set_cons_zero, List.set_cons_succ]
      refine late.done (by kernel_rfl) ?_ _
      refine NoPanic.normal ?_
      have HOF := Lib.hid hot.out
      have HB6 := Lib.hid (HBW.out.quiet hot.out)
      have HO6 : Hid (Only (fun x => p ≤ x) w _) := Lib.hid (HOW.out.trans (hot.out.mono (fun _ _ f => f.elim)))
      clear hHeld hot HSL HRW HLK HBW HOW hself
      rename World => w6
      clear HOF
      go_upto_block 2 with fail
      go_cut [15] from 82 to 99 (fun iv wx => ∃ (k : Int) (K : List Sx) (last : Int), iv = .int .i64 k ∧ Hid (TB p pl last u r K wx) ∧ Hid (Only (fun x => p ≤ x) w wx))
      case first =>
        go_wp2_with fail
        go_loopw [15] (fun iv wr => ∃ (k : Nat) (K : List Sx) (last : Int), k ≤ 20 ∧ iv = .int .i64 (k : Int) ∧ Hid (TB p pl last u r K wr) ∧ Hid (Only (fun x => p ≤ x) w wr)) (fun iv _ => 20 - (intOf iv).toNat)
        case atStart => exact ⟨0, _, _, by omega, rfl, HB6, HO6⟩
        case round =>
          clear HB6 HO6
          obtain ⟨k, KL, last, hk, rfl, HB, HO⟩ := hrel
          rename World => wr
          have hk0 : (0 : Int) ≤ (k : Int) := by omega
          have hwk : wrap64 ((k : Int) + 1) = (k : Int) + 1 := by unfold wrap64; omega
          by_cases h8 : k < l2
          · have hk1 : (k : Int) < l2 := by omega
            by_cases h20 : k < 20
            · have hk2 : (k : Int) < 20 := by omega
              obtain ⟨b, off, rfl, hcell⟩ := H2.out.2.resolve_left (by omega)
              obtain ⟨d, hd, hin⟩ := hcell k h8
              replace hd := hd.keep (Nat.le_of_eq HP.out.symm) HO.out
              replace hin := hin.keep (Nat.le_of_eq HP.out.symm) HO.out
              obtain ⟨z0, z1, z2, z3, z4, za, zn, zc, z6, zg⟩ := d
              obtain ⟨d0, d1, d2, d3, d4, d5, d6⟩ := hd
              obtain ⟨i0, i1⟩ := hin
              dsimp only at d0 d1 d2 d3 d4 d5 d6 i0 i1
              have HDO := Lib.hid (do_any z0 z1 z2 z3 z4 z6 za zn zc zg wr HB.out i0 i1)
              clear hcell i0 i1
              go_wp2_with fail
              refine HDO.out.mono ?_
              rintro _ w5 ⟨rfl, ⟨KN, last', hb⟩, ho⟩
              have HB5 := Lib.hid hb
              have HO5 : Hid (Only (fun x => p ≤ x) w w5) := Lib.hid (HO.out.trans ho)
              clear hb ho d0 d1 d2 d3 d4 d5 d6 HDO
              go_wp2_with fail
              go_roundw
              case rel => exact ⟨k + 1, KN, last', by omega, by go_num, HB5, HO5⟩
              case measure => (simp [intOf]; omega)
            · have hk2 : ¬ (k : Int) < 20 := by omega
              go_wp2_with fail
              go_meet
              exact ⟨_, KL, last, rfl, HB, HO⟩
          · have hk1 : ¬ (k : Int) < l2 := by omega
            go_wp2_with fail
            go_meet
            exact ⟨_, KL, last, rfl, HB, HO⟩
      case rest =>
        obtain ⟨k2, KL2, last2, rfl, HB7, HO7⟩ := hcut
        rename World => w7
        clear HB6 HO6
        have HL7 := Lib.hid (like_any w7 HB7.out)
        go_wp2_with fail
        refine HL7.out.mono ?_
        rintro _ w8 ⟨rfl, ho⟩
        have HFIN := Lib.hid (HEND.out _ (HO7.out.trans (ho.mono (fun _ _ f => f.elim))))
        clear ho HL7 HB7 HO7
        go_wp2_with fail
        go_ret
        exact ⟨rfl, HFIN.out⟩
    · exact absurd ⟨_, _, _, HIS.out⟩ hno
theorem cback_walk (pl0 : Int) (a1 : Option Addr) (l1 c1 : Nat) (a2 : Option Addr) (l2 c2 : Nat) (w : World) (h1 : RowS w a1 l1) (h2 : RowS w a2 l2) :
    Calls Try.prog 4 #[.int .i64 pl0, .slice a1 l1 c1, .slice a2 l2 c2] w fun e w' => e = .returned (.bool true) ∧ Below w.heap.size w w' :=
  (cback_any pl0 a1 l1 c1 a2 l2 c2 w h1 h2).mono fun _ _ ⟨p, q⟩ => ⟨p, q.none⟩
end Go.Proofs.Ythflglejhhebeaa.cs
