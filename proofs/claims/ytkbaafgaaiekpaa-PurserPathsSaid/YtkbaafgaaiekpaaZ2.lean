/- Several texts together: PuCt, PuCh, PuCr, PuCc, PuCf, PuD. -/
import Derived.Test.YtkbaafgaaiekpaaZ1
namespace Go.Proofs.Ytkbaafgaaiekpaa.puw
open Go.RowKit mem
set_option linter.unusedVariables false

set_option maxRecDepth 100000 in
set_option maxHeartbeats 8000000 in
theorem move_top {S : Nat → Prop} {p pb pj : Nat} {A : List fnd.Ac} {op : Nat} {C : AcC → Option (List Int)} {L : List jnw.Ps} (kind m gr : Int) (hg : entw.InI gr) (a : Option Addr) (len cap : Nat) (path : List Int) (x0 x1 x2 : Nat) (A' : List fnd.Ac) (E : Int) (w : World) (h : Pu S w p pb pj A op C L) (hS : ∀ q, S q → q < w.heap.size) (hL : L.length < 16384) (hr : ReadsI w a len path) (hlc : len ≤ cap) (hcm : cap ≤ 9223372036854775807) (ha : ∀ x, a = some x → ¬ S x.block)
    (hch : ∀ w', Only (fun _ => False) w w' → Calls Try.prog 27 #[.pointer (some ⟨x0, 0, none⟩), .pointer (some ⟨x1, 0, none⟩), .pointer (some ⟨x2, 0, none⟩)] w' (fnd.FDid pb A' E w')) (hA' : fnd.Bok A') (h0 : E ≠ 0 → A' = A) (hok : E = 0 → ChOk path A A') :
    Calls Try.prog 26 #[.pointer (some ⟨p, 0, none⟩), .int .i64 kind, .int .i64 m, .slice a len cap, .int .i64 gr, .func (.func 27) #[] #[.pointer (some ⟨x0, 0, none⟩), .pointer (some ⟨x1, 0, none⟩), .pointer (some ⟨x2, 0, none⟩)]] w (MvR S w p pb pj A op C L kind m gr path A' E) := by
  have hml := hr.2.1
  unfold maxLen at hml
  obtain ⟨mn, hmn⟩ : ∃ x, x = min len 3 := ⟨_, rfl⟩
  have hmin : min (len : Int) 3 = (mn : Int) := by omega
  have hm3 : mn ≤ 3 := by omega
  have hml2 : mn ≤ len := by omega
  have HMN := Lib.hid hmn
  have HPU := Lib.hid h
  have HSS := Lib.hid hS
  have HR := Lib.hid hr
  have HLN : Hid (path.length = len) := Lib.hid hr.1
  have HCH := Lib.hid hch
  obtain ⟨w1, hw1⟩ : ∃ x, x = w.alloc (.cells #[.int .i64 0, .int .i64 0, .int .i64 0, .int .i64 0, .int .i64 0, .int .i64 0, .int .i64 0, .int .i64 0, .int .i64 0, .int .i64 0, .int .i64 0, .int .i64 0, .int .i64 0, .int .i64 0, .int .i64 0] 98) := ⟨_, rfl⟩
  obtain ⟨g, hgg⟩ : ∃ x, x = w.heap.size := ⟨_, rfl⟩
  have HAH : Hid (AhAt w1 g A path 0) := Lib.hid (by rw [hw1, hgg]; exact AhAt.new rfl w _ A path)
  have HO1 : Hid (Only (fun _ => False) w w1) := Lib.hid (by rw [hw1]; exact (Only.refl _ _).alloc _)
  have HGW := Lib.hid hgg
  clear h hS hr hch hmn
  go_enter Try.func26, Try.ntmps26
  go_upto_region 4 with fail
  simp only [← hw1, ← hgg]
  clear hw1 hgg
  go_wp2_with fail
  go_loopw [24] (fun iv wx => ∃ k : Nat, k ≤ mn ∧ iv = .int .i64 (k : Int) ∧ Hid (AhAt wx g A path k) ∧ Hid (Only (fun _ => False) w wx)) (fun iv _ => mn - (intOf iv).toNat)
  case atStart => exact ⟨0, by omega, rfl, HAH, HO1⟩
  case round =>
    clear HAH HO1
    obtain ⟨k, hk, rfl, HAH, HX⟩ := hrel
    rename World => wx
    by_cases h8 : k < mn
    · have hin : (k : Int) < (mn : Int) := by omega
      have hk0 : (0 : Int) ≤ (k : Int) := by omega
      have hkl : (k : Int) < (len : Int) := by omega
      have hk3 : (k : Int) < 3 := by omega
      obtain ⟨b, off, rfl, hcell⟩ := HR.out.2.2.2.resolve_left (by omega)
      have HGT : Hid (∀ w', Only (fun _ => False) wx w' → Calls Try.prog 43 #[.pointer (some ⟨pb, 0, none⟩), .int .i64 (path.getD k 0)] w' fun e w2 => e = .returned (fnd.aggA (fnd.acG A (path.getD k 0))) ∧ Only (fun _ => False) w' w2) := Lib.hid (fun w' ho => fnd.get_any pb A _ w' ((HPU.out.bk.only HX.out (fun f => f)).only ho (fun f => f)))
      obtain ⟨pk, hpk⟩ : ∃ x, path.getD k 0 = x := ⟨_, rfl⟩
      obtain ⟨ac, hac⟩ : ∃ x, fnd.acG A (path.getD k 0) = x := ⟨_, rfl⟩
      obtain ⟨at_, ac, ae, au, ah⟩ := ac
      have HAC := Lib.hid hac
      rw [hac, hpk] at HGT
      have HSL : Hid (∀ w', Only (fun _ => False) wx w' → w'.cell? ⟨p, 0, none⟩ = some (.pointer (some ⟨pb, 0, none⟩)) ∧ w'.cell? ⟨b, off + k, none⟩ = some (.int .i64 pk)) := Lib.hid (fun w' ho => ⟨(HX.out.trans ho).cell' HPU.out.c0 (fun f => f), by rw [← hpk]; exact (HX.out.trans ho).cell' (hcell k (by omega)) (fun f => f)⟩)
      unfold fnd.aggA at HGT
      dsimp only at HGT
      clear hac hcell
      go_upto_region 7 with fail
      clear hpk
      refine wp_region_noPanic ?_
      refine late.region (fun w' => w'.cell? ⟨p, 0, none⟩ = some (.pointer (some ⟨pb, 0, none⟩)) ∧ w'.cell? ⟨b, off + k, none⟩ = some (.int .i64 pk)) (fun j => [11].contains j) (by kernel_rfl) (HSL.out _ (Only.refl _ _).drew) (fun hHeld => ?_)
      obtain ⟨z0, hz0'⟩ : ∃ x, x = wx.drew := ⟨_, rfl⟩
      rw [← hz0'] at hHeld ⊢
      have hot : Hid (Only (fun _ => False) wx z0) := Lib.hid (by rw [hz0']; exact (Only.refl _ _).drew)
      clear hz0'
      refine late.take (i := 0) [10, 11] (v := ?_) rfl (by kernel_rfl) (by kernel_rfl) (by kernel_rfl) (by kernel_rfl) (fun _ _ _ h => h) (Or.inl ⟨by rfl, ?_⟩) (by assumption) ?_
      rotate_left 1
      · intro w' hSw
        try dsimp only at hSw
        go_simp
        try with_reducible rfl
      try simp only [List.getElem_toArray, List.getElem_cons_zero, Act.put, List.setIfInBounds_toArray, List.set_cons_zero, List.set_cons_succ]
      refine late.take (i := 1) [2, 3, 4, 9, 10, 11] (v := ?_) rfl (by kernel_rfl) (by kernel_rfl) (by kernel_rfl) (by kernel_rfl) (fun _ _ _ h => h) (Or.inl ⟨by rfl, ?_⟩) (by assumption) ?_
      rotate_left 1
      · intro w' hSw
        try dsimp only at hSw
        go_simp
        try with_reducible rfl
      try simp only [List.getElem_toArray, List.getElem_cons_zero, List.getElem_cons_succ, Act.put, List.setIfInBounds_toArray, List.set_cons_zero, List.set_cons_succ]
      refine late.take (i := 2) [3, 4, 9, 10, 11] (v := ?_) rfl (by kernel_rfl) (by kernel_rfl) (by kernel_rfl) (by kernel_rfl) (fun _ _ _ h => h) (Or.inl ⟨by rfl, ?_⟩) (by assumption) ?_
      rotate_left 1
      · intro w' hSw
        try dsimp only at hSw
        go_simp
        try with_reducible rfl
      try simp only [List.getElem_toArray, List.getElem_cons_zero, List.getElem_cons_succ, Act.put, List.setIfInBounds_toArray, List.set_cons_zero, List.set_cons_succ]
      refine late.take (i := 3) [4, 9, 10, 11] (v := ?_) rfl (by kernel_rfl) (by kernel_rfl) (by kernel_rfl) (by kernel_rfl) (fun _ _ _ h => h) (Or.inl ⟨by rfl, ?_⟩) (by assumption) ?_
      rotate_left 1
      · intro w' hSw
        try dsimp only at hSw
        go_simp
        try with_reducible rfl
      try simp only [List.getElem_toArray, List.getElem_cons_zero, List.getElem_cons_succ, Act.put, List.setIfInBounds_toArray, List.set_cons_zero, List.set_cons_succ]
      refine late.take (i := 4) [9, 10, 11] (v := ?_) rfl (by kernel_rfl) (by kernel_rfl) (by kernel_rfl) (by kernel_rfl) (fun _ _ _ h => h) (Or.inl ⟨by rfl, ?_⟩) (by assumption) ?_
      rotate_left 1
      · intro w' hSw
        try dsimp only at hSw
        go_simp
        try with_reducible rfl
      try simp only [List.getElem_toArray, List.getElem_cons_zero, List.getElem_cons_succ, Act.put, List.setIfInBounds_toArray, List.set_cons_zero, List.set_cons_succ]
      refine late.take (i := 5) [7, 8, 9, 10, 11] (v := ?_) rfl (by kernel_rfl) (by kernel_rfl) (by kernel_rfl) (by kernel_rfl) (fun _ _ _ h => h) (Or.inl ⟨by rfl, ?_⟩) (by assumption) ?_
      rotate_left 1
      · intro w' hSw
        try dsimp only at hSw
        go_simp
        try with_reducible rfl
      try simp only [List.getElem_toArray, List.getElem_cons_zero, List.getElem_cons_succ, Act.put, List.setIfInBounds_toArray, List.set_cons_zero, List.set_cons_succ]
      refine late.take (i := 6) [7, 8, 9, 10, 11] (v := ?_) rfl (by kernel_rfl) (by kernel_rfl) (by kernel_rfl) (by kernel_rfl) (fun _ _ _ h => h) (Or.inl ⟨by rfl, ?_⟩) (by assumption) ?_
      rotate_left 1
      · intro w' hSw
        try dsimp only at hSw
        go_simp
        try with_reducible rfl
      try simp only [List.getElem_toArray, List.getElem_cons_zero, List.getElem_cons_succ, Act.put, List.setIfInBounds_toArray, List.set_cons_zero, List.set_cons_succ]
      refine late.take (i := 7) [8, 9, 10, 11] (v := ?_) rfl (by kernel_rfl) (by kernel_rfl) (by kernel_rfl) (by kernel_rfl) (fun _ _ _ h => h) (Or.inl ⟨by rfl, ?_⟩) (by assumption) ?_
      rotate_left 1
      · intro w' hSw
        try dsimp only at hSw
        go_simp
        try with_reducible rfl
      try simp only [List.getElem_toArray, List.getElem_cons_zero, List.getElem_cons_succ, Act.put, List.setIfInBounds_toArray, List.set_cons_zero, List.set_cons_succ]
      refine late.take (i := 8) [9, 10, 11] (v := ?_) rfl (by kernel_rfl) (by kernel_rfl) (by kernel_rfl) (by kernel_rfl) (fun _ _ _ h => h) (Or.inl ⟨by rfl, ?_⟩) (by assumption) ?_
      rotate_left 1
      · intro w' hSw
        try dsimp only at hSw
        go_simp
        try with_reducible rfl
      try simp only [List.getElem_toArray, List.getElem_cons_zero, List.getElem_cons_succ, Act.put, List.setIfInBounds_toArray, List.set_cons_zero, List.set_cons_succ]
      refine late.ready (rs := [9]) (by kernel_rfl) (by simp) ?_
      refine late.Each.cons rfl (fun K hK => ?_) late.Each.nil
      try simp only [List.getElem_toArray, List.getElem_cons_zero, List.getElem_cons_succ]
      go_simp
      go_at_call 43
      with_reducible refine (HGT.out _ hot.out).mono ?_
      rintro _ z1 ⟨rfl, ho⟩
      replace hot := Lib.hid (hot.out.trans ho)
      clear ho HGT
      try dsimp only
      refine hK.out _ _ (fun _ => HSL.out _ hot.out) (fun hHeld1 => ?_)
      replace hHeld1 := hHeld1 rfl
      clear hK K
      try simp only [List.getElem_toArray, List.getElem_cons_zero, List.getElem_cons_succ, Act.put, List.setIfInBounds_toArray, List.set_cons_zero, List.set_cons_succ]
      refine late.take (i := 10) [11] (v := ?_) rfl (by kernel_rfl) (by kernel_rfl) (by kernel_rfl) (by kernel_rfl) (fun _ _ _ h => h) (Or.inl ⟨by rfl, ?_⟩) (by assumption) ?_
      rotate_left 1
      · intro w' hSw
        try dsimp only at hSw
        go_simp
        try with_reducible rfl
      try simp only [List.getElem_toArray, List.getElem_cons_zero, List.getElem_cons_succ, Act.put, List.setIfInBounds_toArray, List.set_cons_zero, List.set_cons_succ]
      refine late.ready (rs := [11]) (by kernel_rfl) (by simp) ?_
      refine late.Each.cons rfl (fun K hK => ?_) late.Each.nil
      try simp only [List.getElem_toArray, List.getElem_cons_zero, List.getElem_cons_succ]
      go_simp
      have HA1 := Lib.hid (HAH.out.only hot.out (fun f => f))
      obtain ⟨⟨u0, y0⟩, f0⟩ := HA1.out.2 (k * 5) (by omega)
      obtain ⟨⟨u1, y1⟩, f1⟩ := HA1.out.2 (k * 5 + 1) (by omega)
      obtain ⟨⟨u2, y2⟩, f2⟩ := HA1.out.2 (k * 5 + 2) (by omega)
      obtain ⟨⟨u3, y3⟩, f3⟩ := HA1.out.2 (k * 5 + 3) (by omega)
      obtain ⟨⟨u4, y4⟩, f4⟩ := HA1.out.2 (k * 5 + 4) (by omega)
      go_simp
      refine hK.out _ _ (fun h => by cases h) (fun _ => ?_)
      clear hK K
      clear y0 y1 y2 y3 y4 f0 f1 f2 f3 f4
      try simp only [List.getElem_toArray, List.getElem_cons_zero, List.getElem_cons_succ, Act.put, List.setIfInBounds_toArray, List.set_cons_zero, List.set_cons_succ]
      refine late.done (by kernel_rfl) ?_ _
      refine NoPanic.normal ?_
      clear hHeld
      have HAN := Lib.hid (HA1.out.put (by omega) HAC.out)
      have HXN : Hid (Only (fun _ => False) w (tre.put5 z1 g (k * 5) (.int .i64 at_) (.int .i64 ac) (.int .i64 ae) (.int .i64 au) (.int .i64 ah))) := Lib.hid ((HX.out.trans hot.out).then (tre.put5_only _ _ _ _ _ _ _ _) (fun q hq e => by have := HGW.out; have e : q = g := e; omega))
      obtain ⟨wz, hwz⟩ : ∃ y, y = tre.put5 z1 g (k * 5) (.int .i64 at_) (.int .i64 ac) (.int .i64 ae) (.int .i64 au) (.int .i64 ah) := ⟨_, rfl⟩
      rw [← hwz] at HAN HXN
      unfold tre.put5 at hwz
      rw [← hwz]
      clear hwz HA1 hot HAH HX HSL HAC
      go_wp2_with fail
      go_roundw
      case rel => exact ⟨k + 1, by omega, by go_num, HAN, HXN⟩
      case measure => (simp [intOf]; omega)
    · have hin : ¬ (k : Int) < (mn : Int) := by omega
      obtain rfl : mn = k := by omega
      have HCL := Lib.hid (HCH.out wx HX.out)
      clear HCH
      go_wp2_with fail
      refine HCL.out.mono ?_
      rintro _ w3 ⟨rfl, hb3, ho3⟩
      have HP3 := Lib.hid ((HPU.out.quiet HX.out).book hb3 hA' ho3)
      have HO3 : Hid (Only S w w3) := Lib.hid ((HX.out.mono (fun _ _ f => f.elim)).trans (ho3.mono (fun q _ e => by have e : q = pb := e; rw [e]; exact HPU.out.sb)))
      have HAH3 := Lib.hid (HAH.out.only ho3 (fun e => by have h1 := HPU.out.lt.2; have h2 := HGW.out; have e : g = pb := e; omega))
      clear hb3 ho3 HCL HAH
      by_cases hE : E = 0
      · subst hE
        have hk9 := hok rfl
        have HK := Lib.hid hk9
        have HR3 : Hid (ReadsI w3 a len path) := Lib.hid (HR.out.only HO3.out ha)
        have hle3 : len ≤ 3 := by have := hk9.n3; have := HLN.out; omega
        have HSZ3 := Lib.hid HO3.out.size
        have HPP := Lib.hid (ppost_any kind m gr hg a len cap path w3 HP3.out (fun q hq => by have := HSS.out q hq; have := HSZ3.out; omega) hL HR3.out hlc hcm)
        clear h0 hok hk9
        go_wp2_with fail
        refine HPP.out.mono ?_
        rintro _ w4 (⟨er, hne, rfl, ho4, hno⟩ | ⟨rfl, ls, x, hyes, hx1, hx2, hx3, hp4, ho4⟩)
        · have heb : (er == 0) = false := by rw [beq_eq_false_iff_ne]; exact hne
          have hen : (er != 0) = true := by rw [bne_iff_ne]; exact hne
          have HP4 := Lib.hid (HP3.out.quiet ho4)
          have HO4 : Hid (Only S w w4) := Lib.hid (HO3.out.trans (ho4.mono (fun _ _ f => f.elim)))
          have HAH4 := Lib.hid (HAH3.out.only ho4 (fun f => f))
          have HNO := Lib.hid hno
          clear hno ho4 HPP
          go_wp2_with fail
          go_loopw [54] (fun iv wx => ∃ k : Nat, k ≤ len ∧ iv = .int .i64 (k : Int) ∧ Hid (Pu S wx p pb pj (resT A A' (path.take k)) op C L) ∧ Hid (Only S w wx) ∧ Hid (AhAt wx g A path len)) (fun iv _ => len - (intOf iv).toNat)
          case atStart => exact ⟨0, by omega, rfl, HP4, HO4, Lib.hid ((show mn = len from by have := HMN.out; omega) ▸ HAH4.out)⟩
          case round =>
            clear HP4 HO4 HAH4 HAH3 HP3 HO3
            obtain ⟨i, hi, rfl, HPI, HOI, HAI⟩ := hrel
            rename World => wy
            by_cases h9 : i < len
            · have hil : (i : Int) < (len : Int) := by omega
              have hi0 : (0 : Int) ≤ (i : Int) := by omega
              have hi3 : (i : Int) < 3 := by omega
              obtain ⟨b, off, rfl, hcell⟩ := HR.out.2.2.2.resolve_left (by omega)
              have hci := HOI.out.cell' (hcell i h9) (show ¬ S b from ha _ rfl)
              have hmem : path.getD i 0 ∈ path := by
                rw [List.getD_eq_getElem?_getD, List.getElem?_eq_getElem (by have := HLN.out; omega)]; exact List.getElem_mem _
              have hnd := HK.out.nd _ hmem
              have HTK : Hid (resT A A' (path.take (i + 1)) = (resT A A' (path.take i)).set (path.getD i 0).toNat (A.getD (path.getD i 0).toNat fnd.zA)) := Lib.hid (by
                rw [← resT_snoc, List.take_add_one, List.getElem?_eq_getElem (by have := HLN.out; omega)]
                rw [List.getD_eq_getElem?_getD, List.getElem?_eq_getElem (by have := HLN.out; omega)]; rfl)
              obtain ⟨pk, hpk⟩ : ∃ x, path.getD i 0 = x := ⟨_, rfl⟩
              have hac := HAI.out.1 i h9
              rw [hpk] at hci hnd HTK hac
              have hag : fnd.acG A pk = A.getD pk.toNat fnd.zA := by unfold fnd.acG; rw [if_pos hnd]
              have hrt : fnd.Right (fnd.acG A pk) := fnd.acG_ok HPU.out.bok pk
              obtain ⟨ac, hacd⟩ : ∃ x, fnd.acG A pk = x := ⟨_, rfl⟩
              rw [← hag] at HTK
              rw [hacd] at hac hrt HTK
              have hse : fnd.setE pk ac = 0 := by unfold fnd.setE; rw [if_pos ⟨hnd, hrt⟩]
              have hsa : fnd.setA (resT A A' (path.take i)) pk ac = resT A A' (path.take (i + 1)) := by unfold fnd.setA; rw [if_pos hse, HTK.out]
              have HST : Hid (∀ w', Only (fun _ => False) wy w' → Calls Try.prog 52 #[.pointer (some ⟨pb, 0, none⟩), .int .i64 pk, fnd.aggA ac] w' (fnd.FDid pb (resT A A' (path.take (i + 1))) 0 w')) := Lib.hid (fun w' ho => by
                have h1 := fnd.set_any pb (resT A A' (path.take i)) pk ac w' (HPI.out.bk.only ho (fun f => f)) HPI.out.bok.len
                rw [hse, hsa] at h1
                exact h1)
              have HBOK : Hid (fnd.Bok (resT A A' (path.take (i + 1)))) := Lib.hid (by rw [← hsa]; exact HPI.out.bok.setA pk ac)
              obtain ⟨at_, ac, ae, au, ah⟩ := ac
              obtain ⟨d0, d1, d2, d3, d4⟩ := hac
              dsimp only at d0 d1 d2 d3 d4
              have HSL : Hid (∀ w', Only (fun _ => False) wy w' → w'.cell? ⟨p, 0, none⟩ = some (.pointer (some ⟨pb, 0, none⟩)) ∧ w'.cell? ⟨g, i * 5, none⟩ = some (.int .i64 at_) ∧ w'.cell? ⟨g, i * 5 + 1, none⟩ = some (.int .i64 ac) ∧ w'.cell? ⟨g, i * 5 + 2, none⟩ = some (.int .i64 ae) ∧ w'.cell? ⟨g, i * 5 + 3, none⟩ = some (.int .i64 au) ∧ w'.cell? ⟨g, i * 5 + 4, none⟩ = some (.int .i64 ah)) := Lib.hid (fun w' ho => ⟨ho.cell' HPI.out.c0 (fun f => f), ho.cell' d0 (fun f => f), ho.cell' d1 (fun f => f), ho.cell' d2 (fun f => f), ho.cell' d3 (fun f => f), ho.cell' d4 (fun f => f)⟩)
              unfold fnd.aggA at HST
              dsimp only at HST
              clear hcell hmem hnd HTK hag hrt hacd hse hsa d0 d1 d2 d3 d4
              go_upto_region 17 with fail
              clear hci hpk
              refine wp_region_noPanic ?_
              refine late.region (fun w' => w'.cell? ⟨p, 0, none⟩ = some (.pointer (some ⟨pb, 0, none⟩)) ∧ w'.cell? ⟨g, i * 5, none⟩ = some (.int .i64 at_) ∧ w'.cell? ⟨g, i * 5 + 1, none⟩ = some (.int .i64 ac) ∧ w'.cell? ⟨g, i * 5 + 2, none⟩ = some (.int .i64 ae) ∧ w'.cell? ⟨g, i * 5 + 3, none⟩ = some (.int .i64 au) ∧ w'.cell? ⟨g, i * 5 + 4, none⟩ = some (.int .i64 ah)) (fun j => [].contains j) (by kernel_rfl) (HSL.out _ (Only.refl _ _).drew) (fun hHeld => ?_)
              obtain ⟨z0, hz0'⟩ : ∃ x, x = wy.drew := ⟨_, rfl⟩
              rw [← hz0'] at hHeld ⊢
              have hot : Hid (Only (fun _ => False) wy z0) := Lib.hid (by rw [hz0']; exact (Only.refl _ _).drew)
              clear hz0'
              refine late.take (i := 0) [1, 2, 3, 8] (v := ?_) rfl (by kernel_rfl) (by kernel_rfl) (by kernel_rfl) (by kernel_rfl) (fun _ _ _ h => h) (Or.inl ⟨by rfl, ?_⟩) (by assumption) ?_
              rotate_left 1
              · intro w' hSw
                try dsimp only at hSw
                go_simp
                try with_reducible rfl
              try simp only [List.getElem_toArray, List.getElem_cons_zero, Act.put, List.setIfInBounds_toArray, List.set_cons_zero, List.set_cons_succ]
              refine late.take (i := 1) [2, 3, 8] (v := ?_) rfl (by kernel_rfl) (by kernel_rfl) (by kernel_rfl) (by kernel_rfl) (fun _ _ _ h => h) (Or.inl ⟨by rfl, ?_⟩) (by assumption) ?_
              rotate_left 1
              · intro w' hSw
                try dsimp only at hSw
                go_simp
                try with_reducible rfl
              try simp only [List.getElem_toArray, List.getElem_cons_zero, List.getElem_cons_succ, Act.put, List.setIfInBounds_toArray, List.set_cons_zero, List.set_cons_succ]
              refine late.take (i := 2) [3, 8] (v := ?_) rfl (by kernel_rfl) (by kernel_rfl) (by kernel_rfl) (by kernel_rfl) (fun _ _ _ h => h) (Or.inl ⟨by rfl, ?_⟩) (by assumption) ?_
              rotate_left 1
              · intro w' hSw
                try dsimp only at hSw
                go_simp
                try with_reducible rfl
              try simp only [List.getElem_toArray, List.getElem_cons_zero, List.getElem_cons_succ, Act.put, List.setIfInBounds_toArray, List.set_cons_zero, List.set_cons_succ]
              refine late.take (i := 3) [8] (v := ?_) rfl (by kernel_rfl) (by kernel_rfl) (by kernel_rfl) (by kernel_rfl) (fun _ _ _ h => h) (Or.inl ⟨by rfl, ?_⟩) (by assumption) ?_
              rotate_left 1
              · intro w' hSw
                try dsimp only at hSw
                go_simp
                try with_reducible rfl
              try simp only [List.getElem_toArray, List.getElem_cons_zero, List.getElem_cons_succ, Act.put, List.setIfInBounds_toArray, List.set_cons_zero, List.set_cons_succ]
              refine late.take (i := 4) [8] (v := ?_) rfl (by kernel_rfl) (by kernel_rfl) (by kernel_rfl) (by kernel_rfl) (fun _ _ _ h => h) (Or.inl ⟨by rfl, ?_⟩) (by assumption) ?_
              rotate_left 1
              · intro w' hSw
                try dsimp only at hSw
                go_simp
                try with_reducible rfl
              try simp only [List.getElem_toArray, List.getElem_cons_zero, List.getElem_cons_succ, Act.put, List.setIfInBounds_toArray, List.set_cons_zero, List.set_cons_succ]
              refine late.take (i := 5) [6, 7, 8] (v := ?_) rfl (by kernel_rfl) (by kernel_rfl) (by kernel_rfl) (by kernel_rfl) (fun _ _ _ h => h) (Or.inl ⟨by rfl, ?_⟩) (by assumption) ?_
              rotate_left 1
              · intro w' hSw
                try dsimp only at hSw
                go_simp
                try with_reducible rfl
              try simp only [List.getElem_toArray, List.getElem_cons_zero, List.getElem_cons_succ, Act.put, List.setIfInBounds_toArray, List.set_cons_zero, List.set_cons_succ]
              refine late.take (i := 6) [7, 8] (v := ?_) rfl (by kernel_rfl) (by kernel_rfl) (by kernel_rfl) (by kernel_rfl) (fun _ _ _ h => h) (Or.inl ⟨by rfl, ?_⟩) (by assumption) ?_
              rotate_left 1
              · intro w' hSw
                try dsimp only at hSw
                go_simp
                try with_reducible rfl
              try simp only [List.getElem_toArray, List.getElem_cons_zero, List.getElem_cons_succ, Act.put, List.setIfInBounds_toArray, List.set_cons_zero, List.set_cons_succ]
              refine late.take (i := 7) [8] (v := ?_) rfl (by kernel_rfl) (by kernel_rfl) (by kernel_rfl) (by kernel_rfl) (fun _ _ _ h => h) (Or.inl ⟨by rfl, ?_⟩) (by assumption) ?_
              rotate_left 1
              · intro w' hSw
                try dsimp only at hSw
                go_simp
                try with_reducible rfl
              try simp only [List.getElem_toArray, List.getElem_cons_zero, List.getElem_cons_succ, Act.put, List.setIfInBounds_toArray, List.set_cons_zero, List.set_cons_succ]
              refine late.ready (rs := [8]) (by kernel_rfl) (by simp) ?_
              refine late.Each.cons rfl (fun K hK => ?_) late.Each.nil
              try simp only [List.getElem_toArray, List.getElem_cons_zero, List.getElem_cons_succ]
              go_simp
              go_at_call 52
              with_reducible refine (HST.out _ hot.out).mono ?_
              rintro _ z1 ⟨rfl, hb, ho⟩
              have HPN := Lib.hid ((HPI.out.quiet hot.out).book hb HBOK.out ho)
              have hgp : ¬ g = pb := fun e => by have h1 := HPU.out.lt.2; have h2 := HGW.out; omega
              have HON : Hid (Only S w z1) := Lib.hid ((HOI.out.trans (hot.out.mono (fun _ _ f => f.elim))).trans (ho.mono (fun q _ e => by have e : q = pb := e; rw [e]; exact HPU.out.sb)))
              have HAN := Lib.hid ((HAI.out.only hot.out (fun f => f)).only ho hgp)
              have HSZ : Hid (z1.cell? ⟨p, 0, none⟩ = some (.pointer (some ⟨pb, 0, none⟩)) ∧ z1.cell? ⟨g, i * 5, none⟩ = some (.int .i64 at_) ∧ z1.cell? ⟨g, i * 5 + 1, none⟩ = some (.int .i64 ac) ∧ z1.cell? ⟨g, i * 5 + 2, none⟩ = some (.int .i64 ae) ∧ z1.cell? ⟨g, i * 5 + 3, none⟩ = some (.int .i64 au) ∧ z1.cell? ⟨g, i * 5 + 4, none⟩ = some (.int .i64 ah)) := Lib.hid (by
                obtain ⟨k0, k1, k2, k3, k4, k5⟩ := HSL.out _ hot.out
                exact ⟨ho.cell' k0 (fun e => HPU.out.ne e), ho.cell' k1 hgp, ho.cell' k2 hgp, ho.cell' k3 hgp, ho.cell' k4 hgp, ho.cell' k5 hgp⟩)
              clear hb ho hgp HST
              try dsimp only
              refine hK.out _ _ (fun _ => HSZ.out) (fun hHeld1 => ?_)
              replace hHeld1 := hHeld1 rfl
              clear hK K
              try simp only [List.getElem_toArray, List.getElem_cons_zero, List.getElem_cons_succ, Act.put, List.setIfInBounds_toArray, List.set_cons_zero, List.set_cons_succ]
              refine late.done (by kernel_rfl) ?_ _
              refine NoPanic.normal ?_
              clear hHeld
              clear hot HSL HSZ HPI HOI HAI HBOK
              go_wp2_with fail
              go_roundw
              case rel => exact ⟨i + 1, by omega, by go_num, HPN, HON, HAN⟩
              case measure => (simp [intOf]; omega)
            · have hil : ¬ (i : Int) < (len : Int) := by omega
              obtain rfl : len = i := by omega
              have hbk := HPI.out
              rw [List.take_of_length_le (by have := HLN.out; omega), HK.out.back HPU.out.bok.len hA'.len] at hbk
              have HEND : Hid (MvR S w p pb pj A op C L kind m gr path A' 0 (.returned (.int .i64 er)) wy) := Lib.hid (.inl ⟨er, hne, rfl, hbk, HOI.out, .inr ⟨rfl, HNO.out⟩⟩)
              clear hbk HPI HOI HAI HNO
              go_wp2_with fail
              go_ret
              exact HEND.out
        · have HEND : Hid (MvR S w p pb pj A op C L kind m gr path A' 0 (.returned (.int .i64 0)) w4) := Lib.hid (.inr ⟨rfl, rfl, ls, x, hyes, hx1, hx2, hx3, hp4.mono (fun q _ hq => hq.imp (fun y => y) (fun y => by have := HSZ3.out; omega)), HO3.out.trans (ho4.mono (fun q _ hq => hq.1))⟩)
          clear hyes hx1 hx2 hx3 hp4 ho4 HPP HP3 HAH3 HO3
          go_wp2_with fail
          go_ret
          exact HEND.out
      · have heb : (E == 0) = false := by rw [beq_eq_false_iff_ne]; exact hE
        have hen : (E != 0) = true := by rw [bne_iff_ne]; exact hE
        have HEND : Hid (MvR S w p pb pj A op C L kind m gr path A' E (.returned (.int .i64 E)) w3) := Lib.hid (.inl ⟨E, hE, rfl, by have h9 := HP3.out; rw [h0 hE] at h9; exact h9, HO3.out, .inl rfl⟩)
        clear HP3 HAH3 HO3 h0 hok hE
        go_wp2_with fail
        go_ret
        exact HEND.out
end Go.Proofs.Ytkbaafgaaiekpaa.puw

namespace Go.Proofs.Ytkbaafgaaiekpaa.puw
open Go.RowKit mem
set_option linter.unusedVariables false

set_option maxRecDepth 100000 in
set_option maxHeartbeats 8000000 in
theorem move_hold {S : Nat → Prop} {p pb pj : Nat} {A : List fnd.Ac} {op : Nat} {C : AcC → Option (List Int)} {L : List jnw.Ps} (kind m gr : Int) (hg : entw.InI gr) (a : Option Addr) (len cap : Nat) (path : List Int) (x0 x1 x2 x3 : Nat) (A' : List fnd.Ac) (E : Int) (w : World) (h : Pu S w p pb pj A op C L) (hS : ∀ q, S q → q < w.heap.size) (hL : L.length < 16384) (hr : ReadsI w a len path) (hlc : len ≤ cap) (hcm : cap ≤ 9223372036854775807) (ha : ∀ x, a = some x → ¬ S x.block)
    (hch : ∀ w', Only (fun _ => False) w w' → Calls Try.prog 37 #[.pointer (some ⟨x0, 0, none⟩), .pointer (some ⟨x1, 0, none⟩), .pointer (some ⟨x2, 0, none⟩), .pointer (some ⟨x3, 0, none⟩)] w' (fnd.FDid pb A' E w')) (hA' : fnd.Bok A') (h0 : E ≠ 0 → A' = A) (hok : E = 0 → ChOk path A A') :
    Calls Try.prog 26 #[.pointer (some ⟨p, 0, none⟩), .int .i64 kind, .int .i64 m, .slice a len cap, .int .i64 gr, .func (.func 37) #[] #[.pointer (some ⟨x0, 0, none⟩), .pointer (some ⟨x1, 0, none⟩), .pointer (some ⟨x2, 0, none⟩), .pointer (some ⟨x3, 0, none⟩)]] w (MvR S w p pb pj A op C L kind m gr path A' E) := by
  have hml := hr.2.1
  unfold maxLen at hml
  obtain ⟨mn, hmn⟩ : ∃ x, x = min len 3 := ⟨_, rfl⟩
  have hmin : min (len : Int) 3 = (mn : Int) := by omega
  have hm3 : mn ≤ 3 := by omega
  have hml2 : mn ≤ len := by omega
  have HMN := Lib.hid hmn
  have HPU := Lib.hid h
  have HSS := Lib.hid hS
  have HR := Lib.hid hr
  have HLN : Hid (path.length = len) := Lib.hid hr.1
  have HCH := Lib.hid hch
  obtain ⟨w1, hw1⟩ : ∃ x, x = w.alloc (.cells #[.int .i64 0, .int .i64 0, .int .i64 0, .int .i64 0, .int .i64 0, .int .i64 0, .int .i64 0, .int .i64 0, .int .i64 0, .int .i64 0, .int .i64 0, .int .i64 0, .int .i64 0, .int .i64 0, .int .i64 0] 98) := ⟨_, rfl⟩
  obtain ⟨g, hgg⟩ : ∃ x, x = w.heap.size := ⟨_, rfl⟩
  have HAH : Hid (AhAt w1 g A path 0) := Lib.hid (by rw [hw1, hgg]; exact AhAt.new rfl w _ A path)
  have HO1 : Hid (Only (fun _ => False) w w1) := Lib.hid (by rw [hw1]; exact (Only.refl _ _).alloc _)
  have HGW := Lib.hid hgg
  clear h hS hr hch hmn
  go_enter Try.func26, Try.ntmps26
  go_upto_region 4 with fail
  simp only [← hw1, ← hgg]
  clear hw1 hgg
  go_wp2_with fail
  go_loopw [24] (fun iv wx => ∃ k : Nat, k ≤ mn ∧ iv = .int .i64 (k : Int) ∧ Hid (AhAt wx g A path k) ∧ Hid (Only (fun _ => False) w wx)) (fun iv _ => mn - (intOf iv).toNat)
  case atStart => exact ⟨0, by omega, rfl, HAH, HO1⟩
  case round =>
    clear HAH HO1
    obtain ⟨k, hk, rfl, HAH, HX⟩ := hrel
    rename World => wx
    by_cases h8 : k < mn
    · have hin : (k : Int) < (mn : Int) := by omega
      have hk0 : (0 : Int) ≤ (k : Int) := by omega
      have hkl : (k : Int) < (len : Int) := by omega
      have hk3 : (k : Int) < 3 := by omega
      obtain ⟨b, off, rfl, hcell⟩ := HR.out.2.2.2.resolve_left (by omega)
      have HGT : Hid (∀ w', Only (fun _ => False) wx w' → Calls Try.prog 43 #[.pointer (some ⟨pb, 0, none⟩), .int .i64 (path.getD k 0)] w' fun e w2 => e = .returned (fnd.aggA (fnd.acG A (path.getD k 0))) ∧ Only (fun _ => False) w' w2) := Lib.hid (fun w' ho => fnd.get_any pb A _ w' ((HPU.out.bk.only HX.out (fun f => f)).only ho (fun f => f)))
      obtain ⟨pk, hpk⟩ : ∃ x, path.getD k 0 = x := ⟨_, rfl⟩
      obtain ⟨ac, hac⟩ : ∃ x, fnd.acG A (path.getD k 0) = x := ⟨_, rfl⟩
      obtain ⟨at_, ac, ae, au, ah⟩ := ac
      have HAC := Lib.hid hac
      rw [hac, hpk] at HGT
      have HSL : Hid (∀ w', Only (fun _ => False) wx w' → w'.cell? ⟨p, 0, none⟩ = some (.pointer (some ⟨pb, 0, none⟩)) ∧ w'.cell? ⟨b, off + k, none⟩ = some (.int .i64 pk)) := Lib.hid (fun w' ho => ⟨(HX.out.trans ho).cell' HPU.out.c0 (fun f => f), by rw [← hpk]; exact (HX.out.trans ho).cell' (hcell k (by omega)) (fun f => f)⟩)
      unfold fnd.aggA at HGT
      dsimp only at HGT
      clear hac hcell
      go_upto_region 7 with fail
      clear hpk
      refine wp_region_noPanic ?_
      refine late.region (fun w' => w'.cell? ⟨p, 0, none⟩ = some (.pointer (some ⟨pb, 0, none⟩)) ∧ w'.cell? ⟨b, off + k, none⟩ = some (.int .i64 pk)) (fun j => [11].contains j) (by kernel_rfl) (HSL.out _ (Only.refl _ _).drew) (fun hHeld => ?_)
      obtain ⟨z0, hz0'⟩ : ∃ x, x = wx.drew := ⟨_, rfl⟩
      rw [← hz0'] at hHeld ⊢
      have hot : Hid (Only (fun _ => False) wx z0) := Lib.hid (by rw [hz0']; exact (Only.refl _ _).drew)
      clear hz0'
      refine late.take (i := 0) [10, 11] (v := ?_) rfl (by kernel_rfl) (by kernel_rfl) (by kernel_rfl) (by kernel_rfl) (fun _ _ _ h => h) (Or.inl ⟨by rfl, ?_⟩) (by assumption) ?_
      rotate_left 1
      · intro w' hSw
        try dsimp only at hSw
        go_simp
        try with_reducible rfl
      try simp only [List.getElem_toArray, List.getElem_cons_zero, Act.put, List.setIfInBounds_toArray, List.set_cons_zero, List.set_cons_succ]
      refine late.take (i := 1) [2, 3, 4, 9, 10, 11] (v := ?_) rfl (by kernel_rfl) (by kernel_rfl) (by kernel_rfl) (by kernel_rfl) (fun _ _ _ h => h) (Or.inl ⟨by rfl, ?_⟩) (by assumption) ?_
      rotate_left 1
      · intro w' hSw
        try dsimp only at hSw
        go_simp
        try with_reducible rfl
      try simp only [List.getElem_toArray, List.getElem_cons_zero, List.getElem_cons_succ, Act.put, List.setIfInBounds_toArray, List.set_cons_zero, List.set_cons_succ]
      refine late.take (i := 2) [3, 4, 9, 10, 11] (v := ?_) rfl (by kernel_rfl) (by kernel_rfl) (by kernel_rfl) (by kernel_rfl) (fun _ _ _ h => h) (Or.inl ⟨by rfl, ?_⟩) (by assumption) ?_
      rotate_left 1
      · intro w' hSw
        try dsimp only at hSw
        go_simp
        try with_reducible rfl
      try simp only [List.getElem_toArray, List.getElem_cons_zero, List.getElem_cons_succ, Act.put, List.setIfInBounds_toArray, List.set_cons_zero, List.set_cons_succ]
      refine late.take (i := 3) [4, 9, 10, 11] (v := ?_) rfl (by kernel_rfl) (by kernel_rfl) (by kernel_rfl) (by kernel_rfl) (fun _ _ _ h => h) (Or.inl ⟨by rfl, ?_⟩) (by assumption) ?_
      rotate_left 1
      · intro w' hSw
        try dsimp only at hSw
        go_simp
        try with_reducible rfl
      try simp only [List.getElem_toArray, List.getElem_cons_zero, List.getElem_cons_succ, Act.put, List.setIfInBounds_toArray, List.set_cons_zero, List.set_cons_succ]
      refine late.take (i := 4) [9, 10, 11] (v := ?_) rfl (by kernel_rfl) (by kernel_rfl) (by kernel_rfl) (by kernel_rfl) (fun _ _ _ h => h) (Or.inl ⟨by rfl, ?_⟩) (by assumption) ?_
      rotate_left 1
      · intro w' hSw
        try dsimp only at hSw
        go_simp
        try with_reducible rfl
      try simp only [List.getElem_toArray, List.getElem_cons_zero, List.getElem_cons_succ, Act.put, List.setIfInBounds_toArray, List.set_cons_zero, List.set_cons_succ]
      refine late.take (i := 5) [7, 8, 9, 10, 11] (v := ?_) rfl (by kernel_rfl) (by kernel_rfl) (by kernel_rfl) (by kernel_rfl) (fun _ _ _ h => h) (Or.inl ⟨by rfl, ?_⟩) (by assumption) ?_
      rotate_left 1
      · intro w' hSw
        try dsimp only at hSw
        go_simp
        try with_reducible rfl
      try simp only [List.getElem_toArray, List.getElem_cons_zero, List.getElem_cons_succ, Act.put, List.setIfInBounds_toArray, List.set_cons_zero, List.set_cons_succ]
      refine late.take (i := 6) [7, 8, 9, 10, 11] (v := ?_) rfl (by kernel_rfl) (by kernel_rfl) (by kernel_rfl) (by kernel_rfl) (fun _ _ _ h => h) (Or.inl ⟨by rfl, ?_⟩) (by assumption) ?_
      rotate_left 1
      · intro w' hSw
        try dsimp only at hSw
        go_simp
        try with_reducible rfl
      try simp only [List.getElem_toArray, List.getElem_cons_zero, List.getElem_cons_succ, Act.put, List.setIfInBounds_toArray, List.set_cons_zero, List.set_cons_succ]
      refine late.take (i := 7) [8, 9, 10, 11] (v := ?_) rfl (by kernel_rfl) (by kernel_rfl) (by kernel_rfl) (by kernel_rfl) (fun _ _ _ h => h) (Or.inl ⟨by rfl, ?_⟩) (by assumption) ?_
      rotate_left 1
      · intro w' hSw
        try dsimp only at hSw
        go_simp
        try with_reducible rfl
      try simp only [List.getElem_toArray, List.getElem_cons_zero, List.getElem_cons_succ, Act.put, List.setIfInBounds_toArray, List.set_cons_zero, List.set_cons_succ]
      refine late.take (i := 8) [9, 10, 11] (v := ?_) rfl (by kernel_rfl) (by kernel_rfl) (by kernel_rfl) (by kernel_rfl) (fun _ _ _ h => h) (Or.inl ⟨by rfl, ?_⟩) (by assumption) ?_
      rotate_left 1
      · intro w' hSw
        try dsimp only at hSw
        go_simp
        try with_reducible rfl
      try simp only [List.getElem_toArray, List.getElem_cons_zero, List.getElem_cons_succ, Act.put, List.setIfInBounds_toArray, List.set_cons_zero, List.set_cons_succ]
      refine late.ready (rs := [9]) (by kernel_rfl) (by simp) ?_
      refine late.Each.cons rfl (fun K hK => ?_) late.Each.nil
      try simp only [List.getElem_toArray, List.getElem_cons_zero, List.getElem_cons_succ]
      go_simp
      go_at_call 43
      with_reducible refine (HGT.out _ hot.out).mono ?_
      rintro _ z1 ⟨rfl, ho⟩
      replace hot := Lib.hid (hot.out.trans ho)
      clear ho HGT
      try dsimp only
      refine hK.out _ _ (fun _ => HSL.out _ hot.out) (fun hHeld1 => ?_)
      replace hHeld1 := hHeld1 rfl
      clear hK K
      try simp only [List.getElem_toArray, List.getElem_cons_zero, List.getElem_cons_succ, Act.put, List.setIfInBounds_toArray, List.set_cons_zero, List.set_cons_succ]
      refine late.take (i := 10) [11] (v := ?_) rfl (by kernel_rfl) (by kernel_rfl) (by kernel_rfl) (by kernel_rfl) (fun _ _ _ h => h) (Or.inl ⟨by rfl, ?_⟩) (by assumption) ?_
      rotate_left 1
      · intro w' hSw
        try dsimp only at hSw
        go_simp
        try with_reducible rfl
      try simp only [List.getElem_toArray, List.getElem_cons_zero, List.getElem_cons_succ, Act.put, List.setIfInBounds_toArray, List.set_cons_zero, List.set_cons_succ]
      refine late.ready (rs := [11]) (by kernel_rfl) (by simp) ?_
      refine late.Each.cons rfl (fun K hK => ?_) late.Each.nil
      try simp only [List.getElem_toArray, List.getElem_cons_zero, List.getElem_cons_succ]
      go_simp
      have HA1 := Lib.hid (HAH.out.only hot.out (fun f => f))
      obtain ⟨⟨u0, y0⟩, f0⟩ := HA1.out.2 (k * 5) (by omega)
      obtain ⟨⟨u1, y1⟩, f1⟩ := HA1.out.2 (k * 5 + 1) (by omega)
      obtain ⟨⟨u2, y2⟩, f2⟩ := HA1.out.2 (k * 5 + 2) (by omega)
      obtain ⟨⟨u3, y3⟩, f3⟩ := HA1.out.2 (k * 5 + 3) (by omega)
      obtain ⟨⟨u4, y4⟩, f4⟩ := HA1.out.2 (k * 5 + 4) (by omega)
      go_simp
      refine hK.out _ _ (fun h => by cases h) (fun _ => ?_)
      clear hK K
      clear y0 y1 y2 y3 y4 f0 f1 f2 f3 f4
      try simp only [List.getElem_toArray, List.getElem_cons_zero, List.getElem_cons_succ, Act.put, List.setIfInBounds_toArray, List.set_cons_zero, List.set_cons_succ]
      refine late.done (by kernel_rfl) ?_ _
      refine NoPanic.normal ?_
      clear hHeld
      have HAN := Lib.hid (HA1.out.put (by omega) HAC.out)
      have HXN : Hid (Only (fun _ => False) w (tre.put5 z1 g (k * 5) (.int .i64 at_) (.int .i64 ac) (.int .i64 ae) (.int .i64 au) (.int .i64 ah))) := Lib.hid ((HX.out.trans hot.out).then (tre.put5_only _ _ _ _ _ _ _ _) (fun q hq e => by have := HGW.out; have e : q = g := e; omega))
      obtain ⟨wz, hwz⟩ : ∃ y, y = tre.put5 z1 g (k * 5) (.int .i64 at_) (.int .i64 ac) (.int .i64 ae) (.int .i64 au) (.int .i64 ah) := ⟨_, rfl⟩
      rw [← hwz] at HAN HXN
      unfold tre.put5 at hwz
      rw [← hwz]
      clear hwz HA1 hot HAH HX HSL HAC
      go_wp2_with fail
      go_roundw
      case rel => exact ⟨k + 1, by omega, by go_num, HAN, HXN⟩
      case measure => (simp [intOf]; omega)
    · have hin : ¬ (k : Int) < (mn : Int) := by omega
      obtain rfl : mn = k := by omega
      have HCL := Lib.hid (HCH.out wx HX.out)
      clear HCH
      go_wp2_with fail
      refine HCL.out.mono ?_
      rintro _ w3 ⟨rfl, hb3, ho3⟩
      have HP3 := Lib.hid ((HPU.out.quiet HX.out).book hb3 hA' ho3)
      have HO3 : Hid (Only S w w3) := Lib.hid ((HX.out.mono (fun _ _ f => f.elim)).trans (ho3.mono (fun q _ e => by have e : q = pb := e; rw [e]; exact HPU.out.sb)))
      have HAH3 := Lib.hid (HAH.out.only ho3 (fun e => by have h1 := HPU.out.lt.2; have h2 := HGW.out; have e : g = pb := e; omega))
      clear hb3 ho3 HCL HAH
      by_cases hE : E = 0
      · subst hE
        have hk9 := hok rfl
        have HK := Lib.hid hk9
        have HR3 : Hid (ReadsI w3 a len path) := Lib.hid (HR.out.only HO3.out ha)
        have hle3 : len ≤ 3 := by have := hk9.n3; have := HLN.out; omega
        have HSZ3 := Lib.hid HO3.out.size
        have HPP := Lib.hid (ppost_any kind m gr hg a len cap path w3 HP3.out (fun q hq => by have := HSS.out q hq; have := HSZ3.out; omega) hL HR3.out hlc hcm)
        clear h0 hok hk9
        go_wp2_with fail
        refine HPP.out.mono ?_
        rintro _ w4 (⟨er, hne, rfl, ho4, hno⟩ | ⟨rfl, ls, x, hyes, hx1, hx2, hx3, hp4, ho4⟩)
        · have heb : (er == 0) = false := by rw [beq_eq_false_iff_ne]; exact hne
          have hen : (er != 0) = true := by rw [bne_iff_ne]; exact hne
          have HP4 := Lib.hid (HP3.out.quiet ho4)
          have HO4 : Hid (Only S w w4) := Lib.hid (HO3.out.trans (ho4.mono (fun _ _ f => f.elim)))
          have HAH4 := Lib.hid (HAH3.out.only ho4 (fun f => f))
          have HNO := Lib.hid hno
          clear hno ho4 HPP
          go_wp2_with fail
          go_loopw [54] (fun iv wx => ∃ k : Nat, k ≤ len ∧ iv = .int .i64 (k : Int) ∧ Hid (Pu S wx p pb pj (resT A A' (path.take k)) op C L) ∧ Hid (Only S w wx) ∧ Hid (AhAt wx g A path len)) (fun iv _ => len - (intOf iv).toNat)
          case atStart => exact ⟨0, by omega, rfl, HP4, HO4, Lib.hid ((show mn = len from by have := HMN.out; omega) ▸ HAH4.out)⟩
          case round =>
            clear HP4 HO4 HAH4 HAH3 HP3 HO3
            obtain ⟨i, hi, rfl, HPI, HOI, HAI⟩ := hrel
            rename World => wy
            by_cases h9 : i < len
            · have hil : (i : Int) < (len : Int) := by omega
              have hi0 : (0 : Int) ≤ (i : Int) := by omega
              have hi3 : (i : Int) < 3 := by omega
              obtain ⟨b, off, rfl, hcell⟩ := HR.out.2.2.2.resolve_left (by omega)
              have hci := HOI.out.cell' (hcell i h9) (show ¬ S b from ha _ rfl)
              have hmem : path.getD i 0 ∈ path := by
                rw [List.getD_eq_getElem?_getD, List.getElem?_eq_getElem (by have := HLN.out; omega)]; exact List.getElem_mem _
              have hnd := HK.out.nd _ hmem
              have HTK : Hid (resT A A' (path.take (i + 1)) = (resT A A' (path.take i)).set (path.getD i 0).toNat (A.getD (path.getD i 0).toNat fnd.zA)) := Lib.hid (by
                rw [← resT_snoc, List.take_add_one, List.getElem?_eq_getElem (by have := HLN.out; omega)]
                rw [List.getD_eq_getElem?_getD, List.getElem?_eq_getElem (by have := HLN.out; omega)]; rfl)
              obtain ⟨pk, hpk⟩ : ∃ x, path.getD i 0 = x := ⟨_, rfl⟩
              have hac := HAI.out.1 i h9
              rw [hpk] at hci hnd HTK hac
              have hag : fnd.acG A pk = A.getD pk.toNat fnd.zA := by unfold fnd.acG; rw [if_pos hnd]
              have hrt : fnd.Right (fnd.acG A pk) := fnd.acG_ok HPU.out.bok pk
              obtain ⟨ac, hacd⟩ : ∃ x, fnd.acG A pk = x := ⟨_, rfl⟩
              rw [← hag] at HTK
              rw [hacd] at hac hrt HTK
              have hse : fnd.setE pk ac = 0 := by unfold fnd.setE; rw [if_pos ⟨hnd, hrt⟩]
              have hsa : fnd.setA (resT A A' (path.take i)) pk ac = resT A A' (path.take (i + 1)) := by unfold fnd.setA; rw [if_pos hse, HTK.out]
              have HST : Hid (∀ w', Only (fun _ => False) wy w' → Calls Try.prog 52 #[.pointer (some ⟨pb, 0, none⟩), .int .i64 pk, fnd.aggA ac] w' (fnd.FDid pb (resT A A' (path.take (i + 1))) 0 w')) := Lib.hid (fun w' ho => by
                have h1 := fnd.set_any pb (resT A A' (path.take i)) pk ac w' (HPI.out.bk.only ho (fun f => f)) HPI.out.bok.len
                rw [hse, hsa] at h1
                exact h1)
              have HBOK : Hid (fnd.Bok (resT A A' (path.take (i + 1)))) := Lib.hid (by rw [← hsa]; exact HPI.out.bok.setA pk ac)
              obtain ⟨at_, ac, ae, au, ah⟩ := ac
              obtain ⟨d0, d1, d2, d3, d4⟩ := hac
              dsimp only at d0 d1 d2 d3 d4
              have HSL : Hid (∀ w', Only (fun _ => False) wy w' → w'.cell? ⟨p, 0, none⟩ = some (.pointer (some ⟨pb, 0, none⟩)) ∧ w'.cell? ⟨g, i * 5, none⟩ = some (.int .i64 at_) ∧ w'.cell? ⟨g, i * 5 + 1, none⟩ = some (.int .i64 ac) ∧ w'.cell? ⟨g, i * 5 + 2, none⟩ = some (.int .i64 ae) ∧ w'.cell? ⟨g, i * 5 + 3, none⟩ = some (.int .i64 au) ∧ w'.cell? ⟨g, i * 5 + 4, none⟩ = some (.int .i64 ah)) := Lib.hid (fun w' ho => ⟨ho.cell' HPI.out.c0 (fun f => f), ho.cell' d0 (fun f => f), ho.cell' d1 (fun f => f), ho.cell' d2 (fun f => f), ho.cell' d3 (fun f => f), ho.cell' d4 (fun f => f)⟩)
              unfold fnd.aggA at HST
              dsimp only at HST
              clear hcell hmem hnd HTK hag hrt hacd hse hsa d0 d1 d2 d3 d4
              go_upto_region 17 with fail
              clear hci hpk
              refine wp_region_noPanic ?_
              refine late.region (fun w' => w'.cell? ⟨p, 0, none⟩ = some (.pointer (some ⟨pb, 0, none⟩)) ∧ w'.cell? ⟨g, i * 5, none⟩ = some (.int .i64 at_) ∧ w'.cell? ⟨g, i * 5 + 1, none⟩ = some (.int .i64 ac) ∧ w'.cell? ⟨g, i * 5 + 2, none⟩ = some (.int .i64 ae) ∧ w'.cell? ⟨g, i * 5 + 3, none⟩ = some (.int .i64 au) ∧ w'.cell? ⟨g, i * 5 + 4, none⟩ = some (.int .i64 ah)) (fun j => [].contains j) (by kernel_rfl) (HSL.out _ (Only.refl _ _).drew) (fun hHeld => ?_)
              obtain ⟨z0, hz0'⟩ : ∃ x, x = wy.drew := ⟨_, rfl⟩
              rw [← hz0'] at hHeld ⊢
              have hot : Hid (Only (fun _ => False) wy z0) := Lib.hid (by rw [hz0']; exact (Only.refl _ _).drew)
              clear hz0'
              refine late.take (i := 0) [1, 2, 3, 8] (v := ?_) rfl (by kernel_rfl) (by kernel_rfl) (by kernel_rfl) (by kernel_rfl) (fun _ _ _ h => h) (Or.inl ⟨by rfl, ?_⟩) (by assumption) ?_
              rotate_left 1
              · intro w' hSw
                try dsimp only at hSw
                go_simp
                try with_reducible rfl
              try simp only [List.getElem_toArray, List.getElem_cons_zero, Act.put, List.setIfInBounds_toArray, List.set_cons_zero, List.set_cons_succ]
              refine late.take (i := 1) [2, 3, 8] (v := ?_) rfl (by kernel_rfl) (by kernel_rfl) (by kernel_rfl) (by kernel_rfl) (fun _ _ _ h => h) (Or.inl ⟨by rfl, ?_⟩) (by assumption) ?_
              rotate_left 1
              · intro w' hSw
                try dsimp only at hSw
                go_simp
                try with_reducible rfl
              try simp only [List.getElem_toArray, List.getElem_cons_zero, List.getElem_cons_succ, Act.put, List.setIfInBounds_toArray, List.set_cons_zero, List.set_cons_succ]
              refine late.take (i := 2) [3, 8] (v := ?_) rfl (by kernel_rfl) (by kernel_rfl) (by kernel_rfl) (by kernel_rfl) (fun _ _ _ h => h) (Or.inl ⟨by rfl, ?_⟩) (by assumption) ?_
              rotate_left 1
              · intro w' hSw
                try dsimp only at hSw
                go_simp
                try with_reducible rfl
              try simp only [List.getElem_toArray, List.getElem_cons_zero, List.getElem_cons_succ, Act.put, List.setIfInBounds_toArray, List.set_cons_zero, List.set_cons_succ]
              refine late.take (i := 3) [8] (v := ?_) rfl (by kernel_rfl) (by kernel_rfl) (by kernel_rfl) (by kernel_rfl) (fun _ _ _ h => h) (Or.inl ⟨by rfl, ?_⟩) (by assumption) ?_
              rotate_left 1
              · intro w' hSw
                try dsimp only at hSw
                go_simp
                try with_reducible rfl
              try simp only [List.getElem_toArray, List.getElem_cons_zero, List.getElem_cons_succ, Act.put, List.setIfInBounds_toArray, List.set_cons_zero, List.set_cons_succ]
              refine late.take (i := 4) [8] (v := ?_) rfl (by kernel_rfl) (by kernel_rfl) (by kernel_rfl) (by kernel_rfl) (fun _ _ _ h => h) (Or.inl ⟨by rfl, ?_⟩) (by assumption) ?_
              rotate_left 1
              · intro w' hSw
                try dsimp only at hSw
                go_simp
                try with_reducible rfl
              try simp only [List.getElem_toArray, List.getElem_cons_zero, List.getElem_cons_succ, Act.put, List.setIfInBounds_toArray, List.set_cons_zero, List.set_cons_succ]
              refine late.take (i := 5) [6, 7, 8] (v := ?_) rfl (by kernel_rfl) (by kernel_rfl) (by kernel_rfl) (by kernel_rfl) (fun _ _ _ h => h) (Or.inl ⟨by rfl, ?_⟩) (by assumption) ?_
              rotate_left 1
              · intro w' hSw
                try dsimp only at hSw
                go_simp
                try with_reducible rfl
              try simp only [List.getElem_toArray, List.getElem_cons_zero, List.getElem_cons_succ, Act.put, List.setIfInBounds_toArray, List.set_cons_zero, List.set_cons_succ]
              refine late.take (i := 6) [7, 8] (v := ?_) rfl (by kernel_rfl) (by kernel_rfl) (by kernel_rfl) (by kernel_rfl) (fun _ _ _ h => h) (Or.inl ⟨by rfl, ?_⟩) (by assumption) ?_
              rotate_left 1
              · intro w' hSw
                try dsimp only at hSw
                go_simp
                try with_reducible rfl
              try simp only [List.getElem_toArray, List.getElem_cons_zero, List.getElem_cons_succ, Act.put, List.setIfInBounds_toArray, List.set_cons_zero, List.set_cons_succ]
              refine late.take (i := 7) [8] (v := ?_) rfl (by kernel_rfl) (by kernel_rfl) (by kernel_rfl) (by kernel_rfl) (fun _ _ _ h => h) (Or.inl ⟨by rfl, ?_⟩) (by assumption) ?_
              rotate_left 1
              · intro w' hSw
                try dsimp only at hSw
                go_simp
                try with_reducible rfl
              try simp only [List.getElem_toArray, List.getElem_cons_zero, List.getElem_cons_succ, Act.put, List.setIfInBounds_toArray, List.set_cons_zero, List.set_cons_succ]
              refine late.ready (rs := [8]) (by kernel_rfl) (by simp) ?_
              refine late.Each.cons rfl (fun K hK => ?_) late.Each.nil
              try simp only [List.getElem_toArray, List.getElem_cons_zero, List.getElem_cons_succ]
              go_simp
              go_at_call 52
              with_reducible refine (HST.out _ hot.out).mono ?_
              rintro _ z1 ⟨rfl, hb, ho⟩
              have HPN := Lib.hid ((HPI.out.quiet hot.out).book hb HBOK.out ho)
              have hgp : ¬ g = pb := fun e => by have h1 := HPU.out.lt.2; have h2 := HGW.out; omega
              have HON : Hid (Only S w z1) := Lib.hid ((HOI.out.trans (hot.out.mono (fun _ _ f => f.elim))).trans (ho.mono (fun q _ e => by have e : q = pb := e; rw [e]; exact HPU.out.sb)))
              have HAN := Lib.hid ((HAI.out.only hot.out (fun f => f)).only ho hgp)
              have HSZ : Hid (z1.cell? ⟨p, 0, none⟩ = some (.pointer (some ⟨pb, 0, none⟩)) ∧ z1.cell? ⟨g, i * 5, none⟩ = some (.int .i64 at_) ∧ z1.cell? ⟨g, i * 5 + 1, none⟩ = some (.int .i64 ac) ∧ z1.cell? ⟨g, i * 5 + 2, none⟩ = some (.int .i64 ae) ∧ z1.cell? ⟨g, i * 5 + 3, none⟩ = some (.int .i64 au) ∧ z1.cell? ⟨g, i * 5 + 4, none⟩ = some (.int .i64 ah)) := Lib.hid (by
                obtain ⟨k0, k1, k2, k3, k4, k5⟩ := HSL.out _ hot.out
                exact ⟨ho.cell' k0 (fun e => HPU.out.ne e), ho.cell' k1 hgp, ho.cell' k2 hgp, ho.cell' k3 hgp, ho.cell' k4 hgp, ho.cell' k5 hgp⟩)
              clear hb ho hgp HST
              try dsimp only
              refine hK.out _ _ (fun _ => HSZ.out) (fun hHeld1 => ?_)
              replace hHeld1 := hHeld1 rfl
              clear hK K
              try simp only [List.getElem_toArray, List.getElem_cons_zero, List.getElem_cons_succ, Act.put, List.setIfInBounds_toArray, List.set_cons_zero, List.set_cons_succ]
              refine late.done (by kernel_rfl) ?_ _
              refine NoPanic.normal ?_
              clear hHeld
              clear hot HSL HSZ HPI HOI HAI HBOK
              go_wp2_with fail
              go_roundw
              case rel => exact ⟨i + 1, by omega, by go_num, HPN, HON, HAN⟩
              case measure => (simp [intOf]; omega)
            · have hil : ¬ (i : Int) < (len : Int) := by omega
              obtain rfl : len = i := by omega
              have hbk := HPI.out
              rw [List.take_of_length_le (by have := HLN.out; omega), HK.out.back HPU.out.bok.len hA'.len] at hbk
              have HEND : Hid (MvR S w p pb pj A op C L kind m gr path A' 0 (.returned (.int .i64 er)) wy) := Lib.hid (.inl ⟨er, hne, rfl, hbk, HOI.out, .inr ⟨rfl, HNO.out⟩⟩)
              clear hbk HPI HOI HAI HNO
              go_wp2_with fail
              go_ret
              exact HEND.out
        · have HEND : Hid (MvR S w p pb pj A op C L kind m gr path A' 0 (.returned (.int .i64 0)) w4) := Lib.hid (.inr ⟨rfl, rfl, ls, x, hyes, hx1, hx2, hx3, hp4.mono (fun q _ hq => hq.imp (fun y => y) (fun y => by have := HSZ3.out; omega)), HO3.out.trans (ho4.mono (fun q _ hq => hq.1))⟩)
          clear hyes hx1 hx2 hx3 hp4 ho4 HPP HP3 HAH3 HO3
          go_wp2_with fail
          go_ret
          exact HEND.out
      · have heb : (E == 0) = false := by rw [beq_eq_false_iff_ne]; exact hE
        have hen : (E != 0) = true := by rw [bne_iff_ne]; exact hE
        have HEND : Hid (MvR S w p pb pj A op C L kind m gr path A' E (.returned (.int .i64 E)) w3) := Lib.hid (.inl ⟨E, hE, rfl, by have h9 := HP3.out; rw [h0 hE] at h9; exact h9, HO3.out, .inl rfl⟩)
        clear HP3 HAH3 HO3 h0 hok hE
        go_wp2_with fail
        go_ret
        exact HEND.out
end Go.Proofs.Ytkbaafgaaiekpaa.puw

namespace Go.Proofs.Ytkbaafgaaiekpaa.puw
open Go.RowKit mem
set_option linter.unusedVariables false

set_option maxRecDepth 100000 in
set_option maxHeartbeats 8000000 in
theorem move_rel {S : Nat → Prop} {p pb pj : Nat} {A : List fnd.Ac} {op : Nat} {C : AcC → Option (List Int)} {L : List jnw.Ps} (kind m gr : Int) (hg : entw.InI gr) (a : Option Addr) (len cap : Nat) (path : List Int) (x0 x1 x2 : Nat) (A' : List fnd.Ac) (E : Int) (w : World) (h : Pu S w p pb pj A op C L) (hS : ∀ q, S q → q < w.heap.size) (hL : L.length < 16384) (hr : ReadsI w a len path) (hlc : len ≤ cap) (hcm : cap ≤ 9223372036854775807) (ha : ∀ x, a = some x → ¬ S x.block)
    (hch : ∀ w', Only (fun _ => False) w w' → Calls Try.prog 41 #[.pointer (some ⟨x0, 0, none⟩), .pointer (some ⟨x1, 0, none⟩), .pointer (some ⟨x2, 0, none⟩)] w' (fnd.FDid pb A' E w')) (hA' : fnd.Bok A') (h0 : E ≠ 0 → A' = A) (hok : E = 0 → ChOk path A A') :
    Calls Try.prog 26 #[.pointer (some ⟨p, 0, none⟩), .int .i64 kind, .int .i64 m, .slice a len cap, .int .i64 gr, .func (.func 41) #[] #[.pointer (some ⟨x0, 0, none⟩), .pointer (some ⟨x1, 0, none⟩), .pointer (some ⟨x2, 0, none⟩)]] w (MvR S w p pb pj A op C L kind m gr path A' E) := by
  have hml := hr.2.1
  unfold maxLen at hml
  obtain ⟨mn, hmn⟩ : ∃ x, x = min len 3 := ⟨_, rfl⟩
  have hmin : min (len : Int) 3 = (mn : Int) := by omega
  have hm3 : mn ≤ 3 := by omega
  have hml2 : mn ≤ len := by omega
  have HMN := Lib.hid hmn
  have HPU := Lib.hid h
  have HSS := Lib.hid hS
  have HR := Lib.hid hr
  have HLN : Hid (path.length = len) := Lib.hid hr.1
  have HCH := Lib.hid hch
  obtain ⟨w1, hw1⟩ : ∃ x, x = w.alloc (.cells #[.int .i64 0, .int .i64 0, .int .i64 0, .int .i64 0, .int .i64 0, .int .i64 0, .int .i64 0, .int .i64 0, .int .i64 0, .int .i64 0, .int .i64 0, .int .i64 0, .int .i64 0, .int .i64 0, .int .i64 0] 98) := ⟨_, rfl⟩
  obtain ⟨g, hgg⟩ : ∃ x, x = w.heap.size := ⟨_, rfl⟩
  have HAH : Hid (AhAt w1 g A path 0) := Lib.hid (by rw [hw1, hgg]; exact AhAt.new rfl w _ A path)
  have HO1 : Hid (Only (fun _ => False) w w1) := Lib.hid (by rw [hw1]; exact (Only.refl _ _).alloc _)
  have HGW := Lib.hid hgg
  clear h hS hr hch hmn
  go_enter Try.func26, Try.ntmps26
  go_upto_region 4 with fail
  simp only [← hw1, ← hgg]
  clear hw1 hgg
  go_wp2_with fail
  go_loopw [24] (fun iv wx => ∃ k : Nat, k ≤ mn ∧ iv = .int .i64 (k : Int) ∧ Hid (AhAt wx g A path k) ∧ Hid (Only (fun _ => False) w wx)) (fun iv _ => mn - (intOf iv).toNat)
  case atStart => exact ⟨0, by omega, rfl, HAH, HO1⟩
  case round =>
    clear HAH HO1
    obtain ⟨k, hk, rfl, HAH, HX⟩ := hrel
    rename World => wx
    by_cases h8 : k < mn
    · have hin : (k : Int) < (mn : Int) := by omega
      have hk0 : (0 : Int) ≤ (k : Int) := by omega
      have hkl : (k : Int) < (len : Int) := by omega
      have hk3 : (k : Int) < 3 := by omega
      obtain ⟨b, off, rfl, hcell⟩ := HR.out.2.2.2.resolve_left (by omega)
      have HGT : Hid (∀ w', Only (fun _ => False) wx w' → Calls Try.prog 43 #[.pointer (some ⟨pb, 0, none⟩), .int .i64 (path.getD k 0)] w' fun e w2 => e = .returned (fnd.aggA (fnd.acG A (path.getD k 0))) ∧ Only (fun _ => False) w' w2) := Lib.hid (fun w' ho => fnd.get_any pb A _ w' ((HPU.out.bk.only HX.out (fun f => f)).only ho (fun f => f)))
      obtain ⟨pk, hpk⟩ : ∃ x, path.getD k 0 = x := ⟨_, rfl⟩
      obtain ⟨ac, hac⟩ : ∃ x, fnd.acG A (path.getD k 0) = x := ⟨_, rfl⟩
      obtain ⟨at_, ac, ae, au, ah⟩ := ac
      have HAC := Lib.hid hac
      rw [hac, hpk] at HGT
      have HSL : Hid (∀ w', Only (fun _ => False) wx w' → w'.cell? ⟨p, 0, none⟩ = some (.pointer (some ⟨pb, 0, none⟩)) ∧ w'.cell? ⟨b, off + k, none⟩ = some (.int .i64 pk)) := Lib.hid (fun w' ho => ⟨(HX.out.trans ho).cell' HPU.out.c0 (fun f => f), by rw [← hpk]; exact (HX.out.trans ho).cell' (hcell k (by omega)) (fun f => f)⟩)
      unfold fnd.aggA at HGT
      dsimp only at HGT
      clear hac hcell
      go_upto_region 7 with fail
      clear hpk
      refine wp_region_noPanic ?_
      refine late.region (fun w' => w'.cell? ⟨p, 0, none⟩ = some (.pointer (some ⟨pb, 0, none⟩)) ∧ w'.cell? ⟨b, off + k, none⟩ = some (.int .i64 pk)) (fun j => [11].contains j) (by kernel_rfl) (HSL.out _ (Only.refl _ _).drew) (fun hHeld => ?_)
      obtain ⟨z0, hz0'⟩ : ∃ x, x = wx.drew := ⟨_, rfl⟩
      rw [← hz0'] at hHeld ⊢
      have hot : Hid (Only (fun _ => False) wx z0) := Lib.hid (by rw [hz0']; exact (Only.refl _ _).drew)
      clear hz0'
      refine late.take (i := 0) [10, 11] (v := ?_) rfl (by kernel_rfl) (by kernel_rfl) (by kernel_rfl) (by kernel_rfl) (fun _ _ _ h => h) (Or.inl ⟨by rfl, ?_⟩) (by assumption) ?_
      rotate_left 1
      · intro w' hSw
        try dsimp only at hSw
        go_simp
        try with_reducible rfl
      try simp only [List.getElem_toArray, List.getElem_cons_zero, Act.put, List.setIfInBounds_toArray, List.set_cons_zero, List.set_cons_succ]
      refine late.take (i := 1) [2, 3, 4, 9, 10, 11] (v := ?_) rfl (by kernel_rfl) (by kernel_rfl) (by kernel_rfl) (by kernel_rfl) (fun _ _ _ h => h) (Or.inl ⟨by rfl, ?_⟩) (by assumption) ?_
      rotate_left 1
      · intro w' hSw
        try dsimp only at hSw
        go_simp
        try with_reducible rfl
      try simp only [List.getElem_toArray, List.getElem_cons_zero, List.getElem_cons_succ, Act.put, List.setIfInBounds_toArray, List.set_cons_zero, List.set_cons_succ]
      refine late.take (i := 2) [3, 4, 9, 10, 11] (v := ?_) rfl (by kernel_rfl) (by kernel_rfl) (by kernel_rfl) (by kernel_rfl) (fun _ _ _ h => h) (Or.inl ⟨by rfl, ?_⟩) (by assumption) ?_
      rotate_left 1
      · intro w' hSw
        try dsimp only at hSw
        go_simp
        try with_reducible rfl
      try simp only [List.getElem_toArray, List.getElem_cons_zero, List.getElem_cons_succ, Act.put, List.setIfInBounds_toArray, List.set_cons_zero, List.set_cons_succ]
      refine late.take (i := 3) [4, 9, 10, 11] (v := ?_) rfl (by kernel_rfl) (by kernel_rfl) (by kernel_rfl) (by kernel_rfl) (fun _ _ _ h => h) (Or.inl ⟨by rfl, ?_⟩) (by assumption) ?_
      rotate_left 1
      · intro w' hSw
        try dsimp only at hSw
        go_simp
        try with_reducible rfl
      try simp only [List.getElem_toArray, List.getElem_cons_zero, List.getElem_cons_succ, Act.put, List.setIfInBounds_toArray, List.set_cons_zero, List.set_cons_succ]
      refine late.take (i := 4) [9, 10, 11] (v := ?_) rfl (by kernel_rfl) (by kernel_rfl) (by kernel_rfl) (by kernel_rfl) (fun _ _ _ h => h) (Or.inl ⟨by rfl, ?_⟩) (by assumption) ?_
      rotate_left 1
      · intro w' hSw
        try dsimp only at hSw
        go_simp
        try with_reducible rfl
      try simp only [List.getElem_toArray, List.getElem_cons_zero, List.getElem_cons_succ, Act.put, List.setIfInBounds_toArray, List.set_cons_zero, List.set_cons_succ]
      refine late.take (i := 5) [7, 8, 9, 10, 11] (v := ?_) rfl (by kernel_rfl) (by kernel_rfl) (by kernel_rfl) (by kernel_rfl) (fun _ _ _ h => h) (Or.inl ⟨by rfl, ?_⟩) (by assumption) ?_
      rotate_left 1
      · intro w' hSw
        try dsimp only at hSw
        go_simp
        try with_reducible rfl
      try simp only [List.getElem_toArray, List.getElem_cons_zero, List.getElem_cons_succ, Act.put, List.setIfInBounds_toArray, List.set_cons_zero, List.set_cons_succ]
      refine late.take (i := 6) [7, 8, 9, 10, 11] (v := ?_) rfl (by kernel_rfl) (by kernel_rfl) (by kernel_rfl) (by kernel_rfl) (fun _ _ _ h => h) (Or.inl ⟨by rfl, ?_⟩) (by assumption) ?_
      rotate_left 1
      · intro w' hSw
        try dsimp only at hSw
        go_simp
        try with_reducible rfl
      try simp only [List.getElem_toArray, List.getElem_cons_zero, List.getElem_cons_succ, Act.put, List.setIfInBounds_toArray, List.set_cons_zero, List.set_cons_succ]
      refine late.take (i := 7) [8, 9, 10, 11] (v := ?_) rfl (by kernel_rfl) (by kernel_rfl) (by kernel_rfl) (by kernel_rfl) (fun _ _ _ h => h) (Or.inl ⟨by rfl, ?_⟩) (by assumption) ?_
      rotate_left 1
      · intro w' hSw
        try dsimp only at hSw
        go_simp
        try with_reducible rfl
      try simp only [List.getElem_toArray, List.getElem_cons_zero, List.getElem_cons_succ, Act.put, List.setIfInBounds_toArray, List.set_cons_zero, List.set_cons_succ]
      refine late.take (i := 8) [9, 10, 11] (v := ?_) rfl (by kernel_rfl) (by kernel_rfl) (by kernel_rfl) (by kernel_rfl) (fun _ _ _ h => h) (Or.inl ⟨by rfl, ?_⟩) (by assumption) ?_
      rotate_left 1
      · intro w' hSw
        try dsimp only at hSw
        go_simp
        try with_reducible rfl
      try simp only [List.getElem_toArray, List.getElem_cons_zero, List.getElem_cons_succ, Act.put, List.setIfInBounds_toArray, List.set_cons_zero, List.set_cons_succ]
      refine late.ready (rs := [9]) (by kernel_rfl) (by simp) ?_
      refine late.Each.cons rfl (fun K hK => ?_) late.Each.nil
      try simp only [List.getElem_toArray, List.getElem_cons_zero, List.getElem_cons_succ]
      go_simp
      go_at_call 43
      with_reducible refine (HGT.out _ hot.out).mono ?_
      rintro _ z1 ⟨rfl, ho⟩
      replace hot := Lib.hid (hot.out.trans ho)
      clear ho HGT
      try dsimp only
      refine hK.out _ _ (fun _ => HSL.out _ hot.out) (fun hHeld1 => ?_)
      replace hHeld1 := hHeld1 rfl
      clear hK K
      try simp only [List.getElem_toArray, List.getElem_cons_zero, List.getElem_cons_succ, Act.put, List.setIfInBounds_toArray, List.set_cons_zero, List.set_cons_succ]
      refine late.take (i := 10) [11] (v := ?_) rfl (by kernel_rfl) (by kernel_rfl) (by kernel_rfl) (by kernel_rfl) (fun _ _ _ h => h) (Or.inl ⟨by rfl, ?_⟩) (by assumption) ?_
      rotate_left 1
      · intro w' hSw
        try dsimp only at hSw
        go_simp
        try with_reducible rfl
      try simp only [List.getElem_toArray, List.getElem_cons_zero, List.getElem_cons_succ, Act.put, List.setIfInBounds_toArray, List.set_cons_zero, List.set_cons_succ]
      refine late.ready (rs := [11]) (by kernel_rfl) (by simp) ?_
      refine late.Each.cons rfl (fun K hK => ?_) late.Each.nil
      try simp only [List.getElem_toArray, List.getElem_cons_zero, List.getElem_cons_succ]
      go_simp
      have HA1 := Lib.hid (HAH.out.only hot.out (fun f => f))
      obtain ⟨⟨u0, y0⟩, f0⟩ := HA1.out.2 (k * 5) (by omega)
      obtain ⟨⟨u1, y1⟩, f1⟩ := HA1.out.2 (k * 5 + 1) (by omega)
      obtain ⟨⟨u2, y2⟩, f2⟩ := HA1.out.2 (k * 5 + 2) (by omega)
      obtain ⟨⟨u3, y3⟩, f3⟩ := HA1.out.2 (k * 5 + 3) (by omega)
      obtain ⟨⟨u4, y4⟩, f4⟩ := HA1.out.2 (k * 5 + 4) (by omega)
      go_simp
      refine hK.out _ _ (fun h => by cases h) (fun _ => ?_)
      clear hK K
      clear y0 y1 y2 y3 y4 f0 f1 f2 f3 f4
      try simp only [List.getElem_toArray, List.getElem_cons_zero, List.getElem_cons_succ, Act.put, List.setIfInBounds_toArray, List.set_cons_zero, List.set_cons_succ]
      refine late.done (by kernel_rfl) ?_ _
      refine NoPanic.normal ?_
      clear hHeld
      have HAN := Lib.hid (HA1.out.put (by omega) HAC.out)
      have HXN : Hid (Only (fun _ => False) w (tre.put5 z1 g (k * 5) (.int .i64 at_) (.int .i64 ac) (.int .i64 ae) (.int .i64 au) (.int .i64 ah))) := Lib.hid ((HX.out.trans hot.out).then (tre.put5_only _ _ _ _ _ _ _ _) (fun q hq e => by have := HGW.out; have e : q = g := e; omega))
      obtain ⟨wz, hwz⟩ : ∃ y, y = tre.put5 z1 g (k * 5) (.int .i64 at_) (.int .i64 ac) (.int .i64 ae) (.int .i64 au) (.int .i64 ah) := ⟨_, rfl⟩
      rw [← hwz] at HAN HXN
      unfold tre.put5 at hwz
      rw [← hwz]
      clear hwz HA1 hot HAH HX HSL HAC
      go_wp2_with fail
      go_roundw
      case rel => exact ⟨k + 1, by omega, by go_num, HAN, HXN⟩
      case measure => (simp [intOf]; omega)
    · have hin : ¬ (k : Int) < (mn : Int) := by omega
      obtain rfl : mn = k := by omega
      have HCL := Lib.hid (HCH.out wx HX.out)
      clear HCH
      go_wp2_with fail
      refine HCL.out.mono ?_
      rintro _ w3 ⟨rfl, hb3, ho3⟩
      have HP3 := Lib.hid ((HPU.out.quiet HX.out).book hb3 hA' ho3)
      have HO3 : Hid (Only S w w3) := Lib.hid ((HX.out.mono (fun _ _ f => f.elim)).trans (ho3.mono (fun q _ e => by have e : q = pb := e; rw [e]; exact HPU.out.sb)))
      have HAH3 := Lib.hid (HAH.out.only ho3 (fun e => by have h1 := HPU.out.lt.2; have h2 := HGW.out; have e : g = pb := e; omega))
      clear hb3 ho3 HCL HAH
      by_cases hE : E = 0
      · subst hE
        have hk9 := hok rfl
        have HK := Lib.hid hk9
        have HR3 : Hid (ReadsI w3 a len path) := Lib.hid (HR.out.only HO3.out ha)
        have hle3 : len ≤ 3 := by have := hk9.n3; have := HLN.out; omega
        have HSZ3 := Lib.hid HO3.out.size
        have HPP := Lib.hid (ppost_any kind m gr hg a len cap path w3 HP3.out (fun q hq => by have := HSS.out q hq; have := HSZ3.out; omega) hL HR3.out hlc hcm)
        clear h0 hok hk9
        go_wp2_with fail
        refine HPP.out.mono ?_
        rintro _ w4 (⟨er, hne, rfl, ho4, hno⟩ | ⟨rfl, ls, x, hyes, hx1, hx2, hx3, hp4, ho4⟩)
        · have heb : (er == 0) = false := by rw [beq_eq_false_iff_ne]; exact hne
          have hen : (er != 0) = true := by rw [bne_iff_ne]; exact hne
          have HP4 := Lib.hid (HP3.out.quiet ho4)
          have HO4 : Hid (Only S w w4) := Lib.hid (HO3.out.trans (ho4.mono (fun _ _ f => f.elim)))
          have HAH4 := Lib.hid (HAH3.out.only ho4 (fun f => f))
          have HNO := Lib.hid hno
          clear hno ho4 HPP
          go_wp2_with fail
          go_loopw [54] (fun iv wx => ∃ k : Nat, k ≤ len ∧ iv = .int .i64 (k : Int) ∧ Hid (Pu S wx p pb pj (resT A A' (path.take k)) op C L) ∧ Hid (Only S w wx) ∧ Hid (AhAt wx g A path len)) (fun iv _ => len - (intOf iv).toNat)
          case atStart => exact ⟨0, by omega, rfl, HP4, HO4, Lib.hid ((show mn = len from by have := HMN.out; omega) ▸ HAH4.out)⟩
          case round =>
            clear HP4 HO4 HAH4 HAH3 HP3 HO3
            obtain ⟨i, hi, rfl, HPI, HOI, HAI⟩ := hrel
            rename World => wy
            by_cases h9 : i < len
            · have hil : (i : Int) < (len : Int) := by omega
              have hi0 : (0 : Int) ≤ (i : Int) := by omega
              have hi3 : (i : Int) < 3 := by omega
              obtain ⟨b, off, rfl, hcell⟩ := HR.out.2.2.2.resolve_left (by omega)
              have hci := HOI.out.cell' (hcell i h9) (show ¬ S b from ha _ rfl)
              have hmem : path.getD i 0 ∈ path := by
                rw [List.getD_eq_getElem?_getD, List.getElem?_eq_getElem (by have := HLN.out; omega)]; exact List.getElem_mem _
              have hnd := HK.out.nd _ hmem
              have HTK : Hid (resT A A' (path.take (i + 1)) = (resT A A' (path.take i)).set (path.getD i 0).toNat (A.getD (path.getD i 0).toNat fnd.zA)) := Lib.hid (by
                rw [← resT_snoc, List.take_add_one, List.getElem?_eq_getElem (by have := HLN.out; omega)]
                rw [List.getD_eq_getElem?_getD, List.getElem?_eq_getElem (by have := HLN.out; omega)]; rfl)
              obtain ⟨pk, hpk⟩ : ∃ x, path.getD i 0 = x := ⟨_, rfl⟩
              have hac := HAI.out.1 i h9
              rw [hpk] at hci hnd HTK hac
              have hag : fnd.acG A pk = A.getD pk.toNat fnd.zA := by unfold fnd.acG; rw [if_pos hnd]
              have hrt : fnd.Right (fnd.acG A pk) := fnd.acG_ok HPU.out.bok pk
              obtain ⟨ac, hacd⟩ : ∃ x, fnd.acG A pk = x := ⟨_, rfl⟩
              rw [← hag] at HTK
              rw [hacd] at hac hrt HTK
              have hse : fnd.setE pk ac = 0 := by unfold fnd.setE; rw [if_pos ⟨hnd, hrt⟩]
              have hsa : fnd.setA (resT A A' (path.take i)) pk ac = resT A A' (path.take (i + 1)) := by unfold fnd.setA; rw [if_pos hse, HTK.out]
              have HST : Hid (∀ w', Only (fun _ => False) wy w' → Calls Try.prog 52 #[.pointer (some ⟨pb, 0, none⟩), .int .i64 pk, fnd.aggA ac] w' (fnd.FDid pb (resT A A' (path.take (i + 1))) 0 w')) := Lib.hid (fun w' ho => by
                have h1 := fnd.set_any pb (resT A A' (path.take i)) pk ac w' (HPI.out.bk.only ho (fun f => f)) HPI.out.bok.len
                rw [hse, hsa] at h1
                exact h1)
              have HBOK : Hid (fnd.Bok (resT A A' (path.take (i + 1)))) := Lib.hid (by rw [← hsa]; exact HPI.out.bok.setA pk ac)
              obtain ⟨at_, ac, ae, au, ah⟩ := ac
              obtain ⟨d0, d1, d2, d3, d4⟩ := hac
              dsimp only at d0 d1 d2 d3 d4
              have HSL : Hid (∀ w', Only (fun _ => False) wy w' → w'.cell? ⟨p, 0, none⟩ = some (.pointer (some ⟨pb, 0, none⟩)) ∧ w'.cell? ⟨g, i * 5, none⟩ = some (.int .i64 at_) ∧ w'.cell? ⟨g, i * 5 + 1, none⟩ = some (.int .i64 ac) ∧ w'.cell? ⟨g, i * 5 + 2, none⟩ = some (.int .i64 ae) ∧ w'.cell? ⟨g, i * 5 + 3, none⟩ = some (.int .i64 au) ∧ w'.cell? ⟨g, i * 5 + 4, none⟩ = some (.int .i64 ah)) := Lib.hid (fun w' ho => ⟨ho.cell' HPI.out.c0 (fun f => f), ho.cell' d0 (fun f => f), ho.cell' d1 (fun f => f), ho.cell' d2 (fun f => f), ho.cell' d3 (fun f => f), ho.cell' d4 (fun f => f)⟩)
              unfold fnd.aggA at HST
              dsimp only at HST
              clear hcell hmem hnd HTK hag hrt hacd hse hsa d0 d1 d2 d3 d4
              go_upto_region 17 with fail
              clear hci hpk
              refine wp_region_noPanic ?_
              refine late.region (fun w' => w'.cell? ⟨p, 0, none⟩ = some (.pointer (some ⟨pb, 0, none⟩)) ∧ w'.cell? ⟨g, i * 5, none⟩ = some (.int .i64 at_) ∧ w'.cell? ⟨g, i * 5 + 1, none⟩ = some (.int .i64 ac) ∧ w'.cell? ⟨g, i * 5 + 2, none⟩ = some (.int .i64 ae) ∧ w'.cell? ⟨g, i * 5 + 3, none⟩ = some (.int .i64 au) ∧ w'.cell? ⟨g, i * 5 + 4, none⟩ = some (.int .i64 ah)) (fun j => [].contains j) (by kernel_rfl) (HSL.out _ (Only.refl _ _).drew) (fun hHeld => ?_)
              obtain ⟨z0, hz0'⟩ : ∃ x, x = wy.drew := ⟨_, rfl⟩
              rw [← hz0'] at hHeld ⊢
              have hot : Hid (Only (fun _ => False) wy z0) := Lib.hid (by rw [hz0']; exact (Only.refl _ _).drew)
              clear hz0'
              refine late.take (i := 0) [1, 2, 3, 8] (v := ?_) rfl (by kernel_rfl) (by kernel_rfl) (by kernel_rfl) (by kernel_rfl) (fun _ _ _ h => h) (Or.inl ⟨by rfl, ?_⟩) (by assumption) ?_
              rotate_left 1
              · intro w' hSw
                try dsimp only at hSw
                go_simp
                try with_reducible rfl
              try simp only [List.getElem_toArray, List.getElem_cons_zero, Act.put, List.setIfInBounds_toArray, List.set_cons_zero, List.set_cons_succ]
              refine late.take (i := 1) [2, 3, 8] (v := ?_) rfl (by kernel_rfl) (by kernel_rfl) (by kernel_rfl) (by kernel_rfl) (fun _ _ _ h => h) (Or.inl ⟨by rfl, ?_⟩) (by assumption) ?_
              rotate_left 1
              · intro w' hSw
                try dsimp only at hSw
                go_simp
                try with_reducible rfl
              try simp only [List.getElem_toArray, List.getElem_cons_zero, List.getElem_cons_succ, Act.put, List.setIfInBounds_toArray, List.set_cons_zero, List.set_cons_succ]
              refine late.take (i := 2) [3, 8] (v := ?_) rfl (by kernel_rfl) (by kernel_rfl) (by kernel_rfl) (by kernel_rfl) (fun _ _ _ h => h) (Or.inl ⟨by rfl, ?_⟩) (by assumption) ?_
              rotate_left 1
              · intro w' hSw
                try dsimp only at hSw
                go_simp
                try with_reducible rfl
              try simp only [List.getElem_toArray, List.getElem_cons_zero, List.getElem_cons_succ, Act.put, List.setIfInBounds_toArray, List.set_cons_zero, List.set_cons_succ]
              refine late.take (i := 3) [8] (v := ?_) rfl (by kernel_rfl) (by kernel_rfl) (by kernel_rfl) (by kernel_rfl) (fun _ _ _ h => h) (Or.inl ⟨by rfl, ?_⟩) (by assumption) ?_
              rotate_left 1
              · intro w' hSw
                try dsimp only at hSw
                go_simp
                try with_reducible rfl
              try simp only [List.getElem_toArray, List.getElem_cons_zero, List.getElem_cons_succ, Act.put, List.setIfInBounds_toArray, List.set_cons_zero, List.set_cons_succ]
              refine late.take (i := 4) [8] (v := ?_) rfl (by kernel_rfl) (by kernel_rfl) (by kernel_rfl) (by kernel_rfl) (fun _ _ _ h => h) (Or.inl ⟨by rfl, ?_⟩) (by assumption) ?_
              rotate_left 1
              · intro w' hSw
                try dsimp only at hSw
                go_simp
                try with_reducible rfl
              try simp only [List.getElem_toArray, List.getElem_cons_zero, List.getElem_cons_succ, Act.put, List.setIfInBounds_toArray, List.set_cons_zero, List.set_cons_succ]
              refine late.take (i := 5) [6, 7, 8] (v := ?_) rfl (by kernel_rfl) (by kernel_rfl) (by kernel_rfl) (by kernel_rfl) (fun _ _ _ h => h) (Or.inl ⟨by rfl, ?_⟩) (by assumption) ?_
              rotate_left 1
              · intro w' hSw
                try dsimp only at hSw
                go_simp
                try with_reducible rfl
              try simp only [List.getElem_toArray, List.getElem_cons_zero, List.getElem_cons_succ, Act.put, List.setIfInBounds_toArray, List.set_cons_zero, List.set_cons_succ]
              refine late.take (i := 6) [7, 8] (v := ?_) rfl (by kernel_rfl) (by kernel_rfl) (by kernel_rfl) (by kernel_rfl) (fun _ _ _ h => h) (Or.inl ⟨by rfl, ?_⟩) (by assumption) ?_
              rotate_left 1
              · intro w' hSw
                try dsimp only at hSw
                go_simp
                try with_reducible rfl
              try simp only [List.getElem_toArray, List.getElem_cons_zero, List.getElem_cons_succ, Act.put, List.setIfInBounds_toArray, List.set_cons_zero, List.set_cons_succ]
              refine late.take (i := 7) [8] (v := ?_) rfl (by kernel_rfl) (by kernel_rfl) (by kernel_rfl) (by kernel_rfl) (fun _ _ _ h => h) (Or.inl ⟨by rfl, ?_⟩) (by assumption) ?_
              rotate_left 1
              · intro w' hSw
                try dsimp only at hSw
                go_simp
                try with_reducible rfl
              try simp only [List.getElem_toArray, List.getElem_cons_zero, List.getElem_cons_succ, Act.put, List.setIfInBounds_toArray, List.set_cons_zero, List.set_cons_succ]
              refine late.ready (rs := [8]) (by kernel_rfl) (by simp) ?_
              refine late.Each.cons rfl (fun K hK => ?_) late.Each.nil
              try simp only [List.getElem_toArray, List.getElem_cons_zero, List.getElem_cons_succ]
              go_simp
              go_at_call 52
              with_reducible refine (HST.out _ hot.out).mono ?_
              rintro _ z1 ⟨rfl, hb, ho⟩
              have HPN := Lib.hid ((HPI.out.quiet hot.out).book hb HBOK.out ho)
              have hgp : ¬ g = pb := fun e => by have h1 := HPU.out.lt.2; have h2 := HGW.out; omega
              have HON : Hid (Only S w z1) := Lib.hid ((HOI.out.trans (hot.out.mono (fun _ _ f => f.elim))).trans (ho.mono (fun q _ e => by have e : q = pb := e; rw [e]; exact HPU.out.sb)))
              have HAN := Lib.hid ((HAI.out.only hot.out (fun f => f)).only ho hgp)
              have HSZ : Hid (z1.cell? ⟨p, 0, none⟩ = some (.pointer (some ⟨pb, 0, none⟩)) ∧ z1.cell? ⟨g, i * 5, none⟩ = some (.int .i64 at_) ∧ z1.cell? ⟨g, i * 5 + 1, none⟩ = some (.int .i64 ac) ∧ z1.cell? ⟨g, i * 5 + 2, none⟩ = some (.int .i64 ae) ∧ z1.cell? ⟨g, i * 5 + 3, none⟩ = some (.int .i64 au) ∧ z1.cell? ⟨g, i * 5 + 4, none⟩ = some (.int .i64 ah)) := Lib.hid (by
                obtain ⟨k0, k1, k2, k3, k4, k5⟩ := HSL.out _ hot.out
                exact ⟨ho.cell' k0 (fun e => HPU.out.ne e), ho.cell' k1 hgp, ho.cell' k2 hgp, ho.cell' k3 hgp, ho.cell' k4 hgp, ho.cell' k5 hgp⟩)
              clear hb ho hgp HST
              try dsimp only
              refine hK.out _ _ (fun _ => HSZ.out) (fun hHeld1 => ?_)
              replace hHeld1 := hHeld1 rfl
              clear hK K
              try simp only [List.getElem_toArray, List.getElem_cons_zero, List.getElem_cons_succ, Act.put, List.setIfInBounds_toArray, List.set_cons_zero, List.set_cons_succ]
              refine late.done (by kernel_rfl) ?_ _
              refine NoPanic.normal ?_
              clear hHeld
              clear hot HSL HSZ HPI HOI HAI HBOK
              go_wp2_with fail
              go_roundw
              case rel => exact ⟨i + 1, by omega, by go_num, HPN, HON, HAN⟩
              case measure => (simp [intOf]; omega)
            · have hil : ¬ (i : Int) < (len : Int) := by omega
              obtain rfl : len = i := by omega
              have hbk := HPI.out
              rw [List.take_of_length_le (by have := HLN.out; omega), HK.out.back HPU.out.bok.len hA'.len] at hbk
              have HEND : Hid (MvR S w p pb pj A op C L kind m gr path A' 0 (.returned (.int .i64 er)) wy) := Lib.hid (.inl ⟨er, hne, rfl, hbk, HOI.out, .inr ⟨rfl, HNO.out⟩⟩)
              clear hbk HPI HOI HAI HNO
              go_wp2_with fail
              go_ret
              exact HEND.out
        · have HEND : Hid (MvR S w p pb pj A op C L kind m gr path A' 0 (.returned (.int .i64 0)) w4) := Lib.hid (.inr ⟨rfl, rfl, ls, x, hyes, hx1, hx2, hx3, hp4.mono (fun q _ hq => hq.imp (fun y => y) (fun y => by have := HSZ3.out; omega)), HO3.out.trans (ho4.mono (fun q _ hq => hq.1))⟩)
          clear hyes hx1 hx2 hx3 hp4 ho4 HPP HP3 HAH3 HO3
          go_wp2_with fail
          go_ret
          exact HEND.out
      · have heb : (E == 0) = false := by rw [beq_eq_false_iff_ne]; exact hE
        have hen : (E != 0) = true := by rw [bne_iff_ne]; exact hE
        have HEND : Hid (MvR S w p pb pj A op C L kind m gr path A' E (.returned (.int .i64 E)) w3) := Lib.hid (.inl ⟨E, hE, rfl, by have h9 := HP3.out; rw [h0 hE] at h9; exact h9, HO3.out, .inl rfl⟩)
        clear HP3 HAH3 HO3 h0 hok hE
        go_wp2_with fail
        go_ret
        exact HEND.out
end Go.Proofs.Ytkbaafgaaiekpaa.puw

namespace Go.Proofs.Ytkbaafgaaiekpaa.puw
open Go.RowKit mem
set_option linter.unusedVariables false

set_option maxRecDepth 100000 in
set_option maxHeartbeats 8000000 in
theorem move_com {S : Nat → Prop} {p pb pj : Nat} {A : List fnd.Ac} {op : Nat} {C : AcC → Option (List Int)} {L : List jnw.Ps} (kind m gr : Int) (hg : entw.InI gr) (a : Option Addr) (len cap : Nat) (path : List Int) (x0 x1 x2 : Nat) (A' : List fnd.Ac) (E : Int) (w : World) (h : Pu S w p pb pj A op C L) (hS : ∀ q, S q → q < w.heap.size) (hL : L.length < 16384) (hr : ReadsI w a len path) (hlc : len ≤ cap) (hcm : cap ≤ 9223372036854775807) (ha : ∀ x, a = some x → ¬ S x.block)
    (hch : ∀ w', Only (fun _ => False) w w' → Calls Try.prog 39 #[.pointer (some ⟨x0, 0, none⟩), .pointer (some ⟨x1, 0, none⟩), .pointer (some ⟨x2, 0, none⟩)] w' (fnd.FDid pb A' E w')) (hA' : fnd.Bok A') (h0 : E ≠ 0 → A' = A) (hok : E = 0 → ChOk path A A') :
    Calls Try.prog 26 #[.pointer (some ⟨p, 0, none⟩), .int .i64 kind, .int .i64 m, .slice a len cap, .int .i64 gr, .func (.func 39) #[] #[.pointer (some ⟨x0, 0, none⟩), .pointer (some ⟨x1, 0, none⟩), .pointer (some ⟨x2, 0, none⟩)]] w (MvR S w p pb pj A op C L kind m gr path A' E) := by
  have hml := hr.2.1
  unfold maxLen at hml
  obtain ⟨mn, hmn⟩ : ∃ x, x = min len 3 := ⟨_, rfl⟩
  have hmin : min (len : Int) 3 = (mn : Int) := by omega
  have hm3 : mn ≤ 3 := by omega
  have hml2 : mn ≤ len := by omega
  have HMN := Lib.hid hmn
  have HPU := Lib.hid h
  have HSS := Lib.hid hS
  have HR := Lib.hid hr
  have HLN : Hid (path.length = len) := Lib.hid hr.1
  have HCH := Lib.hid hch
  obtain ⟨w1, hw1⟩ : ∃ x, x = w.alloc (.cells #[.int .i64 0, .int .i64 0, .int .i64 0, .int .i64 0, .int .i64 0, .int .i64 0, .int .i64 0, .int .i64 0, .int .i64 0, .int .i64 0, .int .i64 0, .int .i64 0, .int .i64 0, .int .i64 0, .int .i64 0] 98) := ⟨_, rfl⟩
  obtain ⟨g, hgg⟩ : ∃ x, x = w.heap.size := ⟨_, rfl⟩
  have HAH : Hid (AhAt w1 g A path 0) := Lib.hid (by rw [hw1, hgg]; exact AhAt.new rfl w _ A path)
  have HO1 : Hid (Only (fun _ => False) w w1) := Lib.hid (by rw [hw1]; exact (Only.refl _ _).alloc _)
  have HGW := Lib.hid hgg
  clear h hS hr hch hmn
  go_enter Try.func26, Try.ntmps26
  go_upto_region 4 with fail
  simp only [← hw1, ← hgg]
  clear hw1 hgg
  go_wp2_with fail
  go_loopw [24] (fun iv wx => ∃ k : Nat, k ≤ mn ∧ iv = .int .i64 (k : Int) ∧ Hid (AhAt wx g A path k) ∧ Hid (Only (fun _ => False) w wx)) (fun iv _ => mn - (intOf iv).toNat)
  case atStart => exact ⟨0, by omega, rfl, HAH, HO1⟩
  case round =>
    clear HAH HO1
    obtain ⟨k, hk, rfl, HAH, HX⟩ := hrel
    rename World => wx
    by_cases h8 : k < mn
    · have hin : (k : Int) < (mn : Int) := by omega
      have hk0 : (0 : Int) ≤ (k : Int) := by omega
      have hkl : (k : Int) < (len : Int) := by omega
      have hk3 : (k : Int) < 3 := by omega
      obtain ⟨b, off, rfl, hcell⟩ := HR.out.2.2.2.resolve_left (by omega)
      have HGT : Hid (∀ w', Only (fun _ => False) wx w' → Calls Try.prog 43 #[.pointer (some ⟨pb, 0, none⟩), .int .i64 (path.getD k 0)] w' fun e w2 => e = .returned (fnd.aggA (fnd.acG A (path.getD k 0))) ∧ Only (fun _ => False) w' w2) := Lib.hid (fun w' ho => fnd.get_any pb A _ w' ((HPU.out.bk.only HX.out (fun f => f)).only ho (fun f => f)))
      obtain ⟨pk, hpk⟩ : ∃ x, path.getD k 0 = x := ⟨_, rfl⟩
      obtain ⟨ac, hac⟩ : ∃ x, fnd.acG A (path.getD k 0) = x := ⟨_, rfl⟩
      obtain ⟨at_, ac, ae, au, ah⟩ := ac
      have HAC := Lib.hid hac
      rw [hac, hpk] at HGT
      have HSL : Hid (∀ w', Only (fun _ => False) wx w' → w'.cell? ⟨p, 0, none⟩ = some (.pointer (some ⟨pb, 0, none⟩)) ∧ w'.cell? ⟨b, off + k, none⟩ = some (.int .i64 pk)) := Lib.hid (fun w' ho => ⟨(HX.out.trans ho).cell' HPU.out.c0 (fun f => f), by rw [← hpk]; exact (HX.out.trans ho).cell' (hcell k (by omega)) (fun f => f)⟩)
      unfold fnd.aggA at HGT
      dsimp only at HGT
      clear hac hcell
      go_upto_region 7 with fail
      clear hpk
      refine wp_region_noPanic ?_
      refine late.region (fun w' => w'.cell? ⟨p, 0, none⟩ = some (.pointer (some ⟨pb, 0, none⟩)) ∧ w'.cell? ⟨b, off + k, none⟩ = some (.int .i64 pk)) (fun j => [11].contains j) (by kernel_rfl) (HSL.out _ (Only.refl _ _).drew) (fun hHeld => ?_)
      obtain ⟨z0, hz0'⟩ : ∃ x, x = wx.drew := ⟨_, rfl⟩
      rw [← hz0'] at hHeld ⊢
      have hot : Hid (Only (fun _ => False) wx z0) := Lib.hid (by rw [hz0']; exact (Only.refl _ _).drew)
      clear hz0'
      refine late.take (i := 0) [10, 11] (v := ?_) rfl (by kernel_rfl) (by kernel_rfl) (by kernel_rfl) (by kernel_rfl) (fun _ _ _ h => h) (Or.inl ⟨by rfl, ?_⟩) (by assumption) ?_
      rotate_left 1
      · intro w' hSw
        try dsimp only at hSw
        go_simp
        try with_reducible rfl
      try simp only [List.getElem_toArray, List.getElem_cons_zero, Act.put, List.setIfInBounds_toArray, List.set_cons_zero, List.set_cons_succ]
      refine late.take (i := 1) [2, 3, 4, 9, 10, 11] (v := ?_) rfl (by kernel_rfl) (by kernel_rfl) (by kernel_rfl) (by kernel_rfl) (fun _ _ _ h => h) (Or.inl ⟨by rfl, ?_⟩) (by assumption) ?_
      rotate_left 1
      · intro w' hSw
        try dsimp only at hSw
        go_simp
        try with_reducible rfl
      try simp only [List.getElem_toArray, List.getElem_cons_zero, List.getElem_cons_succ, Act.put, List.setIfInBounds_toArray, List.set_cons_zero, List.set_cons_succ]
      refine late.take (i := 2) [3, 4, 9, 10, 11] (v := ?_) rfl (by kernel_rfl) (by kernel_rfl) (by kernel_rfl) (by kernel_rfl) (fun _ _ _ h => h) (Or.inl ⟨by rfl, ?_⟩) (by assumption) ?_
      rotate_left 1
      · intro w' hSw
        try dsimp only at hSw
        go_simp
        try with_reducible rfl
      try simp only [List.getElem_toArray, List.getElem_cons_zero, List.getElem_cons_succ, Act.put, List.setIfInBounds_toArray, List.set_cons_zero, List.set_cons_succ]
      refine late.take (i := 3) [4, 9, 10, 11] (v := ?_) rfl (by kernel_rfl) (by kernel_rfl) (by kernel_rfl) (by kernel_rfl) (fun _ _ _ h => h) (Or.inl ⟨by rfl, ?_⟩) (by assumption) ?_
      rotate_left 1
      · intro w' hSw
        try dsimp only at hSw
        go_simp
        try with_reducible rfl
      try simp only [List.getElem_toArray, List.getElem_cons_zero, List.getElem_cons_succ, Act.put, List.setIfInBounds_toArray, List.set_cons_zero, List.set_cons_succ]
      refine late.take (i := 4) [9, 10, 11] (v := ?_) rfl (by kernel_rfl) (by kernel_rfl) (by kernel_rfl) (by kernel_rfl) (fun _ _ _ h => h) (Or.inl ⟨by rfl, ?_⟩) (by assumption) ?_
      rotate_left 1
      · intro w' hSw
        try dsimp only at hSw
        go_simp
        try with_reducible rfl
      try simp only [List.getElem_toArray, List.getElem_cons_zero, List.getElem_cons_succ, Act.put, List.setIfInBounds_toArray, List.set_cons_zero, List.set_cons_succ]
      refine late.take (i := 5) [7, 8, 9, 10, 11] (v := ?_) rfl (by kernel_rfl) (by kernel_rfl) (by kernel_rfl) (by kernel_rfl) (fun _ _ _ h => h) (Or.inl ⟨by rfl, ?_⟩) (by assumption) ?_
      rotate_left 1
      · intro w' hSw
        try dsimp only at hSw
        go_simp
        try with_reducible rfl
      try simp only [List.getElem_toArray, List.getElem_cons_zero, List.getElem_cons_succ, Act.put, List.setIfInBounds_toArray, List.set_cons_zero, List.set_cons_succ]
      refine late.take (i := 6) [7, 8, 9, 10, 11] (v := ?_) rfl (by kernel_rfl) (by kernel_rfl) (by kernel_rfl) (by kernel_rfl) (fun _ _ _ h => h) (Or.inl ⟨by rfl, ?_⟩) (by assumption) ?_
      rotate_left 1
      · intro w' hSw
        try dsimp only at hSw
        go_simp
        try with_reducible rfl
      try simp only [List.getElem_toArray, List.getElem_cons_zero, List.getElem_cons_succ, Act.put, List.setIfInBounds_toArray, List.set_cons_zero, List.set_cons_succ]
      refine late.take (i := 7) [8, 9, 10, 11] (v := ?_) rfl (by kernel_rfl) (by kernel_rfl) (by kernel_rfl) (by kernel_rfl) (fun _ _ _ h => h) (Or.inl ⟨by rfl, ?_⟩) (by assumption) ?_
      rotate_left 1
      · intro w' hSw
        try dsimp only at hSw
        go_simp
        try with_reducible rfl
      try simp only [List.getElem_toArray, List.getElem_cons_zero, List.getElem_cons_succ, Act.put, List.setIfInBounds_toArray, List.set_cons_zero, List.set_cons_succ]
      refine late.take (i := 8) [9, 10, 11] (v := ?_) rfl (by kernel_rfl) (by kernel_rfl) (by kernel_rfl) (by kernel_rfl) (fun _ _ _ h => h) (Or.inl ⟨by rfl, ?_⟩) (by assumption) ?_
      rotate_left 1
      · intro w' hSw
        try dsimp only at hSw
        go_simp
        try with_reducible rfl
      try simp only [List.getElem_toArray, List.getElem_cons_zero, List.getElem_cons_succ, Act.put, List.setIfInBounds_toArray, List.set_cons_zero, List.set_cons_succ]
      refine late.ready (rs := [9]) (by kernel_rfl) (by simp) ?_
      refine late.Each.cons rfl (fun K hK => ?_) late.Each.nil
      try simp only [List.getElem_toArray, List.getElem_cons_zero, List.getElem_cons_succ]
      go_simp
      go_at_call 43
      with_reducible refine (HGT.out _ hot.out).mono ?_
      rintro _ z1 ⟨rfl, ho⟩
      replace hot := Lib.hid (hot.out.trans ho)
      clear ho HGT
      try dsimp only
      refine hK.out _ _ (fun _ => HSL.out _ hot.out) (fun hHeld1 => ?_)
      replace hHeld1 := hHeld1 rfl
      clear hK K
      try simp only [List.getElem_toArray, List.getElem_cons_zero, List.getElem_cons_succ, Act.put, List.setIfInBounds_toArray, List.set_cons_zero, List.set_cons_succ]
      refine late.take (i := 10) [11] (v := ?_) rfl (by kernel_rfl) (by kernel_rfl) (by kernel_rfl) (by kernel_rfl) (fun _ _ _ h => h) (Or.inl ⟨by rfl, ?_⟩) (by assumption) ?_
      rotate_left 1
      · intro w' hSw
        try dsimp only at hSw
        go_simp
        try with_reducible rfl
      try simp only [List.getElem_toArray, List.getElem_cons_zero, List.getElem_cons_succ, Act.put, List.setIfInBounds_toArray, List.set_cons_zero, List.set_cons_succ]
      refine late.ready (rs := [11]) (by kernel_rfl) (by simp) ?_
      refine late.Each.cons rfl (fun K hK => ?_) late.Each.nil
      try simp only [List.getElem_toArray, List.getElem_cons_zero, List.getElem_cons_succ]
      go_simp
      have HA1 := Lib.hid (HAH.out.only hot.out (fun f => f))
      obtain ⟨⟨u0, y0⟩, f0⟩ := HA1.out.2 (k * 5) (by omega)
      obtain ⟨⟨u1, y1⟩, f1⟩ := HA1.out.2 (k * 5 + 1) (by omega)
      obtain ⟨⟨u2, y2⟩, f2⟩ := HA1.out.2 (k * 5 + 2) (by omega)
      obtain ⟨⟨u3, y3⟩, f3⟩ := HA1.out.2 (k * 5 + 3) (by omega)
      obtain ⟨⟨u4, y4⟩, f4⟩ := HA1.out.2 (k * 5 + 4) (by omega)
      go_simp
      refine hK.out _ _ (fun h => by cases h) (fun _ => ?_)
      clear hK K
      clear y0 y1 y2 y3 y4 f0 f1 f2 f3 f4
      try simp only [List.getElem_toArray, List.getElem_cons_zero, List.getElem_cons_succ, Act.put, List.setIfInBounds_toArray, List.set_cons_zero, List.set_cons_succ]
      refine late.done (by kernel_rfl) ?_ _
      refine NoPanic.normal ?_
      clear hHeld
      have HAN := Lib.hid (HA1.out.put (by omega) HAC.out)
      have HXN : Hid (Only (fun _ => False) w (tre.put5 z1 g (k * 5) (.int .i64 at_) (.int .i64 ac) (.int .i64 ae) (.int .i64 au) (.int .i64 ah))) := Lib.hid ((HX.out.trans hot.out).then (tre.put5_only _ _ _ _ _ _ _ _) (fun q hq e => by have := HGW.out; have e : q = g := e; omega))
      obtain ⟨wz, hwz⟩ : ∃ y, y = tre.put5 z1 g (k * 5) (.int .i64 at_) (.int .i64 ac) (.int .i64 ae) (.int .i64 au) (.int .i64 ah) := ⟨_, rfl⟩
      rw [← hwz] at HAN HXN
      unfold tre.put5 at hwz
      rw [← hwz]
      clear hwz HA1 hot HAH HX HSL HAC
      go_wp2_with fail
      go_roundw
      case rel => exact ⟨k + 1, by omega, by go_num, HAN, HXN⟩
      case measure => (simp [intOf]; omega)
    · have hin : ¬ (k : Int) < (mn : Int) := by omega
      obtain rfl : mn = k := by omega
      have HCL := Lib.hid (HCH.out wx HX.out)
      clear HCH
      go_wp2_with fail
      refine HCL.out.mono ?_
      rintro _ w3 ⟨rfl, hb3, ho3⟩
      have HP3 := Lib.hid ((HPU.out.quiet HX.out).book hb3 hA' ho3)
      have HO3 : Hid (Only S w w3) := Lib.hid ((HX.out.mono (fun _ _ f => f.elim)).trans (ho3.mono (fun q _ e => by have e : q = pb := e; rw [e]; exact HPU.out.sb)))
      have HAH3 := Lib.hid (HAH.out.only ho3 (fun e => by have h1 := HPU.out.lt.2; have h2 := HGW.out; have e : g = pb := e; omega))
      clear hb3 ho3 HCL HAH
      by_cases hE : E = 0
      · subst hE
        have hk9 := hok rfl
        have HK := Lib.hid hk9
        have HR3 : Hid (ReadsI w3 a len path) := Lib.hid (HR.out.only HO3.out ha)
        have hle3 : len ≤ 3 := by have := hk9.n3; have := HLN.out; omega
        have HSZ3 := Lib.hid HO3.out.size
        have HPP := Lib.hid (ppost_any kind m gr hg a len cap path w3 HP3.out (fun q hq => by have := HSS.out q hq; have := HSZ3.out; omega) hL HR3.out hlc hcm)
        clear h0 hok hk9
        go_wp2_with fail
        refine HPP.out.mono ?_
        rintro _ w4 (⟨er, hne, rfl, ho4, hno⟩ | ⟨rfl, ls, x, hyes, hx1, hx2, hx3, hp4, ho4⟩)
        · have heb : (er == 0) = false := by rw [beq_eq_false_iff_ne]; exact hne
          have hen : (er != 0) = true := by rw [bne_iff_ne]; exact hne
          have HP4 := Lib.hid (HP3.out.quiet ho4)
          have HO4 : Hid (Only S w w4) := Lib.hid (HO3.out.trans (ho4.mono (fun _ _ f => f.elim)))
          have HAH4 := Lib.hid (HAH3.out.only ho4 (fun f => f))
          have HNO := Lib.hid hno
          clear hno ho4 HPP
          go_wp2_with fail
          go_loopw [54] (fun iv wx => ∃ k : Nat, k ≤ len ∧ iv = .int .i64 (k : Int) ∧ Hid (Pu S wx p pb pj (resT A A' (path.take k)) op C L) ∧ Hid (Only S w wx) ∧ Hid (AhAt wx g A path len)) (fun iv _ => len - (intOf iv).toNat)
          case atStart => exact ⟨0, by omega, rfl, HP4, HO4, Lib.hid ((show mn = len from by have := HMN.out; omega) ▸ HAH4.out)⟩
          case round =>
            clear HP4 HO4 HAH4 HAH3 HP3 HO3
            obtain ⟨i, hi, rfl, HPI, HOI, HAI⟩ := hrel
            rename World => wy
            by_cases h9 : i < len
            · have hil : (i : Int) < (len : Int) := by omega
              have hi0 : (0 : Int) ≤ (i : Int) := by omega
              have hi3 : (i : Int) < 3 := by omega
              obtain ⟨b, off, rfl, hcell⟩ := HR.out.2.2.2.resolve_left (by omega)
              have hci := HOI.out.cell' (hcell i h9) (show ¬ S b from ha _ rfl)
              have hmem : path.getD i 0 ∈ path := by
                rw [List.getD_eq_getElem?_getD, List.getElem?_eq_getElem (by have := HLN.out; omega)]; exact List.getElem_mem _
              have hnd := HK.out.nd _ hmem
              have HTK : Hid (resT A A' (path.take (i + 1)) = (resT A A' (path.take i)).set (path.getD i 0).toNat (A.getD (path.getD i 0).toNat fnd.zA)) := Lib.hid (by
                rw [← resT_snoc, List.take_add_one, List.getElem?_eq_getElem (by have := HLN.out; omega)]
                rw [List.getD_eq_getElem?_getD, List.getElem?_eq_getElem (by have := HLN.out; omega)]; rfl)
              obtain ⟨pk, hpk⟩ : ∃ x, path.getD i 0 = x := ⟨_, rfl⟩
              have hac := HAI.out.1 i h9
              rw [hpk] at hci hnd HTK hac
              have hag : fnd.acG A pk = A.getD pk.toNat fnd.zA := by unfold fnd.acG; rw [if_pos hnd]
              have hrt : fnd.Right (fnd.acG A pk) := fnd.acG_ok HPU.out.bok pk
              obtain ⟨ac, hacd⟩ : ∃ x, fnd.acG A pk = x := ⟨_, rfl⟩
              rw [← hag] at HTK
              rw [hacd] at hac hrt HTK
              have hse : fnd.setE pk ac = 0 := by unfold fnd.setE; rw [if_pos ⟨hnd, hrt⟩]
              have hsa : fnd.setA (resT A A' (path.take i)) pk ac = resT A A' (path.take (i + 1)) := by unfold fnd.setA; rw [if_pos hse, HTK.out]
              have HST : Hid (∀ w', Only (fun _ => False) wy w' → Calls Try.prog 52 #[.pointer (some ⟨pb, 0, none⟩), .int .i64 pk, fnd.aggA ac] w' (fnd.FDid pb (resT A A' (path.take (i + 1))) 0 w')) := Lib.hid (fun w' ho => by
                have h1 := fnd.set_any pb (resT A A' (path.take i)) pk ac w' (HPI.out.bk.only ho (fun f => f)) HPI.out.bok.len
                rw [hse, hsa] at h1
                exact h1)
              have HBOK : Hid (fnd.Bok (resT A A' (path.take (i + 1)))) := Lib.hid (by rw [← hsa]; exact HPI.out.bok.setA pk ac)
              obtain ⟨at_, ac, ae, au, ah⟩ := ac
              obtain ⟨d0, d1, d2, d3, d4⟩ := hac
              dsimp only at d0 d1 d2 d3 d4
              have HSL : Hid (∀ w', Only (fun _ => False) wy w' → w'.cell? ⟨p, 0, none⟩ = some (.pointer (some ⟨pb, 0, none⟩)) ∧ w'.cell? ⟨g, i * 5, none⟩ = some (.int .i64 at_) ∧ w'.cell? ⟨g, i * 5 + 1, none⟩ = some (.int .i64 ac) ∧ w'.cell? ⟨g, i * 5 + 2, none⟩ = some (.int .i64 ae) ∧ w'.cell? ⟨g, i * 5 + 3, none⟩ = some (.int .i64 au) ∧ w'.cell? ⟨g, i * 5 + 4, none⟩ = some (.int .i64 ah)) := Lib.hid (fun w' ho => ⟨ho.cell' HPI.out.c0 (fun f => f), ho.cell' d0 (fun f => f), ho.cell' d1 (fun f => f), ho.cell' d2 (fun f => f), ho.cell' d3 (fun f => f), ho.cell' d4 (fun f => f)⟩)
              unfold fnd.aggA at HST
              dsimp only at HST
              clear hcell hmem hnd HTK hag hrt hacd hse hsa d0 d1 d2 d3 d4
              go_upto_region 17 with fail
              clear hci hpk
              refine wp_region_noPanic ?_
              refine late.region (fun w' => w'.cell? ⟨p, 0, none⟩ = some (.pointer (some ⟨pb, 0, none⟩)) ∧ w'.cell? ⟨g, i * 5, none⟩ = some (.int .i64 at_) ∧ w'.cell? ⟨g, i * 5 + 1, none⟩ = some (.int .i64 ac) ∧ w'.cell? ⟨g, i * 5 + 2, none⟩ = some (.int .i64 ae) ∧ w'.cell? ⟨g, i * 5 + 3, none⟩ = some (.int .i64 au) ∧ w'.cell? ⟨g, i * 5 + 4, none⟩ = some (.int .i64 ah)) (fun j => [].contains j) (by kernel_rfl) (HSL.out _ (Only.refl _ _).drew) (fun hHeld => ?_)
              obtain ⟨z0, hz0'⟩ : ∃ x, x = wy.drew := ⟨_, rfl⟩
              rw [← hz0'] at hHeld ⊢
              have hot : Hid (Only (fun _ => False) wy z0) := Lib.hid (by rw [hz0']; exact (Only.refl _ _).drew)
              clear hz0'
              refine late.take (i := 0) [1, 2, 3, 8] (v := ?_) rfl (by kernel_rfl) (by kernel_rfl) (by kernel_rfl) (by kernel_rfl) (fun _ _ _ h => h) (Or.inl ⟨by rfl, ?_⟩) (by assumption) ?_
              rotate_left 1
              · intro w' hSw
                try dsimp only at hSw
                go_simp
                try with_reducible rfl
              try simp only [List.getElem_toArray, List.getElem_cons_zero, Act.put, List.setIfInBounds_toArray, List.set_cons_zero, List.set_cons_succ]
              refine late.take (i := 1) [2, 3, 8] (v := ?_) rfl (by kernel_rfl) (by kernel_rfl) (by kernel_rfl) (by kernel_rfl) (fun _ _ _ h => h) (Or.inl ⟨by rfl, ?_⟩) (by assumption) ?_
              rotate_left 1
              · intro w' hSw
                try dsimp only at hSw
                go_simp
                try with_reducible rfl
              try simp only [List.getElem_toArray, List.getElem_cons_zero, List.getElem_cons_succ, Act.put, List.setIfInBounds_toArray, List.set_cons_zero, List.set_cons_succ]
              refine late.take (i := 2) [3, 8] (v := ?_) rfl (by kernel_rfl) (by kernel_rfl) (by kernel_rfl) (by kernel_rfl) (fun _ _ _ h => h) (Or.inl ⟨by rfl, ?_⟩) (by assumption) ?_
              rotate_left 1
              · intro w' hSw
                try dsimp only at hSw
                go_simp
                try with_reducible rfl
              try simp only [List.getElem_toArray, List.getElem_cons_zero, List.getElem_cons_succ, Act.put, List.setIfInBounds_toArray, List.set_cons_zero, List.set_cons_succ]
              refine late.take (i := 3) [8] (v := ?_) rfl (by kernel_rfl) (by kernel_rfl) (by kernel_rfl) (by kernel_rfl) (fun _ _ _ h => h) (Or.inl ⟨by rfl, ?_⟩) (by assumption) ?_
              rotate_left 1
              · intro w' hSw
                try dsimp only at hSw
                go_simp
                try with_reducible rfl
              try simp only [List.getElem_toArray, List.getElem_cons_zero, List.getElem_cons_succ, Act.put, List.setIfInBounds_toArray, List.set_cons_zero, List.set_cons_succ]
              refine late.take (i := 4) [8] (v := ?_) rfl (by kernel_rfl) (by kernel_rfl) (by kernel_rfl) (by kernel_rfl) (fun _ _ _ h => h) (Or.inl ⟨by rfl, ?_⟩) (by assumption) ?_
              rotate_left 1
              · intro w' hSw
                try dsimp only at hSw
                go_simp
                try with_reducible rfl
              try simp only [List.getElem_toArray, List.getElem_cons_zero, List.getElem_cons_succ, Act.put, List.setIfInBounds_toArray, List.set_cons_zero, List.set_cons_succ]
              refine late.take (i := 5) [6, 7, 8] (v := ?_) rfl (by kernel_rfl) (by kernel_rfl) (by kernel_rfl) (by kernel_rfl) (fun _ _ _ h => h) (Or.inl ⟨by rfl, ?_⟩) (by assumption) ?_
              rotate_left 1
              · intro w' hSw
                try dsimp only at hSw
                go_simp
                try with_reducible rfl
              try simp only [List.getElem_toArray, List.getElem_cons_zero, List.getElem_cons_succ, Act.put, List.setIfInBounds_toArray, List.set_cons_zero, List.set_cons_succ]
              refine late.take (i := 6) [7, 8] (v := ?_) rfl (by kernel_rfl) (by kernel_rfl) (by kernel_rfl) (by kernel_rfl) (fun _ _ _ h => h) (Or.inl ⟨by rfl, ?_⟩) (by assumption) ?_
              rotate_left 1
              · intro w' hSw
                try dsimp only at hSw
                go_simp
                try with_reducible rfl
              try simp only [List.getElem_toArray, List.getElem_cons_zero, List.getElem_cons_succ, Act.put, List.setIfInBounds_toArray, List.set_cons_zero, List.set_cons_succ]
              refine late.take (i := 7) [8] (v := ?_) rfl (by kernel_rfl) (by kernel_rfl) (by kernel_rfl) (by kernel_rfl) (fun _ _ _ h => h) (Or.inl ⟨by rfl, ?_⟩) (by assumption) ?_
              rotate_left 1
              · intro w' hSw
                try dsimp only at hSw
                go_simp
                try with_reducible rfl
              try simp only [List.getElem_toArray, List.getElem_cons_zero, List.getElem_cons_succ, Act.put, List.setIfInBounds_toArray, List.set_cons_zero, List.set_cons_succ]
              refine late.ready (rs := [8]) (by kernel_rfl) (by simp) ?_
              refine late.Each.cons rfl (fun K hK => ?_) late.Each.nil
              try simp only [List.getElem_toArray, List.getElem_cons_zero, List.getElem_cons_succ]
              go_simp
              go_at_call 52
              with_reducible refine (HST.out _ hot.out).mono ?_
              rintro _ z1 ⟨rfl, hb, ho⟩
              have HPN := Lib.hid ((HPI.out.quiet hot.out).book hb HBOK.out ho)
              have hgp : ¬ g = pb := fun e => by have h1 := HPU.out.lt.2; have h2 := HGW.out; omega
              have HON : Hid (Only S w z1) := Lib.hid ((HOI.out.trans (hot.out.mono (fun _ _ f => f.elim))).trans (ho.mono (fun q _ e => by have e : q = pb := e; rw [e]; exact HPU.out.sb)))
              have HAN := Lib.hid ((HAI.out.only hot.out (fun f => f)).only ho hgp)
              have HSZ : Hid (z1.cell? ⟨p, 0, none⟩ = some (.pointer (some ⟨pb, 0, none⟩)) ∧ z1.cell? ⟨g, i * 5, none⟩ = some (.int .i64 at_) ∧ z1.cell? ⟨g, i * 5 + 1, none⟩ = some (.int .i64 ac) ∧ z1.cell? ⟨g, i * 5 + 2, none⟩ = some (.int .i64 ae) ∧ z1.cell? ⟨g, i * 5 + 3, none⟩ = some (.int .i64 au) ∧ z1.cell? ⟨g, i * 5 + 4, none⟩ = some (.int .i64 ah)) := Lib.hid (by
                obtain ⟨k0, k1, k2, k3, k4, k5⟩ := HSL.out _ hot.out
                exact ⟨ho.cell' k0 (fun e => HPU.out.ne e), ho.cell' k1 hgp, ho.cell' k2 hgp, ho.cell' k3 hgp, ho.cell' k4 hgp, ho.cell' k5 hgp⟩)
              clear hb ho hgp HST
              try dsimp only
              refine hK.out _ _ (fun _ => HSZ.out) (fun hHeld1 => ?_)
              replace hHeld1 := hHeld1 rfl
              clear hK K
              try simp only [List.getElem_toArray, List.getElem_cons_zero, List.getElem_cons_succ, Act.put, List.setIfInBounds_toArray, List.set_cons_zero, List.set_cons_succ]
              refine late.done (by kernel_rfl) ?_ _
              refine NoPanic.normal ?_
              clear hHeld
              clear hot HSL HSZ HPI HOI HAI HBOK
              go_wp2_with fail
              go_roundw
              case rel => exact ⟨i + 1, by omega, by go_num, HPN, HON, HAN⟩
              case measure => (simp [intOf]; omega)
            · have hil : ¬ (i : Int) < (len : Int) := by omega
              obtain rfl : len = i := by omega
              have hbk := HPI.out
              rw [List.take_of_length_le (by have := HLN.out; omega), HK.out.back HPU.out.bok.len hA'.len] at hbk
              have HEND : Hid (MvR S w p pb pj A op C L kind m gr path A' 0 (.returned (.int .i64 er)) wy) := Lib.hid (.inl ⟨er, hne, rfl, hbk, HOI.out, .inr ⟨rfl, HNO.out⟩⟩)
              clear hbk HPI HOI HAI HNO
              go_wp2_with fail
              go_ret
              exact HEND.out
        · have HEND : Hid (MvR S w p pb pj A op C L kind m gr path A' 0 (.returned (.int .i64 0)) w4) := Lib.hid (.inr ⟨rfl, rfl, ls, x, hyes, hx1, hx2, hx3, hp4.mono (fun q _ hq => hq.imp (fun y => y) (fun y => by have := HSZ3.out; omega)), HO3.out.trans (ho4.mono (fun q _ hq => hq.1))⟩)
          clear hyes hx1 hx2 hx3 hp4 ho4 HPP HP3 HAH3 HO3
          go_wp2_with fail
          go_ret
          exact HEND.out
      · have heb : (E == 0) = false := by rw [beq_eq_false_iff_ne]; exact hE
        have hen : (E != 0) = true := by rw [bne_iff_ne]; exact hE
        have HEND : Hid (MvR S w p pb pj A op C L kind m gr path A' E (.returned (.int .i64 E)) w3) := Lib.hid (.inl ⟨E, hE, rfl, by have h9 := HP3.out; rw [h0 hE] at h9; exact h9, HO3.out, .inl rfl⟩)
        clear HP3 HAH3 HO3 h0 hok hE
        go_wp2_with fail
        go_ret
        exact HEND.out
end Go.Proofs.Ytkbaafgaaiekpaa.puw

namespace Go.Proofs.Ytkbaafgaaiekpaa.puw
open Go.RowKit mem
set_option linter.unusedVariables false

set_option maxRecDepth 100000 in
set_option maxHeartbeats 8000000 in
theorem move_ref {S : Nat → Prop} {p pb pj : Nat} {A : List fnd.Ac} {op : Nat} {C : AcC → Option (List Int)} {L : List jnw.Ps} (kind m gr : Int) (hg : entw.InI gr) (a : Option Addr) (len cap : Nat) (path : List Int) (x0 x1 x2 : Nat) (A' : List fnd.Ac) (E : Int) (w : World) (h : Pu S w p pb pj A op C L) (hS : ∀ q, S q → q < w.heap.size) (hL : L.length < 16384) (hr : ReadsI w a len path) (hlc : len ≤ cap) (hcm : cap ≤ 9223372036854775807) (ha : ∀ x, a = some x → ¬ S x.block)
    (hch : ∀ w', Only (fun _ => False) w w' → Calls Try.prog 48 #[.pointer (some ⟨x0, 0, none⟩), .pointer (some ⟨x1, 0, none⟩), .pointer (some ⟨x2, 0, none⟩)] w' (fnd.FDid pb A' E w')) (hA' : fnd.Bok A') (h0 : E ≠ 0 → A' = A) (hok : E = 0 → ChOk path A A') :
    Calls Try.prog 26 #[.pointer (some ⟨p, 0, none⟩), .int .i64 kind, .int .i64 m, .slice a len cap, .int .i64 gr, .func (.func 48) #[] #[.pointer (some ⟨x0, 0, none⟩), .pointer (some ⟨x1, 0, none⟩), .pointer (some ⟨x2, 0, none⟩)]] w (MvR S w p pb pj A op C L kind m gr path A' E) := by
  have hml := hr.2.1
  unfold maxLen at hml
  obtain ⟨mn, hmn⟩ : ∃ x, x = min len 3 := ⟨_, rfl⟩
  have hmin : min (len : Int) 3 = (mn : Int) := by omega
  have hm3 : mn ≤ 3 := by omega
  have hml2 : mn ≤ len := by omega
  have HMN := Lib.hid hmn
  have HPU := Lib.hid h
  have HSS := Lib.hid hS
  have HR := Lib.hid hr
  have HLN : Hid (path.length = len) := Lib.hid hr.1
  have HCH := Lib.hid hch
  obtain ⟨w1, hw1⟩ : ∃ x, x = w.alloc (.cells #[.int .i64 0, .int .i64 0, .int .i64 0, .int .i64 0, .int .i64 0, .int .i64 0, .int .i64 0, .int .i64 0, .int .i64 0, .int .i64 0, .int .i64 0, .int .i64 0, .int .i64 0, .int .i64 0, .int .i64 0] 98) := ⟨_, rfl⟩
  obtain ⟨g, hgg⟩ : ∃ x, x = w.heap.size := ⟨_, rfl⟩
  have HAH : Hid (AhAt w1 g A path 0) := Lib.hid (by rw [hw1, hgg]; exact AhAt.new rfl w _ A path)
  have HO1 : Hid (Only (fun _ => False) w w1) := Lib.hid (by rw [hw1]; exact (Only.refl _ _).alloc _)
  have HGW := Lib.hid hgg
  clear h hS hr hch hmn
  go_enter Try.func26, Try.ntmps26
  go_upto_region 4 with fail
  simp only [← hw1, ← hgg]
  clear hw1 hgg
  go_wp2_with fail
  go_loopw [24] (fun iv wx => ∃ k : Nat, k ≤ mn ∧ iv = .int .i64 (k : Int) ∧ Hid (AhAt wx g A path k) ∧ Hid (Only (fun _ => False) w wx)) (fun iv _ => mn - (intOf iv).toNat)
  case atStart => exact ⟨0, by omega, rfl, HAH, HO1⟩
  case round =>
    clear HAH HO1
    obtain ⟨k, hk, rfl, HAH, HX⟩ := hrel
    rename World => wx
    by_cases h8 : k < mn
    · have hin : (k : Int) < (mn : Int) := by omega
      have hk0 : (0 : Int) ≤ (k : Int) := by omega
      have hkl : (k : Int) < (len : Int) := by omega
      have hk3 : (k : Int) < 3 := by omega
      obtain ⟨b, off, rfl, hcell⟩ := HR.out.2.2.2.resolve_left (by omega)
      have HGT : Hid (∀ w', Only (fun _ => False) wx w' → Calls Try.prog 43 #[.pointer (some ⟨pb, 0, none⟩), .int .i64 (path.getD k 0)] w' fun e w2 => e = .returned (fnd.aggA (fnd.acG A (path.getD k 0))) ∧ Only (fun _ => False) w' w2) := Lib.hid (fun w' ho => fnd.get_any pb A _ w' ((HPU.out.bk.only HX.out (fun f => f)).only ho (fun f => f)))
      obtain ⟨pk, hpk⟩ : ∃ x, path.getD k 0 = x := ⟨_, rfl⟩
      obtain ⟨ac, hac⟩ : ∃ x, fnd.acG A (path.getD k 0) = x := ⟨_, rfl⟩
      obtain ⟨at_, ac, ae, au, ah⟩ := ac
      have HAC := Lib.hid hac
      rw [hac, hpk] at HGT
      have HSL : Hid (∀ w', Only (fun _ => False) wx w' → w'.cell? ⟨p, 0, none⟩ = some (.pointer (some ⟨pb, 0, none⟩)) ∧ w'.cell? ⟨b, off + k, none⟩ = some (.int .i64 pk)) := Lib.hid (fun w' ho => ⟨(HX.out.trans ho).cell' HPU.out.c0 (fun f => f), by rw [← hpk]; exact (HX.out.trans ho).cell' (hcell k (by omega)) (fun f => f)⟩)
      unfold fnd.aggA at HGT
      dsimp only at HGT
      clear hac hcell
      go_upto_region 7 with fail
      clear hpk
      refine wp_region_noPanic ?_
      refine late.region (fun w' => w'.cell? ⟨p, 0, none⟩ = some (.pointer (some ⟨pb, 0, none⟩)) ∧ w'.cell? ⟨b, off + k, none⟩ = some (.int .i64 pk)) (fun j => [11].contains j) (by kernel_rfl) (HSL.out _ (Only.refl _ _).drew) (fun hHeld => ?_)
      obtain ⟨z0, hz0'⟩ : ∃ x, x = wx.drew := ⟨_, rfl⟩
      rw [← hz0'] at hHeld ⊢
      have hot : Hid (Only (fun _ => False) wx z0) := Lib.hid (by rw [hz0']; exact (Only.refl _ _).drew)
      clear hz0'
      refine late.take (i := 0) [10, 11] (v := ?_) rfl (by kernel_rfl) (by kernel_rfl) (by kernel_rfl) (by kernel_rfl) (fun _ _ _ h => h) (Or.inl ⟨by rfl, ?_⟩) (by assumption) ?_
      rotate_left 1
      · intro w' hSw
        try dsimp only at hSw
        go_simp
        try with_reducible rfl
      try simp only [List.getElem_toArray, List.getElem_cons_zero, Act.put, List.setIfInBounds_toArray, List.set_cons_zero, List.set_cons_succ]
      refine late.take (i := 1) [2, 3, 4, 9, 10, 11] (v := ?_) rfl (by kernel_rfl) (by kernel_rfl) (by kernel_rfl) (by kernel_rfl) (fun _ _ _ h => h) (Or.inl ⟨by rfl, ?_⟩) (by assumption) ?_
      rotate_left 1
      · intro w' hSw
        try dsimp only at hSw
        go_simp
        try with_reducible rfl
      try simp only [List.getElem_toArray, List.getElem_cons_zero, List.getElem_cons_succ, Act.put, List.setIfInBounds_toArray, List.set_cons_zero, List.set_cons_succ]
      refine late.take (i := 2) [3, 4, 9, 10, 11] (v := ?_) rfl (by kernel_rfl) (by kernel_rfl) (by kernel_rfl) (by kernel_rfl) (fun _ _ _ h => h) (Or.inl ⟨by rfl, ?_⟩) (by assumption) ?_
      rotate_left 1
      · intro w' hSw
        try dsimp only at hSw
        go_simp
        try with_reducible rfl
      try simp only [List.getElem_toArray, List.getElem_cons_zero, List.getElem_cons_succ, Act.put, List.setIfInBounds_toArray, List.set_cons_zero, List.set_cons_succ]
      refine late.take (i := 3) [4, 9, 10, 11] (v := ?_) rfl (by kernel_rfl) (by kernel_rfl) (by kernel_rfl) (by kernel_rfl) (fun _ _ _ h => h) (Or.inl ⟨by rfl, ?_⟩) (by assumption) ?_
      rotate_left 1
      · intro w' hSw
        try dsimp only at hSw
        go_simp
        try with_reducible rfl
      try simp only [List.getElem_toArray, List.getElem_cons_zero, List.getElem_cons_succ, Act.put, List.setIfInBounds_toArray, List.set_cons_zero, List.set_cons_succ]
      refine late.take (i := 4) [9, 10, 11] (v := ?_) rfl (by kernel_rfl) (by kernel_rfl) (by kernel_rfl) (by kernel_rfl) (fun _ _ _ h => h) (Or.inl ⟨by rfl, ?_⟩) (by assumption) ?_
      rotate_left 1
      · intro w' hSw
        try dsimp only at hSw
        go_simp
        try with_reducible rfl
      try simp only [List.getElem_toArray, List.getElem_cons_zero, List.getElem_cons_succ, Act.put, List.setIfInBounds_toArray, List.set_cons_zero, List.set_cons_succ]
      refine late.take (i := 5) [7, 8, 9, 10, 11] (v := ?_) rfl (by kernel_rfl) (by kernel_rfl) (by kernel_rfl) (by kernel_rfl) (fun _ _ _ h => h) (Or.inl ⟨by rfl, ?_⟩) (by assumption) ?_
      rotate_left 1
      · intro w' hSw
        try dsimp only at hSw
        go_simp
        try with_reducible rfl
      try simp only [List.getElem_toArray, List.getElem_cons_zero, List.getElem_cons_succ, Act.put, List.setIfInBounds_toArray, List.set_cons_zero, List.set_cons_succ]
      refine late.take (i := 6) [7, 8, 9, 10, 11] (v := ?_) rfl (by kernel_rfl) (by kernel_rfl) (by kernel_rfl) (by kernel_rfl) (fun _ _ _ h => h) (Or.inl ⟨by rfl, ?_⟩) (by assumption) ?_
      rotate_left 1
      · intro w' hSw
        try dsimp only at hSw
        go_simp
        try with_reducible rfl
      try simp only [List.getElem_toArray, List.getElem_cons_zero, List.getElem_cons_succ, Act.put, List.setIfInBounds_toArray, List.set_cons_zero, List.set_cons_succ]
      refine late.take (i := 7) [8, 9, 10, 11] (v := ?_) rfl (by kernel_rfl) (by kernel_rfl) (by kernel_rfl) (by kernel_rfl) (fun _ _ _ h => h) (Or.inl ⟨by rfl, ?_⟩) (by assumption) ?_
      rotate_left 1
      · intro w' hSw
        try dsimp only at hSw
        go_simp
        try with_reducible rfl
      try simp only [List.getElem_toArray, List.getElem_cons_zero, List.getElem_cons_succ, Act.put, List.setIfInBounds_toArray, List.set_cons_zero, List.set_cons_succ]
      refine late.take (i := 8) [9, 10, 11] (v := ?_) rfl (by kernel_rfl) (by kernel_rfl) (by kernel_rfl) (by kernel_rfl) (fun _ _ _ h => h) (Or.inl ⟨by rfl, ?_⟩) (by assumption) ?_
      rotate_left 1
      · intro w' hSw
        try dsimp only at hSw
        go_simp
        try with_reducible rfl
      try simp only [List.getElem_toArray, List.getElem_cons_zero, List.getElem_cons_succ, Act.put, List.setIfInBounds_toArray, List.set_cons_zero, List.set_cons_succ]
      refine late.ready (rs := [9]) (by kernel_rfl) (by simp) ?_
      refine late.Each.cons rfl (fun K hK => ?_) late.Each.nil
      try simp only [List.getElem_toArray, List.getElem_cons_zero, List.getElem_cons_succ]
      go_simp
      go_at_call 43
      with_reducible refine (HGT.out _ hot.out).mono ?_
      rintro _ z1 ⟨rfl, ho⟩
      replace hot := Lib.hid (hot.out.trans ho)
      clear ho HGT
      try dsimp only
      refine hK.out _ _ (fun _ => HSL.out _ hot.out) (fun hHeld1 => ?_)
      replace hHeld1 := hHeld1 rfl
      clear hK K
      try simp only [List.getElem_toArray, List.getElem_cons_zero, List.getElem_cons_succ, Act.put, List.setIfInBounds_toArray, List.set_cons_zero, List.set_cons_succ]
      refine late.take (i := 10) [11] (v := ?_) rfl (by kernel_rfl) (by kernel_rfl) (by kernel_rfl) (by kernel_rfl) (fun _ _ _ h => h) (Or.inl ⟨by rfl, ?_⟩) (by assumption) ?_
      rotate_left 1
      · intro w' hSw
        try dsimp only at hSw
        go_simp
        try with_reducible rfl
      try simp only [List.getElem_toArray, List.getElem_cons_zero, List.getElem_cons_succ, Act.put, List.setIfInBounds_toArray, List.set_cons_zero, List.set_cons_succ]
      refine late.ready (rs := [11]) (by kernel_rfl) (by simp) ?_
      refine late.Each.cons rfl (fun K hK => ?_) late.Each.nil
      try simp only [List.getElem_toArray, List.getElem_cons_zero, List.getElem_cons_succ]
      go_simp
      have HA1 := Lib.hid (HAH.out.only hot.out (fun f => f))
      obtain ⟨⟨u0, y0⟩, f0⟩ := HA1.out.2 (k * 5) (by omega)
      obtain ⟨⟨u1, y1⟩, f1⟩ := HA1.out.2 (k * 5 + 1) (by omega)
      obtain ⟨⟨u2, y2⟩, f2⟩ := HA1.out.2 (k * 5 + 2) (by omega)
      obtain ⟨⟨u3, y3⟩, f3⟩ := HA1.out.2 (k * 5 + 3) (by omega)
      obtain ⟨⟨u4, y4⟩, f4⟩ := HA1.out.2 (k * 5 + 4) (by omega)
      go_simp
      refine hK.out _ _ (fun h => by cases h) (fun _ => ?_)
      clear hK K
      clear y0 y1 y2 y3 y4 f0 f1 f2 f3 f4
      try simp only [List.getElem_toArray, List.getElem_cons_zero, List.getElem_cons_succ, Act.put, List.setIfInBounds_toArray, List.set_cons_zero, List.set_cons_succ]
      refine late.done (by kernel_rfl) ?_ _
      refine NoPanic.normal ?_
      clear hHeld
      have HAN := Lib.hid (HA1.out.put (by omega) HAC.out)
      have HXN : Hid (Only (fun _ => False) w (tre.put5 z1 g (k * 5) (.int .i64 at_) (.int .i64 ac) (.int .i64 ae) (.int .i64 au) (.int .i64 ah))) := Lib.hid ((HX.out.trans hot.out).then (tre.put5_only _ _ _ _ _ _ _ _) (fun q hq e => by have := HGW.out; have e : q = g := e; omega))
      obtain ⟨wz, hwz⟩ : ∃ y, y = tre.put5 z1 g (k * 5) (.int .i64 at_) (.int .i64 ac) (.int .i64 ae) (.int .i64 au) (.int .i64 ah) := ⟨_, rfl⟩
      rw [← hwz] at HAN HXN
      unfold tre.put5 at hwz
      rw [← hwz]
      clear hwz HA1 hot HAH HX HSL HAC
      go_wp2_with fail
      go_roundw
      case rel => exact ⟨k + 1, by omega, by go_num, HAN, HXN⟩
      case measure => (simp [intOf]; omega)
    · have hin : ¬ (k : Int) < (mn : Int) := by omega
      obtain rfl : mn = k := by omega
      have HCL := Lib.hid (HCH.out wx HX.out)
      clear HCH
      go_wp2_with fail
      refine HCL.out.mono ?_
      rintro _ w3 ⟨rfl, hb3, ho3⟩
      have HP3 := Lib.hid ((HPU.out.quiet HX.out).book hb3 hA' ho3)
      have HO3 : Hid (Only S w w3) := Lib.hid ((HX.out.mono (fun _ _ f => f.elim)).trans (ho3.mono (fun q _ e => by have e : q = pb := e; rw [e]; exact HPU.out.sb)))
      have HAH3 := Lib.hid (HAH.out.only ho3 (fun e => by have h1 := HPU.out.lt.2; have h2 := HGW.out; have e : g = pb := e; omega))
      clear hb3 ho3 HCL HAH
      by_cases hE : E = 0
      · subst hE
        have hk9 := hok rfl
        have HK := Lib.hid hk9
        have HR3 : Hid (ReadsI w3 a len path) := Lib.hid (HR.out.only HO3.out ha)
        have hle3 : len ≤ 3 := by have := hk9.n3; have := HLN.out; omega
        have HSZ3 := Lib.hid HO3.out.size
        have HPP := Lib.hid (ppost_any kind m gr hg a len cap path w3 HP3.out (fun q hq => by have := HSS.out q hq; have := HSZ3.out; omega) hL HR3.out hlc hcm)
        clear h0 hok hk9
        go_wp2_with fail
        refine HPP.out.mono ?_
        rintro _ w4 (⟨er, hne, rfl, ho4, hno⟩ | ⟨rfl, ls, x, hyes, hx1, hx2, hx3, hp4, ho4⟩)
        · have heb : (er == 0) = false := by rw [beq_eq_false_iff_ne]; exact hne
          have hen : (er != 0) = true := by rw [bne_iff_ne]; exact hne
          have HP4 := Lib.hid (HP3.out.quiet ho4)
          have HO4 : Hid (Only S w w4) := Lib.hid (HO3.out.trans (ho4.mono (fun _ _ f => f.elim)))
          have HAH4 := Lib.hid (HAH3.out.only ho4 (fun f => f))
          have HNO := Lib.hid hno
          clear hno ho4 HPP
          go_wp2_with fail
          go_loopw [54] (fun iv wx => ∃ k : Nat, k ≤ len ∧ iv = .int .i64 (k : Int) ∧ Hid (Pu S wx p pb pj (resT A A' (path.take k)) op C L) ∧ Hid (Only S w wx) ∧ Hid (AhAt wx g A path len)) (fun iv _ => len - (intOf iv).toNat)
          case atStart => exact ⟨0, by omega, rfl, HP4, HO4, Lib.hid ((show mn = len from by have := HMN.out; omega) ▸ HAH4.out)⟩
          case round =>
            clear HP4 HO4 HAH4 HAH3 HP3 HO3
            obtain ⟨i, hi, rfl, HPI, HOI, HAI⟩ := hrel
            rename World => wy
            by_cases h9 : i < len
            · have hil : (i : Int) < (len : Int) := by omega
              have hi0 : (0 : Int) ≤ (i : Int) := by omega
              have hi3 : (i : Int) < 3 := by omega
              obtain ⟨b, off, rfl, hcell⟩ := HR.out.2.2.2.resolve_left (by omega)
              have hci := HOI.out.cell' (hcell i h9) (show ¬ S b from ha _ rfl)
              have hmem : path.getD i 0 ∈ path := by
                rw [List.getD_eq_getElem?_getD, List.getElem?_eq_getElem (by have := HLN.out; omega)]; exact List.getElem_mem _
              have hnd := HK.out.nd _ hmem
              have HTK : Hid (resT A A' (path.take (i + 1)) = (resT A A' (path.take i)).set (path.getD i 0).toNat (A.getD (path.getD i 0).toNat fnd.zA)) := Lib.hid (by
                rw [← resT_snoc, List.take_add_one, List.getElem?_eq_getElem (by have := HLN.out; omega)]
                rw [List.getD_eq_getElem?_getD, List.getElem?_eq_getElem (by have := HLN.out; omega)]; rfl)
              obtain ⟨pk, hpk⟩ : ∃ x, path.getD i 0 = x := ⟨_, rfl⟩
              have hac := HAI.out.1 i h9
              rw [hpk] at hci hnd HTK hac
              have hag : fnd.acG A pk = A.getD pk.toNat fnd.zA := by unfold fnd.acG; rw [if_pos hnd]
              have hrt : fnd.Right (fnd.acG A pk) := fnd.acG_ok HPU.out.bok pk
              obtain ⟨ac, hacd⟩ : ∃ x, fnd.acG A pk = x := ⟨_, rfl⟩
              rw [← hag] at HTK
              rw [hacd] at hac hrt HTK
              have hse : fnd.setE pk ac = 0 := by unfold fnd.setE; rw [if_pos ⟨hnd, hrt⟩]
              have hsa : fnd.setA (resT A A' (path.take i)) pk ac = resT A A' (path.take (i + 1)) := by unfold fnd.setA; rw [if_pos hse, HTK.out]
              have HST : Hid (∀ w', Only (fun _ => False) wy w' → Calls Try.prog 52 #[.pointer (some ⟨pb, 0, none⟩), .int .i64 pk, fnd.aggA ac] w' (fnd.FDid pb (resT A A' (path.take (i + 1))) 0 w')) := Lib.hid (fun w' ho => by
                have h1 := fnd.set_any pb (resT A A' (path.take i)) pk ac w' (HPI.out.bk.only ho (fun f => f)) HPI.out.bok.len
                rw [hse, hsa] at h1
                exact h1)
              have HBOK : Hid (fnd.Bok (resT A A' (path.take (i + 1)))) := Lib.hid (by rw [← hsa]; exact HPI.out.bok.setA pk ac)
              obtain ⟨at_, ac, ae, au, ah⟩ := ac
              obtain ⟨d0, d1, d2, d3, d4⟩ := hac
              dsimp only at d0 d1 d2 d3 d4
              have HSL : Hid (∀ w', Only (fun _ => False) wy w' → w'.cell? ⟨p, 0, none⟩ = some (.pointer (some ⟨pb, 0, none⟩)) ∧ w'.cell? ⟨g, i * 5, none⟩ = some (.int .i64 at_) ∧ w'.cell? ⟨g, i * 5 + 1, none⟩ = some (.int .i64 ac) ∧ w'.cell? ⟨g, i * 5 + 2, none⟩ = some (.int .i64 ae) ∧ w'.cell? ⟨g, i * 5 + 3, none⟩ = some (.int .i64 au) ∧ w'.cell? ⟨g, i * 5 + 4, none⟩ = some (.int .i64 ah)) := Lib.hid (fun w' ho => ⟨ho.cell' HPI.out.c0 (fun f => f), ho.cell' d0 (fun f => f), ho.cell' d1 (fun f => f), ho.cell' d2 (fun f => f), ho.cell' d3 (fun f => f), ho.cell' d4 (fun f => f)⟩)
              unfold fnd.aggA at HST
              dsimp only at HST
              clear hcell hmem hnd HTK hag hrt hacd hse hsa d0 d1 d2 d3 d4
              go_upto_region 17 with fail
              clear hci hpk
              refine wp_region_noPanic ?_
              refine late.region (fun w' => w'.cell? ⟨p, 0, none⟩ = some (.pointer (some ⟨pb, 0, none⟩)) ∧ w'.cell? ⟨g, i * 5, none⟩ = some (.int .i64 at_) ∧ w'.cell? ⟨g, i * 5 + 1, none⟩ = some (.int .i64 ac) ∧ w'.cell? ⟨g, i * 5 + 2, none⟩ = some (.int .i64 ae) ∧ w'.cell? ⟨g, i * 5 + 3, none⟩ = some (.int .i64 au) ∧ w'.cell? ⟨g, i * 5 + 4, none⟩ = some (.int .i64 ah)) (fun j => [].contains j) (by kernel_rfl) (HSL.out _ (Only.refl _ _).drew) (fun hHeld => ?_)
              obtain ⟨z0, hz0'⟩ : ∃ x, x = wy.drew := ⟨_, rfl⟩
              rw [← hz0'] at hHeld ⊢
              have hot : Hid (Only (fun _ => False) wy z0) := Lib.hid (by rw [hz0']; exact (Only.refl _ _).drew)
              clear hz0'
              refine late.take (i := 0) [1, 2, 3, 8] (v := ?_) rfl (by kernel_rfl) (by kernel_rfl) (by kernel_rfl) (by kernel_rfl) (fun _ _ _ h => h) (Or.inl ⟨by rfl, ?_⟩) (by assumption) ?_
              rotate_left 1
              · intro w' hSw
                try dsimp only at hSw
                go_simp
                try with_reducible rfl
              try simp only [List.getElem_toArray, List.getElem_cons_zero, Act.put, List.setIfInBounds_toArray, List.set_cons_zero, List.set_cons_succ]
              refine late.take (i := 1) [2, 3, 8] (v := ?_) rfl (by kernel_rfl) (by kernel_rfl) (by kernel_rfl) (by kernel_rfl) (fun _ _ _ h => h) (Or.inl ⟨by rfl, ?_⟩) (by assumption) ?_
              rotate_left 1
              · intro w' hSw
                try dsimp only at hSw
                go_simp
                try with_reducible rfl
              try simp only [List.getElem_toArray, List.getElem_cons_zero, List.getElem_cons_succ, Act.put, List.setIfInBounds_toArray, List.set_cons_zero, List.set_cons_succ]
              refine late.take (i := 2) [3, 8] (v := ?_) rfl (by kernel_rfl) (by kernel_rfl) (by kernel_rfl) (by kernel_rfl) (fun _ _ _ h => h) (Or.inl ⟨by rfl, ?_⟩) (by assumption) ?_
              rotate_left 1
              · intro w' hSw
                try dsimp only at hSw
                go_simp
                try with_reducible rfl
              try simp only [List.getElem_toArray, List.getElem_cons_zero, List.getElem_cons_succ, Act.put, List.setIfInBounds_toArray, List.set_cons_zero, List.set_cons_succ]
              refine late.take (i := 3) [8] (v := ?_) rfl (by kernel_rfl) (by kernel_rfl) (by kernel_rfl) (by kernel_rfl) (fun _ _ _ h => h) (Or.inl ⟨by rfl, ?_⟩) (by assumption) ?_
              rotate_left 1
              · intro w' hSw
                try dsimp only at hSw
                go_simp
                try with_reducible rfl
              try simp only [List.getElem_toArray, List.getElem_cons_zero, List.getElem_cons_succ, Act.put, List.setIfInBounds_toArray, List.set_cons_zero, List.set_cons_succ]
              refine late.take (i := 4) [8] (v := ?_) rfl (by kernel_rfl) (by kernel_rfl) (by kernel_rfl) (by kernel_rfl) (fun _ _ _ h => h) (Or.inl ⟨by rfl, ?_⟩) (by assumption) ?_
              rotate_left 1
              · intro w' hSw
                try dsimp only at hSw
                go_simp
                try with_reducible rfl
              try simp only [List.getElem_toArray, List.getElem_cons_zero, List.getElem_cons_succ, Act.put, List.setIfInBounds_toArray, List.set_cons_zero, List.set_cons_succ]
              refine late.take (i := 5) [6, 7, 8] (v := ?_) rfl (by kernel_rfl) (by kernel_rfl) (by kernel_rfl) (by kernel_rfl) (fun _ _ _ h => h) (Or.inl ⟨by rfl, ?_⟩) (by assumption) ?_
              rotate_left 1
              · intro w' hSw
                try dsimp only at hSw
                go_simp
                try with_reducible rfl
              try simp only [List.getElem_toArray, List.getElem_cons_zero, List.getElem_cons_succ, Act.put, List.setIfInBounds_toArray, List.set_cons_zero, List.set_cons_succ]
              refine late.take (i := 6) [7, 8] (v := ?_) rfl (by kernel_rfl) (by kernel_rfl) (by kernel_rfl) (by kernel_rfl) (fun _ _ _ h => h) (Or.inl ⟨by rfl, ?_⟩) (by assumption) ?_
              rotate_left 1
              · intro w' hSw
                try dsimp only at hSw
                go_simp
                try with_reducible rfl
              try simp only [List.getElem_toArray, List.getElem_cons_zero, List.getElem_cons_succ, Act.put, List.setIfInBounds_toArray, List.set_cons_zero, List.set_cons_succ]
              refine late.take (i := 7) [8] (v := ?_) rfl (by kernel_rfl) (by kernel_rfl) (by kernel_rfl) (by kernel_rfl) (fun _ _ _ h => h) (Or.inl ⟨by rfl, ?_⟩) (by assumption) ?_
              rotate_left 1
              · intro w' hSw
                try dsimp only at hSw
                go_simp
                try with_reducible rfl
              try simp only [List.getElem_toArray, List.getElem_cons_zero, List.getElem_cons_succ, Act.put, List.setIfInBounds_toArray, List.set_cons_zero, List.set_cons_succ]
              refine late.ready (rs := [8]) (by kernel_rfl) (by simp) ?_
              refine late.Each.cons rfl (fun K hK => ?_) late.Each.nil
              try simp only [List.getElem_toArray, List.getElem_cons_zero, List.getElem_cons_succ]
              go_simp
              go_at_call 52
              with_reducible refine (HST.out _ hot.out).mono ?_
              rintro _ z1 ⟨rfl, hb, ho⟩
              have HPN := Lib.hid ((HPI.out.quiet hot.out).book hb HBOK.out ho)
              have hgp : ¬ g = pb := fun e => by have h1 := HPU.out.lt.2; have h2 := HGW.out; omega
              have HON : Hid (Only S w z1) := Lib.hid ((HOI.out.trans (hot.out.mono (fun _ _ f => f.elim))).trans (ho.mono (fun q _ e => by have e : q = pb := e; rw [e]; exact HPU.out.sb)))
              have HAN := Lib.hid ((HAI.out.only hot.out (fun f => f)).only ho hgp)
              have HSZ : Hid (z1.cell? ⟨p, 0, none⟩ = some (.pointer (some ⟨pb, 0, none⟩)) ∧ z1.cell? ⟨g, i * 5, none⟩ = some (.int .i64 at_) ∧ z1.cell? ⟨g, i * 5 + 1, none⟩ = some (.int .i64 ac) ∧ z1.cell? ⟨g, i * 5 + 2, none⟩ = some (.int .i64 ae) ∧ z1.cell? ⟨g, i * 5 + 3, none⟩ = some (.int .i64 au) ∧ z1.cell? ⟨g, i * 5 + 4, none⟩ = some (.int .i64 ah)) := Lib.hid (by
                obtain ⟨k0, k1, k2, k3, k4, k5⟩ := HSL.out _ hot.out
                exact ⟨ho.cell' k0 (fun e => HPU.out.ne e), ho.cell' k1 hgp, ho.cell' k2 hgp, ho.cell' k3 hgp, ho.cell' k4 hgp, ho.cell' k5 hgp⟩)
              clear hb ho hgp HST
              try dsimp only
              refine hK.out _ _ (fun _ => HSZ.out) (fun hHeld1 => ?_)
              replace hHeld1 := hHeld1 rfl
              clear hK K
              try simp only [List.getElem_toArray, List.getElem_cons_zero, List.getElem_cons_succ, Act.put, List.setIfInBounds_toArray, List.set_cons_zero, List.set_cons_succ]
              refine late.done (by kernel_rfl) ?_ _
              refine NoPanic.normal ?_
              clear hHeld
              clear hot HSL HSZ HPI HOI HAI HBOK
              go_wp2_with fail
              go_roundw
              case rel => exact ⟨i + 1, by omega, by go_num, HPN, HON, HAN⟩
              case measure => (simp [intOf]; omega)
            · have hil : ¬ (i : Int) < (len : Int) := by omega
              obtain rfl : len = i := by omega
              have hbk := HPI.out
              rw [List.take_of_length_le (by have := HLN.out; omega), HK.out.back HPU.out.bok.len hA'.len] at hbk
              have HEND : Hid (MvR S w p pb pj A op C L kind m gr path A' 0 (.returned (.int .i64 er)) wy) := Lib.hid (.inl ⟨er, hne, rfl, hbk, HOI.out, .inr ⟨rfl, HNO.out⟩⟩)
              clear hbk HPI HOI HAI HNO
              go_wp2_with fail
              go_ret
              exact HEND.out
        · have HEND : Hid (MvR S w p pb pj A op C L kind m gr path A' 0 (.returned (.int .i64 0)) w4) := Lib.hid (.inr ⟨rfl, rfl, ls, x, hyes, hx1, hx2, hx3, hp4.mono (fun q _ hq => hq.imp (fun y => y) (fun y => by have := HSZ3.out; omega)), HO3.out.trans (ho4.mono (fun q _ hq => hq.1))⟩)
          clear hyes hx1 hx2 hx3 hp4 ho4 HPP HP3 HAH3 HO3
          go_wp2_with fail
          go_ret
          exact HEND.out
      · have heb : (E == 0) = false := by rw [beq_eq_false_iff_ne]; exact hE
        have hen : (E != 0) = true := by rw [bne_iff_ne]; exact hE
        have HEND : Hid (MvR S w p pb pj A op C L kind m gr path A' E (.returned (.int .i64 E)) w3) := Lib.hid (.inl ⟨E, hE, rfl, by have h9 := HP3.out; rw [h0 hE] at h9; exact h9, HO3.out, .inl rfl⟩)
        clear HP3 HAH3 HO3 h0 hok hE
        go_wp2_with fail
        go_ret
        exact HEND.out
end Go.Proofs.Ytkbaafgaaiekpaa.puw

namespace Go.Proofs.Ytkbaafgaaiekpaa.puw
open Go.RowKit mem
set_option linter.unusedVariables false

theorem MvR.frm {S : Nat → Prop} {w w1 w' : World} {p pb pj : Nat} {A A' : List fnd.Ac} {op : Nat} {C : AcC → Option (List Int)} {L : List jnw.Ps} {kind m gr E : Int} {path : List Int} {e : Ending} (ho : Only (fun _ => False) w w1) (h : MvR S w1 p pb pj A op C L kind m gr path A' E e w') : MvR S w p pb pj A op C L kind m gr path A' E e w' := by
  have hs := ho.size
  rcases h with ⟨er, h1, h2, h3, h4, h5⟩ | ⟨h1, h2, ls, x, h3, h4, h5, h6, h7, h8⟩
  · exact .inl ⟨er, h1, h2, h3, (ho.mono (fun _ _ f => f.elim)).trans h4, h5⟩
  · exact .inr ⟨h1, h2, ls, x, h3, h4, h5, h6, h7.mono (fun q _ hq => hq.imp (fun y => y) (fun y => by omega)), (ho.mono (fun _ _ f => f.elim)).trans h8⟩
theorem ch_top {A : List fnd.Ac} (hA : A.length = 33) (n x : Int) (h : fnd.topE A n x = 0) : ChOk [n] A (fnd.topA A n x) := by
  have hn : fnd.NodeOk n := by
    unfold fnd.topE at h
    by_cases e : fnd.NodeOk n ∧ fnd.AmtOk x
    · exact e.1
    · rw [if_neg e] at h; exact absurd h (by decide)
  obtain ⟨h1, h2⟩ := hn
  refine ⟨by simp, fun m hm => by rw [List.mem_singleton] at hm; rw [hm]; exact ⟨h1, h2⟩, fun k hk => ?_⟩
  unfold fnd.topA
  rw [if_pos h, fnd.getA_set _ _ _ _ (by omega), if_neg (fun e => hk n (by simp) e.symm)]
theorem path_nodes {l : List Int} (h : fnd.PathOk l) : l.length ≤ 3 ∧ ∀ n ∈ l, fnd.NodeOk n := by
  refine ⟨h.1.2, fun n hn => ?_⟩
  obtain ⟨i, hi, rfl⟩ := List.mem_iff_getElem.1 hn
  have := (h.2 i hi).1
  rwa [List.getD_eq_getElem?_getD, List.getElem?_eq_getElem hi] at this
theorem ch_sh {A : List fnd.Ac} (l : List Int) (x dh du : Int) (h : fnd.shE A l x dh du = 0) : ChOk l A (fnd.shA A l x dh du) := by
  have hp : fnd.PathOk l := by
    unfold fnd.shE at h
    by_cases e : fnd.PathOk l ∧ fnd.AmtOk x
    · exact e.1
    · rw [if_neg e] at h; exact absurd h (by decide)
  obtain ⟨h1, h2⟩ := path_nodes hp
  refine ⟨h1, h2, fun k hk => ?_⟩
  unfold fnd.shA
  rw [if_pos h]
  exact fnd.shT_other k l A dh du hk
theorem ch_hold {A : List fnd.Ac} (l ls : List Int) (x : Int) (h : fnd.holdE A l ls x = 0) : ChOk l A (fnd.holdA A l ls x) := by
  have hp : fnd.PathOk l := by
    unfold fnd.holdE at h
    by_cases e : (fnd.PathOk l ∧ ls.length = l.length ∧ fnd.LOk ls ls.length) ∧ fnd.AmtOk x
    · exact e.1.1
    · rw [if_neg e] at h; exact absurd h (by decide)
  obtain ⟨h1, h2⟩ := path_nodes hp
  refine ⟨h1, h2, fun k hk => ?_⟩
  unfold fnd.holdA
  rw [if_pos h]
  exact fnd.shT_other k l A x 0 hk
theorem gr0_in : entw.InI 0 := by unfold entw.InI; omega
set_option maxRecDepth 100000 in
set_option maxHeartbeats 4000000 in
theorem cptop_any (p pb : Nat) (A : List fnd.Ac) (n x : Int) (x0 x1 x2 : Nat) (z : World) (h0 : z.cell? ⟨p, 0, none⟩ = some (.pointer (some ⟨pb, 0, none⟩))) (h1 : z.cell? ⟨x0, 0, none⟩ = some (.pointer (some ⟨p, 0, none⟩))) (h2 : z.cell? ⟨x1, 0, none⟩ = some (.int .i64 n)) (h3 : z.cell? ⟨x2, 0, none⟩ = some (.int .i64 x)) (hne : p ≠ pb) (hx0 : x0 ≠ pb) (hx1 : x1 ≠ pb) (hx2 : x2 ≠ pb) (hbk : fnd.BkAt z pb A) (hok : fnd.Bok A)  :
    Calls Try.prog 27 #[.pointer (some ⟨x0, 0, none⟩), .pointer (some ⟨x1, 0, none⟩), .pointer (some ⟨x2, 0, none⟩)] z (fnd.FDid pb (fnd.topA A n x) (fnd.topE A n x) z) := by
  have HCB : Hid (∀ w', Only (fun _ => False) z w' → Calls Try.prog 28 #[.pointer (some ⟨pb, 0, none⟩), .int .i64 n, .int .i64 x] w' (fnd.FDid pb (fnd.topA A n x) (fnd.topE A n x) w')) := Lib.hid (fun w' ho => fnd.topup_any pb A n x w' (hbk.only ho (fun f => f)) (hok))
  have HSL : Hid (∀ w', Only (fun _ => False) z w' → w'.cell? ⟨p, 0, none⟩ = some (.pointer (some ⟨pb, 0, none⟩)) ∧ w'.cell? ⟨x0, 0, none⟩ = some (.pointer (some ⟨p, 0, none⟩)) ∧ w'.cell? ⟨x1, 0, none⟩ = some (.int .i64 n) ∧ w'.cell? ⟨x2, 0, none⟩ = some (.int .i64 x)) := Lib.hid (fun w' ho => ⟨ho.cell' h0 (fun f => f), ho.cell' h1 (fun f => f), ho.cell' h2 (fun f => f), ho.cell' h3 (fun f => f)⟩)
  have HSF : Hid (∀ w', Only (fun _ => False) z w' → ∀ w2, Only (fun q => q = pb) w' w2 → w2.cell? ⟨p, 0, none⟩ = some (.pointer (some ⟨pb, 0, none⟩)) ∧ w2.cell? ⟨x0, 0, none⟩ = some (.pointer (some ⟨p, 0, none⟩)) ∧ w2.cell? ⟨x1, 0, none⟩ = some (.int .i64 n) ∧ w2.cell? ⟨x2, 0, none⟩ = some (.int .i64 x)) := Lib.hid (fun w' ho w2 ho2 => ⟨ho2.cell' (ho.cell' h0 (fun f => f)) hne, ho2.cell' (ho.cell' h1 (fun f => f)) hx0, ho2.cell' (ho.cell' h2 (fun f => f)) hx1, ho2.cell' (ho.cell' h3 (fun f => f)) hx2⟩)
  clear h0 h1 h2 h3 hbk hok
  go_enter Try.func27, Try.ntmps27
  go_upto_region 1 with fail
  refine wp_region_noPanic ?_
  refine late.region (fun w' => w'.cell? ⟨p, 0, none⟩ = some (.pointer (some ⟨pb, 0, none⟩)) ∧ w'.cell? ⟨x0, 0, none⟩ = some (.pointer (some ⟨p, 0, none⟩)) ∧ w'.cell? ⟨x1, 0, none⟩ = some (.int .i64 n) ∧ w'.cell? ⟨x2, 0, none⟩ = some (.int .i64 x)) (fun j => [].contains j) (by kernel_rfl) (HSL.out _ (Only.refl _ _).drew) (fun hHeld => ?_)
  obtain ⟨z0, hz0'⟩ : ∃ x, x = z.drew := ⟨_, rfl⟩
  rw [← hz0'] at hHeld ⊢
  have hot : Hid (Only (fun _ => False) z z0) := Lib.hid (by rw [hz0']; exact (Only.refl _ _).drew)
  clear hz0'
  refine late.take (i := 0) [1, 2, 3, 6, 7] (v := ?_) rfl (by kernel_rfl) (by kernel_rfl) (by kernel_rfl) (by kernel_rfl) (fun _ _ _ h => h) (Or.inl ⟨by rfl, ?_⟩) (by assumption) ?_
  rotate_left 1
  · intro w' hSw
    try dsimp only at hSw
    go_simp
    try with_reducible rfl
  try simp only [List.getElem_toArray, List.getElem_cons_zero, Act.put, List.setIfInBounds_toArray, List.set_cons_zero, List.set_cons_succ]
  refine late.take (i := 1) [2, 3, 6, 7] (v := ?_) rfl (by kernel_rfl) (by kernel_rfl) (by kernel_rfl) (by kernel_rfl) (fun _ _ _ h => h) (Or.inl ⟨by rfl, ?_⟩) (by assumption) ?_
  rotate_left 1
  · intro w' hSw
    try dsimp only at hSw
    go_simp
    try with_reducible rfl
  try simp only [List.getElem_toArray, List.getElem_cons_zero, List.getElem_cons_succ, Act.put, List.setIfInBounds_toArray, List.set_cons_zero, List.set_cons_succ]
  refine late.take (i := 2) [3, 6, 7] (v := ?_) rfl (by kernel_rfl) (by kernel_rfl) (by kernel_rfl) (by kernel_rfl) (fun _ _ _ h => h) (Or.inl ⟨by rfl, ?_⟩) (by assumption) ?_
  rotate_left 1
  · intro w' hSw
    try dsimp only at hSw
    go_simp
    try with_reducible rfl
  try simp only [List.getElem_toArray, List.getElem_cons_zero, List.getElem_cons_succ, Act.put, List.setIfInBounds_toArray, List.set_cons_zero, List.set_cons_succ]
  refine late.take (i := 3) [6, 7] (v := ?_) rfl (by kernel_rfl) (by kernel_rfl) (by kernel_rfl) (by kernel_rfl) (fun _ _ _ h => h) (Or.inl ⟨by rfl, ?_⟩) (by assumption) ?_
  rotate_left 1
  · intro w' hSw
    try dsimp only at hSw
    go_simp
    try with_reducible rfl
  try simp only [List.getElem_toArray, List.getElem_cons_zero, List.getElem_cons_succ, Act.put, List.setIfInBounds_toArray, List.set_cons_zero, List.set_cons_succ]
  refine late.take (i := 4) [6, 7] (v := ?_) rfl (by kernel_rfl) (by kernel_rfl) (by kernel_rfl) (by kernel_rfl) (fun _ _ _ h => h) (Or.inl ⟨by rfl, ?_⟩) (by assumption) ?_
  rotate_left 1
  · intro w' hSw
    try dsimp only at hSw
    go_simp
    try with_reducible rfl
  try simp only [List.getElem_toArray, List.getElem_cons_zero, List.getElem_cons_succ, Act.put, List.setIfInBounds_toArray, List.set_cons_zero, List.set_cons_succ]
  refine late.take (i := 5) [6, 7] (v := ?_) rfl (by kernel_rfl) (by kernel_rfl) (by kernel_rfl) (by kernel_rfl) (fun _ _ _ h => h) (Or.inl ⟨by rfl, ?_⟩) (by assumption) ?_
  rotate_left 1
  · intro w' hSw
    try dsimp only at hSw
    go_simp
    try with_reducible rfl
  try simp only [List.getElem_toArray, List.getElem_cons_zero, List.getElem_cons_succ, Act.put, List.setIfInBounds_toArray, List.set_cons_zero, List.set_cons_succ]
  refine late.ready (rs := [6]) (by kernel_rfl) (by simp) ?_
  refine late.Each.cons rfl (fun K hK => ?_) late.Each.nil
  try simp only [List.getElem_toArray, List.getElem_cons_zero, List.getElem_cons_succ]
  go_simp
  go_at_call 28
  with_reducible refine (HCB.out _ hot.out).mono ?_
  rintro _ z1 ⟨rfl, hb, ho⟩
  have HEND : Hid (fnd.FDid pb (fnd.topA A n x) (fnd.topE A n x) z (.returned (.int .i64 (fnd.topE A n x))) z1) := Lib.hid ⟨rfl, hb, (hot.out.mono (fun _ _ f => f.elim)).trans ho⟩
  have HSZ := Lib.hid (HSF.out _ hot.out _ ho)
  clear hb ho hot HCB
  try dsimp only
  refine hK.out _ _ (fun _ => HSZ.out) (fun hHeld1 => ?_)
  replace hHeld1 := hHeld1 rfl
  clear hK K
  try simp only [List.getElem_toArray, List.getElem_cons_zero, List.getElem_cons_succ, Act.put, List.setIfInBounds_toArray, List.set_cons_zero, List.set_cons_succ]
  refine late.take (i := 7) [] (v := ?_) rfl (by kernel_rfl) (by kernel_rfl) (by kernel_rfl) (by kernel_rfl) (fun _ _ _ h => h) (Or.inl ⟨by rfl, ?_⟩) (by assumption) ?_
  rotate_left 1
  · intro w' hSw
    try dsimp only at hSw
    go_simp
    try with_reducible rfl
  try simp only [List.getElem_toArray, List.getElem_cons_zero, List.getElem_cons_succ, Act.put, List.setIfInBounds_toArray, List.set_cons_zero, List.set_cons_succ]
  refine late.done (by kernel_rfl) ?_ _
  refine NoPanic.normal ?_
  clear hHeld HSZ HSF HSL
  go_wp2_with fail
  go_ret
  exact HEND.out
set_option maxRecDepth 100000 in
set_option maxHeartbeats 4000000 in
theorem ptop_any {S : Nat → Prop} {p pb pj : Nat} {A : List fnd.Ac} {op : Nat} {C : AcC → Option (List Int)} {L : List jnw.Ps} (n x : Int) (w : World) (h : Pu S w p pb pj A op C L) (hS : ∀ q, S q → q < w.heap.size) (hL : L.length < 16384) (hn : entw.InI n) :
    Calls Try.prog 8 #[.pointer (some ⟨p, 0, none⟩), .int .i64 n, .int .i64 x] w (MvR S w p pb pj A op C L 1 x 0 [n] (fnd.topA A n x) (fnd.topE A n x)) := by
  obtain ⟨w1, hw1⟩ : ∃ y, y = (((w.alloc (.cells #[.pointer (some ⟨p, 0, none⟩)] 22)).alloc (.cells #[.int .i64 n] 3)).alloc (.cells #[.int .i64 x] 3)) := ⟨_, rfl⟩
  obtain ⟨x0, hx0⟩ : ∃ y, y = w.heap.size := ⟨_, rfl⟩
  obtain ⟨x1, hx1⟩ : ∃ y, y = x0 + 1 := ⟨_, rfl⟩
  obtain ⟨x2, hx2⟩ : ∃ y, y = x1 + 1 := ⟨_, rfl⟩
  have ho1 : Only (fun _ => False) w w1 := by rw [hw1]; exact (((Only.refl _ _).alloc _).alloc _).alloc _
  have k0 : w1.cell? ⟨x0, 0, none⟩ = some (.pointer (some ⟨p, 0, none⟩)) := by rw [hw1]; exact (((Only.refl (fun _ => False) _).alloc _).alloc _).cell' (tre.alloc_cell (w := w) (by simp [hx0]) rfl) (fun f => f)
  have k1 : w1.cell? ⟨x1, 0, none⟩ = some (.int .i64 n) := by rw [hw1]; exact ((Only.refl (fun _ => False) _).alloc _).cell' (tre.alloc_cell (w := (w.alloc (.cells #[.pointer (some ⟨p, 0, none⟩)] 22))) (by simp [hx0, hx1]) rfl) (fun f => f)
  have k2 : w1.cell? ⟨x2, 0, none⟩ = some (.int .i64 x) := by rw [hw1]; exact (Only.refl (fun _ => False) _).cell' (tre.alloc_cell (w := ((w.alloc (.cells #[.pointer (some ⟨p, 0, none⟩)] 22)).alloc (.cells #[.int .i64 n] 3))) (by simp [hx0, hx1, hx2]) rfl) (fun f => f)
  have HP1 := Lib.hid (h.quiet ho1)
  have HO1 := Lib.hid ho1
  have hxs : w.heap.size ≤ x0 := by omega
  have hnx : ∀ i : Nat, w.heap.size ≤ i → i ≠ pb := fun i hi e => by have := h.lt.2; omega
  obtain ⟨w2, hw2⟩ : ∃ y, y = w1.alloc (.cells #[.int .i64 n] 3) := ⟨_, rfl⟩
  obtain ⟨g2, hg2⟩ : ∃ y, y = w1.heap.size := ⟨_, rfl⟩
  have ho2 : Only (fun _ => False) w1 w2 := by rw [hw2]; exact (Only.refl _ _).alloc _
  have hr2 : ReadsI w2 (some ⟨g2, 0, none⟩) 1 [n] := ⟨rfl, by unfold maxLen; omega, fun c hc => by rw [List.mem_singleton] at hc; rw [hc]; exact hn, .inr ⟨g2, 0, rfl, fun i hi => by
      obtain rfl : i = 0 := by omega
      rw [hw2]; exact tre.alloc_cell hg2 rfl⟩⟩
  have HMV := Lib.hid (move_top 1 x 0 gr0_in (some ⟨g2, 0, none⟩) 1 1 [n] x0 x1 x2 (fnd.topA A n x) (fnd.topE A n x) w2 (h.quiet (ho1.trans ho2)) (fun q hq => by have := hS q hq; have := (ho1.trans ho2).size; omega) hL hr2 (by omega) (by omega) (fun y e s => by injection e with e; have h2 := hS _ s; have h3 := ho1.size; rw [← e] at h2; have h2 : g2 < w.heap.size := h2; omega) (fun w' ho => cptop_any p pb A n x x0 x1 x2 w' (((ho1.trans ho2).trans ho).cell' h.c0 (fun f => f)) ((ho2.trans ho).cell' k0 (fun f => f)) ((ho2.trans ho).cell' k1 (fun f => f)) ((ho2.trans ho).cell' k2 (fun f => f)) h.ne (hnx _ (by omega)) (hnx _ (by omega)) (hnx _ (by omega)) (h.bk.only ((ho1.trans ho2).trans ho) (fun f => f)) h.bok) (h.bok.topA n x) (fun e => by unfold fnd.topA; rw [if_neg e]) (ch_top h.bok.len n x))
  have HO2 := Lib.hid (ho1.trans ho2)
  have HXE : Hid (x0 = w.heap.size ∧ x1 = w.heap.size + 1 ∧ x2 = w.heap.size + 2) := Lib.hid (by omega)
  clear h hS hnx
  go_enter Try.func8, Try.ntmps8
  go_upto_region 1 with fail
  simp only [← hw1]
  simp only [← hx0]
  try simp only [← hx1]
  try simp only [← hx2]
  clear hw1 hx0 hx1 hx2 hxs ho1
  go_wp2_with fail
  try simp only [← hw2, ← hg2]
  refine HMV.out.mono ?_
  rintro _ w3 hmv
  have HMR := Lib.hid (MvR.frm HO2.out hmv)
  clear HMV
  rcases hmv with ⟨er, hne, rfl, -⟩ | ⟨-, rfl, -⟩
  · go_wp2_with fail
    go_ret
    exact HMR.out
  · go_wp2_with fail
    go_ret
    exact HMR.out
set_option maxRecDepth 100000 in
set_option maxHeartbeats 4000000 in
theorem cphold_any (p pb : Nat) (A : List fnd.Ac) (a : Option Addr) (len cap : Nat) (l : List Int) (a2 : Option Addr) (m c2 : Nat) (ls : List Int) (x : Int) (x0 x1 x2 x3 : Nat) (z : World) (h0 : z.cell? ⟨p, 0, none⟩ = some (.pointer (some ⟨pb, 0, none⟩))) (h1 : z.cell? ⟨x0, 0, none⟩ = some (.pointer (some ⟨p, 0, none⟩))) (h2 : z.cell? ⟨x1, 0, none⟩ = some (.slice a len cap)) (h3 : z.cell? ⟨x2, 0, none⟩ = some (.slice a2 m c2)) (h4 : z.cell? ⟨x3, 0, none⟩ = some (.int .i64 x)) (hne : p ≠ pb) (hx0 : x0 ≠ pb) (hx1 : x1 ≠ pb) (hx2 : x2 ≠ pb) (hx3 : x3 ≠ pb) (hbk : fnd.BkAt z pb A) (hok : fnd.Bok A) (hr : ReadsI z a len l) (hlc : len ≤ cap) (hr2 : ReadsI z a2 m ls) (hap : ∀ y, a = some y → y.block ≠ pb) :
    Calls Try.prog 37 #[.pointer (some ⟨x0, 0, none⟩), .pointer (some ⟨x1, 0, none⟩), .pointer (some ⟨x2, 0, none⟩), .pointer (some ⟨x3, 0, none⟩)] z (fnd.FDid pb (fnd.holdA A l ls x) (fnd.holdE A l ls x) z) := by
  have HCB : Hid (∀ w', Only (fun _ => False) z w' → Calls Try.prog 38 #[.pointer (some ⟨pb, 0, none⟩), .slice a len cap, .slice a2 m c2, .int .i64 x] w' (fnd.FDid pb (fnd.holdA A l ls x) (fnd.holdE A l ls x) w')) := Lib.hid (fun w' ho => fnd.hold_any pb A a len cap l a2 m c2 ls x w' (hbk.only ho (fun f => f)) (hok) (hr.only ho (fun _ _ f => f)) hlc (hr2.only ho (fun _ _ f => f)) hap)
  have HSL : Hid (∀ w', Only (fun _ => False) z w' → w'.cell? ⟨p, 0, none⟩ = some (.pointer (some ⟨pb, 0, none⟩)) ∧ w'.cell? ⟨x0, 0, none⟩ = some (.pointer (some ⟨p, 0, none⟩)) ∧ w'.cell? ⟨x1, 0, none⟩ = some (.slice a len cap) ∧ w'.cell? ⟨x2, 0, none⟩ = some (.slice a2 m c2) ∧ w'.cell? ⟨x3, 0, none⟩ = some (.int .i64 x)) := Lib.hid (fun w' ho => ⟨ho.cell' h0 (fun f => f), ho.cell' h1 (fun f => f), ho.cell' h2 (fun f => f), ho.cell' h3 (fun f => f), ho.cell' h4 (fun f => f)⟩)
  have HSF : Hid (∀ w', Only (fun _ => False) z w' → ∀ w2, Only (fun q => q = pb) w' w2 → w2.cell? ⟨p, 0, none⟩ = some (.pointer (some ⟨pb, 0, none⟩)) ∧ w2.cell? ⟨x0, 0, none⟩ = some (.pointer (some ⟨p, 0, none⟩)) ∧ w2.cell? ⟨x1, 0, none⟩ = some (.slice a len cap) ∧ w2.cell? ⟨x2, 0, none⟩ = some (.slice a2 m c2) ∧ w2.cell? ⟨x3, 0, none⟩ = some (.int .i64 x)) := Lib.hid (fun w' ho w2 ho2 => ⟨ho2.cell' (ho.cell' h0 (fun f => f)) hne, ho2.cell' (ho.cell' h1 (fun f => f)) hx0, ho2.cell' (ho.cell' h2 (fun f => f)) hx1, ho2.cell' (ho.cell' h3 (fun f => f)) hx2, ho2.cell' (ho.cell' h4 (fun f => f)) hx3⟩)
  clear h0 h1 h2 h3 h4 hbk hok hr hr2 hap
  go_enter Try.func37, Try.ntmps37
  go_upto_region 1 with fail
  refine wp_region_noPanic ?_
  refine late.region (fun w' => w'.cell? ⟨p, 0, none⟩ = some (.pointer (some ⟨pb, 0, none⟩)) ∧ w'.cell? ⟨x0, 0, none⟩ = some (.pointer (some ⟨p, 0, none⟩)) ∧ w'.cell? ⟨x1, 0, none⟩ = some (.slice a len cap) ∧ w'.cell? ⟨x2, 0, none⟩ = some (.slice a2 m c2) ∧ w'.cell? ⟨x3, 0, none⟩ = some (.int .i64 x)) (fun j => [].contains j) (by kernel_rfl) (HSL.out _ (Only.refl _ _).drew) (fun hHeld => ?_)
  obtain ⟨z0, hz0'⟩ : ∃ x, x = z.drew := ⟨_, rfl⟩
  rw [← hz0'] at hHeld ⊢
  have hot : Hid (Only (fun _ => False) z z0) := Lib.hid (by rw [hz0']; exact (Only.refl _ _).drew)
  clear hz0'
  refine late.take (i := 0) [1, 2, 3, 7, 8] (v := ?_) rfl (by kernel_rfl) (by kernel_rfl) (by kernel_rfl) (by kernel_rfl) (fun _ _ _ h => h) (Or.inl ⟨by rfl, ?_⟩) (by assumption) ?_
  rotate_left 1
  · intro w' hSw
    try dsimp only at hSw
    go_simp
    try with_reducible rfl
  try simp only [List.getElem_toArray, List.getElem_cons_zero, Act.put, List.setIfInBounds_toArray, List.set_cons_zero, List.set_cons_succ]
  refine late.take (i := 1) [2, 3, 7, 8] (v := ?_) rfl (by kernel_rfl) (by kernel_rfl) (by kernel_rfl) (by kernel_rfl) (fun _ _ _ h => h) (Or.inl ⟨by rfl, ?_⟩) (by assumption) ?_
  rotate_left 1
  · intro w' hSw
    try dsimp only at hSw
    go_simp
    try with_reducible rfl
  try simp only [List.getElem_toArray, List.getElem_cons_zero, List.getElem_cons_succ, Act.put, List.setIfInBounds_toArray, List.set_cons_zero, List.set_cons_succ]
  refine late.take (i := 2) [3, 7, 8] (v := ?_) rfl (by kernel_rfl) (by kernel_rfl) (by kernel_rfl) (by kernel_rfl) (fun _ _ _ h => h) (Or.inl ⟨by rfl, ?_⟩) (by assumption) ?_
  rotate_left 1
  · intro w' hSw
    try dsimp only at hSw
    go_simp
    try with_reducible rfl
  try simp only [List.getElem_toArray, List.getElem_cons_zero, List.getElem_cons_succ, Act.put, List.setIfInBounds_toArray, List.set_cons_zero, List.set_cons_succ]
  refine late.take (i := 3) [7, 8] (v := ?_) rfl (by kernel_rfl) (by kernel_rfl) (by kernel_rfl) (by kernel_rfl) (fun _ _ _ h => h) (Or.inl ⟨by rfl, ?_⟩) (by assumption) ?_
  rotate_left 1
  · intro w' hSw
    try dsimp only at hSw
    go_simp
    try with_reducible rfl
  try simp only [List.getElem_toArray, List.getElem_cons_zero, List.getElem_cons_succ, Act.put, List.setIfInBounds_toArray, List.set_cons_zero, List.set_cons_succ]
  refine late.take (i := 4) [7, 8] (v := ?_) rfl (by kernel_rfl) (by kernel_rfl) (by kernel_rfl) (by kernel_rfl) (fun _ _ _ h => h) (Or.inl ⟨by rfl, ?_⟩) (by assumption) ?_
  rotate_left 1
  · intro w' hSw
    try dsimp only at hSw
    go_simp
    try with_reducible rfl
  try simp only [List.getElem_toArray, List.getElem_cons_zero, List.getElem_cons_succ, Act.put, List.setIfInBounds_toArray, List.set_cons_zero, List.set_cons_succ]
  refine late.take (i := 5) [7, 8] (v := ?_) rfl (by kernel_rfl) (by kernel_rfl) (by kernel_rfl) (by kernel_rfl) (fun _ _ _ h => h) (Or.inl ⟨by rfl, ?_⟩) (by assumption) ?_
  rotate_left 1
  · intro w' hSw
    try dsimp only at hSw
    go_simp
    try with_reducible rfl
  try simp only [List.getElem_toArray, List.getElem_cons_zero, List.getElem_cons_succ, Act.put, List.setIfInBounds_toArray, List.set_cons_zero, List.set_cons_succ]
  refine late.take (i := 6) [7, 8] (v := ?_) rfl (by kernel_rfl) (by kernel_rfl) (by kernel_rfl) (by kernel_rfl) (fun _ _ _ h => h) (Or.inl ⟨by rfl, ?_⟩) (by assumption) ?_
  rotate_left 1
  · intro w' hSw
    try dsimp only at hSw
    go_simp
    try with_reducible rfl
  try simp only [List.getElem_toArray, List.getElem_cons_zero, List.getElem_cons_succ, Act.put, List.setIfInBounds_toArray, List.set_cons_zero, List.set_cons_succ]
  refine late.ready (rs := [7]) (by kernel_rfl) (by simp) ?_
  refine late.Each.cons rfl (fun K hK => ?_) late.Each.nil
  try simp only [List.getElem_toArray, List.getElem_cons_zero, List.getElem_cons_succ]
  go_simp
  go_at_call 38
  with_reducible refine (HCB.out _ hot.out).mono ?_
  rintro _ z1 ⟨rfl, hb, ho⟩
  have HEND : Hid (fnd.FDid pb (fnd.holdA A l ls x) (fnd.holdE A l ls x) z (.returned (.int .i64 (fnd.holdE A l ls x))) z1) := Lib.hid ⟨rfl, hb, (hot.out.mono (fun _ _ f => f.elim)).trans ho⟩
  have HSZ := Lib.hid (HSF.out _ hot.out _ ho)
  clear hb ho hot HCB
  try dsimp only
  refine hK.out _ _ (fun _ => HSZ.out) (fun hHeld1 => ?_)
  replace hHeld1 := hHeld1 rfl
  clear hK K
  try simp only [List.getElem_toArray, List.getElem_cons_zero, List.getElem_cons_succ, Act.put, List.setIfInBounds_toArray, List.set_cons_zero, List.set_cons_succ]
  refine late.take (i := 8) [] (v := ?_) rfl (by kernel_rfl) (by kernel_rfl) (by kernel_rfl) (by kernel_rfl) (fun _ _ _ h => h) (Or.inl ⟨by rfl, ?_⟩) (by assumption) ?_
  rotate_left 1
  · intro w' hSw
    try dsimp only at hSw
    go_simp
    try with_reducible rfl
  try simp only [List.getElem_toArray, List.getElem_cons_zero, List.getElem_cons_succ, Act.put, List.setIfInBounds_toArray, List.set_cons_zero, List.set_cons_succ]
  refine late.done (by kernel_rfl) ?_ _
  refine NoPanic.normal ?_
  clear hHeld HSZ HSF HSL
  go_wp2_with fail
  go_ret
  exact HEND.out
set_option maxRecDepth 100000 in
set_option maxHeartbeats 4000000 in
theorem phold_any {S : Nat → Prop} {p pb pj : Nat} {A : List fnd.Ac} {op : Nat} {C : AcC → Option (List Int)} {L : List jnw.Ps} (a : Option Addr) (len cap : Nat) (l : List Int) (a2 : Option Addr) (m c2 : Nat) (ls : List Int) (x : Int) (w : World) (h : Pu S w p pb pj A op C L) (hS : ∀ q, S q → q < w.heap.size) (hL : L.length < 16384) (hr : ReadsI w a len l) (hlc : len ≤ cap) (hcm : cap ≤ 9223372036854775807) (hr2 : ReadsI w a2 m ls) (ha : ∀ y, a = some y → ¬ S y.block) :
    Calls Try.prog 13 #[.pointer (some ⟨p, 0, none⟩), .slice a len cap, .slice a2 m c2, .int .i64 x] w (MvR S w p pb pj A op C L 2 x 0 l (fnd.holdA A l ls x) (fnd.holdE A l ls x)) := by
  obtain ⟨w1, hw1⟩ : ∃ y, y = ((((w.alloc (.cells #[.pointer (some ⟨p, 0, none⟩)] 22)).alloc (.cells #[.slice a len cap] 28)).alloc (.cells #[.slice a2 m c2] 28)).alloc (.cells #[.int .i64 x] 3)) := ⟨_, rfl⟩
  obtain ⟨x0, hx0⟩ : ∃ y, y = w.heap.size := ⟨_, rfl⟩
  obtain ⟨x1, hx1⟩ : ∃ y, y = x0 + 1 := ⟨_, rfl⟩
  obtain ⟨x2, hx2⟩ : ∃ y, y = x1 + 1 := ⟨_, rfl⟩
  obtain ⟨x3, hx3⟩ : ∃ y, y = x2 + 1 := ⟨_, rfl⟩
  have ho1 : Only (fun _ => False) w w1 := by rw [hw1]; exact ((((Only.refl _ _).alloc _).alloc _).alloc _).alloc _
  have k0 : w1.cell? ⟨x0, 0, none⟩ = some (.pointer (some ⟨p, 0, none⟩)) := by rw [hw1]; exact ((((Only.refl (fun _ => False) _).alloc _).alloc _).alloc _).cell' (tre.alloc_cell (w := w) (by simp [hx0]) rfl) (fun f => f)
  have k1 : w1.cell? ⟨x1, 0, none⟩ = some (.slice a len cap) := by rw [hw1]; exact (((Only.refl (fun _ => False) _).alloc _).alloc _).cell' (tre.alloc_cell (w := (w.alloc (.cells #[.pointer (some ⟨p, 0, none⟩)] 22))) (by simp [hx0, hx1]) rfl) (fun f => f)
  have k2 : w1.cell? ⟨x2, 0, none⟩ = some (.slice a2 m c2) := by rw [hw1]; exact ((Only.refl (fun _ => False) _).alloc _).cell' (tre.alloc_cell (w := ((w.alloc (.cells #[.pointer (some ⟨p, 0, none⟩)] 22)).alloc (.cells #[.slice a len cap] 28))) (by simp [hx0, hx1, hx2]) rfl) (fun f => f)
  have k3 : w1.cell? ⟨x3, 0, none⟩ = some (.int .i64 x) := by rw [hw1]; exact (Only.refl (fun _ => False) _).cell' (tre.alloc_cell (w := (((w.alloc (.cells #[.pointer (some ⟨p, 0, none⟩)] 22)).alloc (.cells #[.slice a len cap] 28)).alloc (.cells #[.slice a2 m c2] 28))) (by simp [hx0, hx1, hx2, hx3]) rfl) (fun f => f)
  have HP1 := Lib.hid (h.quiet ho1)
  have HO1 := Lib.hid ho1
  have hxs : w.heap.size ≤ x0 := by omega
  have hnx : ∀ i : Nat, w.heap.size ≤ i → i ≠ pb := fun i hi e => by have := h.lt.2; omega
  have HMV := Lib.hid (move_hold 2 x 0 gr0_in a len cap l x0 x1 x2 x3 (fnd.holdA A l ls x) (fnd.holdE A l ls x) w1 (h.quiet ho1) (fun q hq => by have := hS q hq; have := ho1.size; omega) hL (hr.only ho1 (fun _ _ f => f)) hlc hcm ha (fun w' ho => cphold_any p pb A a len cap l a2 m c2 ls x x0 x1 x2 x3 w' ((ho1.trans ho).cell' h.c0 (fun f => f)) (ho.cell' k0 (fun f => f)) (ho.cell' k1 (fun f => f)) (ho.cell' k2 (fun f => f)) (ho.cell' k3 (fun f => f)) h.ne (hnx _ (by omega)) (hnx _ (by omega)) (hnx _ (by omega)) (hnx _ (by omega)) (h.bk.only (ho1.trans ho) (fun f => f)) h.bok (hr.only (ho1.trans ho) (fun _ _ f => f)) hlc (hr2.only (ho1.trans ho) (fun _ _ f => f)) (fun y e e2 => ha y e (by rw [e2]; exact h.sb))) (h.bok.holdA l ls x) (fun e => by unfold fnd.holdA; rw [if_neg e]) (ch_hold l ls x))
  have HO2 := Lib.hid ho1
  have HXE : Hid (x0 = w.heap.size ∧ x1 = w.heap.size + 1 ∧ x2 = w.heap.size + 2 ∧ x3 = w.heap.size + 3) := Lib.hid (by omega)
  clear h hS hnx hr ha hr2
  go_enter Try.func13, Try.ntmps13
  go_upto_region 1 with fail
  simp only [← hw1]
  simp only [← hx0]
  try simp only [← hx1]
  try simp only [← hx2]
  try simp only [← hx3]
  clear hw1 hx0 hx1 hx2 hx3 hxs ho1
  go_wp2_with fail
  refine HMV.out.mono ?_
  rintro _ w3 hmv
  have HMR := Lib.hid (MvR.frm HO2.out hmv)
  clear HMV
  rcases hmv with ⟨er, hne, rfl, -⟩ | ⟨-, rfl, -⟩
  · go_wp2_with fail
    go_ret
    exact HMR.out
  · go_wp2_with fail
    go_ret
    exact HMR.out
set_option maxRecDepth 100000 in
set_option maxHeartbeats 4000000 in
theorem cprel_any (p pb : Nat) (A : List fnd.Ac) (a : Option Addr) (len cap : Nat) (l : List Int) (x : Int) (x0 x1 x2 : Nat) (z : World) (h0 : z.cell? ⟨p, 0, none⟩ = some (.pointer (some ⟨pb, 0, none⟩))) (h1 : z.cell? ⟨x0, 0, none⟩ = some (.pointer (some ⟨p, 0, none⟩))) (h2 : z.cell? ⟨x1, 0, none⟩ = some (.slice a len cap)) (h3 : z.cell? ⟨x2, 0, none⟩ = some (.int .i64 x)) (hne : p ≠ pb) (hx0 : x0 ≠ pb) (hx1 : x1 ≠ pb) (hx2 : x2 ≠ pb) (hbk : fnd.BkAt z pb A) (hok : fnd.Bok A) (hr : ReadsI z a len l) (hlc : len ≤ cap) (hap : ∀ y, a = some y → y.block ≠ pb) :
    Calls Try.prog 41 #[.pointer (some ⟨x0, 0, none⟩), .pointer (some ⟨x1, 0, none⟩), .pointer (some ⟨x2, 0, none⟩)] z (fnd.FDid pb (fnd.shA A l x (-x) 0) (fnd.shE A l x (-x) 0) z) := by
  have HCB : Hid (∀ w', Only (fun _ => False) z w' → Calls Try.prog 42 #[.pointer (some ⟨pb, 0, none⟩), .slice a len cap, .int .i64 x] w' (fnd.FDid pb (fnd.shA A l x (-x) 0) (fnd.shE A l x (-x) 0) w')) := Lib.hid (fun w' ho => fnd.release_any pb A a len cap l x w' (hbk.only ho (fun f => f)) (hok) (hr.only ho (fun _ _ f => f)) hlc hap)
  have HSL : Hid (∀ w', Only (fun _ => False) z w' → w'.cell? ⟨p, 0, none⟩ = some (.pointer (some ⟨pb, 0, none⟩)) ∧ w'.cell? ⟨x0, 0, none⟩ = some (.pointer (some ⟨p, 0, none⟩)) ∧ w'.cell? ⟨x1, 0, none⟩ = some (.slice a len cap) ∧ w'.cell? ⟨x2, 0, none⟩ = some (.int .i64 x)) := Lib.hid (fun w' ho => ⟨ho.cell' h0 (fun f => f), ho.cell' h1 (fun f => f), ho.cell' h2 (fun f => f), ho.cell' h3 (fun f => f)⟩)
  have HSF : Hid (∀ w', Only (fun _ => False) z w' → ∀ w2, Only (fun q => q = pb) w' w2 → w2.cell? ⟨p, 0, none⟩ = some (.pointer (some ⟨pb, 0, none⟩)) ∧ w2.cell? ⟨x0, 0, none⟩ = some (.pointer (some ⟨p, 0, none⟩)) ∧ w2.cell? ⟨x1, 0, none⟩ = some (.slice a len cap) ∧ w2.cell? ⟨x2, 0, none⟩ = some (.int .i64 x)) := Lib.hid (fun w' ho w2 ho2 => ⟨ho2.cell' (ho.cell' h0 (fun f => f)) hne, ho2.cell' (ho.cell' h1 (fun f => f)) hx0, ho2.cell' (ho.cell' h2 (fun f => f)) hx1, ho2.cell' (ho.cell' h3 (fun f => f)) hx2⟩)
  clear h0 h1 h2 h3 hbk hok hr hap
  go_enter Try.func41, Try.ntmps41
  go_upto_region 1 with fail
  refine wp_region_noPanic ?_
  refine late.region (fun w' => w'.cell? ⟨p, 0, none⟩ = some (.pointer (some ⟨pb, 0, none⟩)) ∧ w'.cell? ⟨x0, 0, none⟩ = some (.pointer (some ⟨p, 0, none⟩)) ∧ w'.cell? ⟨x1, 0, none⟩ = some (.slice a len cap) ∧ w'.cell? ⟨x2, 0, none⟩ = some (.int .i64 x)) (fun j => [].contains j) (by kernel_rfl) (HSL.out _ (Only.refl _ _).drew) (fun hHeld => ?_)
  obtain ⟨z0, hz0'⟩ : ∃ x, x = z.drew := ⟨_, rfl⟩
  rw [← hz0'] at hHeld ⊢
  have hot : Hid (Only (fun _ => False) z z0) := Lib.hid (by rw [hz0']; exact (Only.refl _ _).drew)
  clear hz0'
  refine late.take (i := 0) [1, 2, 3, 6, 7] (v := ?_) rfl (by kernel_rfl) (by kernel_rfl) (by kernel_rfl) (by kernel_rfl) (fun _ _ _ h => h) (Or.inl ⟨by rfl, ?_⟩) (by assumption) ?_
  rotate_left 1
  · intro w' hSw
    try dsimp only at hSw
    go_simp
    try with_reducible rfl
  try simp only [List.getElem_toArray, List.getElem_cons_zero, Act.put, List.setIfInBounds_toArray, List.set_cons_zero, List.set_cons_succ]
  refine late.take (i := 1) [2, 3, 6, 7] (v := ?_) rfl (by kernel_rfl) (by kernel_rfl) (by kernel_rfl) (by kernel_rfl) (fun _ _ _ h => h) (Or.inl ⟨by rfl, ?_⟩) (by assumption) ?_
  rotate_left 1
  · intro w' hSw
    try dsimp only at hSw
    go_simp
    try with_reducible rfl
  try simp only [List.getElem_toArray, List.getElem_cons_zero, List.getElem_cons_succ, Act.put, List.setIfInBounds_toArray, List.set_cons_zero, List.set_cons_succ]
  refine late.take (i := 2) [3, 6, 7] (v := ?_) rfl (by kernel_rfl) (by kernel_rfl) (by kernel_rfl) (by kernel_rfl) (fun _ _ _ h => h) (Or.inl ⟨by rfl, ?_⟩) (by assumption) ?_
  rotate_left 1
  · intro w' hSw
    try dsimp only at hSw
    go_simp
    try with_reducible rfl
  try simp only [List.getElem_toArray, List.getElem_cons_zero, List.getElem_cons_succ, Act.put, List.setIfInBounds_toArray, List.set_cons_zero, List.set_cons_succ]
  refine late.take (i := 3) [6, 7] (v := ?_) rfl (by kernel_rfl) (by kernel_rfl) (by kernel_rfl) (by kernel_rfl) (fun _ _ _ h => h) (Or.inl ⟨by rfl, ?_⟩) (by assumption) ?_
  rotate_left 1
  · intro w' hSw
    try dsimp only at hSw
    go_simp
    try with_reducible rfl
  try simp only [List.getElem_toArray, List.getElem_cons_zero, List.getElem_cons_succ, Act.put, List.setIfInBounds_toArray, List.set_cons_zero, List.set_cons_succ]
  refine late.take (i := 4) [6, 7] (v := ?_) rfl (by kernel_rfl) (by kernel_rfl) (by kernel_rfl) (by kernel_rfl) (fun _ _ _ h => h) (Or.inl ⟨by rfl, ?_⟩) (by assumption) ?_
  rotate_left 1
  · intro w' hSw
    try dsimp only at hSw
    go_simp
    try with_reducible rfl
  try simp only [List.getElem_toArray, List.getElem_cons_zero, List.getElem_cons_succ, Act.put, List.setIfInBounds_toArray, List.set_cons_zero, List.set_cons_succ]
  refine late.take (i := 5) [6, 7] (v := ?_) rfl (by kernel_rfl) (by kernel_rfl) (by kernel_rfl) (by kernel_rfl) (fun _ _ _ h => h) (Or.inl ⟨by rfl, ?_⟩) (by assumption) ?_
  rotate_left 1
  · intro w' hSw
    try dsimp only at hSw
    go_simp
    try with_reducible rfl
  try simp only [List.getElem_toArray, List.getElem_cons_zero, List.getElem_cons_succ, Act.put, List.setIfInBounds_toArray, List.set_cons_zero, List.set_cons_succ]
  refine late.ready (rs := [6]) (by kernel_rfl) (by simp) ?_
  refine late.Each.cons rfl (fun K hK => ?_) late.Each.nil
  try simp only [List.getElem_toArray, List.getElem_cons_zero, List.getElem_cons_succ]
  go_simp
  go_at_call 42
  with_reducible refine (HCB.out _ hot.out).mono ?_
  rintro _ z1 ⟨rfl, hb, ho⟩
  have HEND : Hid (fnd.FDid pb (fnd.shA A l x (-x) 0) (fnd.shE A l x (-x) 0) z (.returned (.int .i64 (fnd.shE A l x (-x) 0))) z1) := Lib.hid ⟨rfl, hb, (hot.out.mono (fun _ _ f => f.elim)).trans ho⟩
  have HSZ := Lib.hid (HSF.out _ hot.out _ ho)
  clear hb ho hot HCB
  try dsimp only
  refine hK.out _ _ (fun _ => HSZ.out) (fun hHeld1 => ?_)
  replace hHeld1 := hHeld1 rfl
  clear hK K
  try simp only [List.getElem_toArray, List.getElem_cons_zero, List.getElem_cons_succ, Act.put, List.setIfInBounds_toArray, List.set_cons_zero, List.set_cons_succ]
  refine late.take (i := 7) [] (v := ?_) rfl (by kernel_rfl) (by kernel_rfl) (by kernel_rfl) (by kernel_rfl) (fun _ _ _ h => h) (Or.inl ⟨by rfl, ?_⟩) (by assumption) ?_
  rotate_left 1
  · intro w' hSw
    try dsimp only at hSw
    go_simp
    try with_reducible rfl
  try simp only [List.getElem_toArray, List.getElem_cons_zero, List.getElem_cons_succ, Act.put, List.setIfInBounds_toArray, List.set_cons_zero, List.set_cons_succ]
  refine late.done (by kernel_rfl) ?_ _
  refine NoPanic.normal ?_
  clear hHeld HSZ HSF HSL
  go_wp2_with fail
  go_ret
  exact HEND.out
set_option maxRecDepth 100000 in
set_option maxHeartbeats 4000000 in
theorem prel_any {S : Nat → Prop} {p pb pj : Nat} {A : List fnd.Ac} {op : Nat} {C : AcC → Option (List Int)} {L : List jnw.Ps} (a : Option Addr) (len cap : Nat) (l : List Int) (x : Int) (w : World) (h : Pu S w p pb pj A op C L) (hS : ∀ q, S q → q < w.heap.size) (hL : L.length < 16384) (hr : ReadsI w a len l) (hlc : len ≤ cap) (hcm : cap ≤ 9223372036854775807) (ha : ∀ y, a = some y → ¬ S y.block) :
    Calls Try.prog 15 #[.pointer (some ⟨p, 0, none⟩), .slice a len cap, .int .i64 x] w (MvR S w p pb pj A op C L 3 x 0 l (fnd.shA A l x (-x) 0) (fnd.shE A l x (-x) 0)) := by
  obtain ⟨w1, hw1⟩ : ∃ y, y = (((w.alloc (.cells #[.pointer (some ⟨p, 0, none⟩)] 22)).alloc (.cells #[.slice a len cap] 28)).alloc (.cells #[.int .i64 x] 3)) := ⟨_, rfl⟩
  obtain ⟨x0, hx0⟩ : ∃ y, y = w.heap.size := ⟨_, rfl⟩
  obtain ⟨x1, hx1⟩ : ∃ y, y = x0 + 1 := ⟨_, rfl⟩
  obtain ⟨x2, hx2⟩ : ∃ y, y = x1 + 1 := ⟨_, rfl⟩
  have ho1 : Only (fun _ => False) w w1 := by rw [hw1]; exact (((Only.refl _ _).alloc _).alloc _).alloc _
  have k0 : w1.cell? ⟨x0, 0, none⟩ = some (.pointer (some ⟨p, 0, none⟩)) := by rw [hw1]; exact (((Only.refl (fun _ => False) _).alloc _).alloc _).cell' (tre.alloc_cell (w := w) (by simp [hx0]) rfl) (fun f => f)
  have k1 : w1.cell? ⟨x1, 0, none⟩ = some (.slice a len cap) := by rw [hw1]; exact ((Only.refl (fun _ => False) _).alloc _).cell' (tre.alloc_cell (w := (w.alloc (.cells #[.pointer (some ⟨p, 0, none⟩)] 22))) (by simp [hx0, hx1]) rfl) (fun f => f)
  have k2 : w1.cell? ⟨x2, 0, none⟩ = some (.int .i64 x) := by rw [hw1]; exact (Only.refl (fun _ => False) _).cell' (tre.alloc_cell (w := ((w.alloc (.cells #[.pointer (some ⟨p, 0, none⟩)] 22)).alloc (.cells #[.slice a len cap] 28))) (by simp [hx0, hx1, hx2]) rfl) (fun f => f)
  have HP1 := Lib.hid (h.quiet ho1)
  have HO1 := Lib.hid ho1
  have hxs : w.heap.size ≤ x0 := by omega
  have hnx : ∀ i : Nat, w.heap.size ≤ i → i ≠ pb := fun i hi e => by have := h.lt.2; omega
  have HMV := Lib.hid (move_rel 3 x 0 gr0_in a len cap l x0 x1 x2 (fnd.shA A l x (-x) 0) (fnd.shE A l x (-x) 0) w1 (h.quiet ho1) (fun q hq => by have := hS q hq; have := ho1.size; omega) hL (hr.only ho1 (fun _ _ f => f)) hlc hcm ha (fun w' ho => cprel_any p pb A a len cap l x x0 x1 x2 w' ((ho1.trans ho).cell' h.c0 (fun f => f)) (ho.cell' k0 (fun f => f)) (ho.cell' k1 (fun f => f)) (ho.cell' k2 (fun f => f)) h.ne (hnx _ (by omega)) (hnx _ (by omega)) (hnx _ (by omega)) (h.bk.only (ho1.trans ho) (fun f => f)) h.bok (hr.only (ho1.trans ho) (fun _ _ f => f)) hlc (fun y e e2 => ha y e (by rw [e2]; exact h.sb))) (h.bok.shA l x (fun hx => by obtain ⟨h1, h2⟩ := hx; omega)) (fun e => by unfold fnd.shA; rw [if_neg e]) (ch_sh l x (-x) 0))
  have HO2 := Lib.hid ho1
  have HXE : Hid (x0 = w.heap.size ∧ x1 = w.heap.size + 1 ∧ x2 = w.heap.size + 2) := Lib.hid (by omega)
  clear h hS hnx hr ha
  go_enter Try.func15, Try.ntmps15
  go_upto_region 1 with fail
  simp only [← hw1]
  simp only [← hx0]
  try simp only [← hx1]
  try simp only [← hx2]
  clear hw1 hx0 hx1 hx2 hxs ho1
  go_wp2_with fail
  refine HMV.out.mono ?_
  rintro _ w3 hmv
  have HMR := Lib.hid (MvR.frm HO2.out hmv)
  clear HMV
  rcases hmv with ⟨er, hne, rfl, -⟩ | ⟨-, rfl, -⟩
  · go_wp2_with fail
    go_ret
    exact HMR.out
  · go_wp2_with fail
    go_ret
    exact HMR.out
set_option maxRecDepth 100000 in
set_option maxHeartbeats 4000000 in
theorem cpcom_any (p pb : Nat) (A : List fnd.Ac) (a : Option Addr) (len cap : Nat) (l : List Int) (x : Int) (x0 x1 x2 : Nat) (z : World) (h0 : z.cell? ⟨p, 0, none⟩ = some (.pointer (some ⟨pb, 0, none⟩))) (h1 : z.cell? ⟨x0, 0, none⟩ = some (.pointer (some ⟨p, 0, none⟩))) (h2 : z.cell? ⟨x1, 0, none⟩ = some (.slice a len cap)) (h3 : z.cell? ⟨x2, 0, none⟩ = some (.int .i64 x)) (hne : p ≠ pb) (hx0 : x0 ≠ pb) (hx1 : x1 ≠ pb) (hx2 : x2 ≠ pb) (hbk : fnd.BkAt z pb A) (hok : fnd.Bok A) (hr : ReadsI z a len l) (hlc : len ≤ cap) (hap : ∀ y, a = some y → y.block ≠ pb) :
    Calls Try.prog 39 #[.pointer (some ⟨x0, 0, none⟩), .pointer (some ⟨x1, 0, none⟩), .pointer (some ⟨x2, 0, none⟩)] z (fnd.FDid pb (fnd.shA A l x (-x) x) (fnd.shE A l x (-x) x) z) := by
  have HCB : Hid (∀ w', Only (fun _ => False) z w' → Calls Try.prog 40 #[.pointer (some ⟨pb, 0, none⟩), .slice a len cap, .int .i64 x] w' (fnd.FDid pb (fnd.shA A l x (-x) x) (fnd.shE A l x (-x) x) w')) := Lib.hid (fun w' ho => fnd.commit_any pb A a len cap l x w' (hbk.only ho (fun f => f)) (hok) (hr.only ho (fun _ _ f => f)) hlc hap)
  have HSL : Hid (∀ w', Only (fun _ => False) z w' → w'.cell? ⟨p, 0, none⟩ = some (.pointer (some ⟨pb, 0, none⟩)) ∧ w'.cell? ⟨x0, 0, none⟩ = some (.pointer (some ⟨p, 0, none⟩)) ∧ w'.cell? ⟨x1, 0, none⟩ = some (.slice a len cap) ∧ w'.cell? ⟨x2, 0, none⟩ = some (.int .i64 x)) := Lib.hid (fun w' ho => ⟨ho.cell' h0 (fun f => f), ho.cell' h1 (fun f => f), ho.cell' h2 (fun f => f), ho.cell' h3 (fun f => f)⟩)
  have HSF : Hid (∀ w', Only (fun _ => False) z w' → ∀ w2, Only (fun q => q = pb) w' w2 → w2.cell? ⟨p, 0, none⟩ = some (.pointer (some ⟨pb, 0, none⟩)) ∧ w2.cell? ⟨x0, 0, none⟩ = some (.pointer (some ⟨p, 0, none⟩)) ∧ w2.cell? ⟨x1, 0, none⟩ = some (.slice a len cap) ∧ w2.cell? ⟨x2, 0, none⟩ = some (.int .i64 x)) := Lib.hid (fun w' ho w2 ho2 => ⟨ho2.cell' (ho.cell' h0 (fun f => f)) hne, ho2.cell' (ho.cell' h1 (fun f => f)) hx0, ho2.cell' (ho.cell' h2 (fun f => f)) hx1, ho2.cell' (ho.cell' h3 (fun f => f)) hx2⟩)
  clear h0 h1 h2 h3 hbk hok hr hap
  go_enter Try.func39, Try.ntmps39
  go_upto_region 1 with fail
  refine wp_region_noPanic ?_
  refine late.region (fun w' => w'.cell? ⟨p, 0, none⟩ = some (.pointer (some ⟨pb, 0, none⟩)) ∧ w'.cell? ⟨x0, 0, none⟩ = some (.pointer (some ⟨p, 0, none⟩)) ∧ w'.cell? ⟨x1, 0, none⟩ = some (.slice a len cap) ∧ w'.cell? ⟨x2, 0, none⟩ = some (.int .i64 x)) (fun j => [].contains j) (by kernel_rfl) (HSL.out _ (Only.refl _ _).drew) (fun hHeld => ?_)
  obtain ⟨z0, hz0'⟩ : ∃ x, x = z.drew := ⟨_, rfl⟩
  rw [← hz0'] at hHeld ⊢
  have hot : Hid (Only (fun _ => False) z z0) := Lib.hid (by rw [hz0']; exact (Only.refl _ _).drew)
  clear hz0'
  refine late.take (i := 0) [1, 2, 3, 6, 7] (v := ?_) rfl (by kernel_rfl) (by kernel_rfl) (by kernel_rfl) (by kernel_rfl) (fun _ _ _ h => h) (Or.inl ⟨by rfl, ?_⟩) (by assumption) ?_
  rotate_left 1
  · intro w' hSw
    try dsimp only at hSw
    go_simp
    try with_reducible rfl
  try simp only [List.getElem_toArray, List.getElem_cons_zero, Act.put, List.setIfInBounds_toArray, List.set_cons_zero, List.set_cons_succ]
  refine late.take (i := 1) [2, 3, 6, 7] (v := ?_) rfl (by kernel_rfl) (by kernel_rfl) (by kernel_rfl) (by kernel_rfl) (fun _ _ _ h => h) (Or.inl ⟨by rfl, ?_⟩) (by assumption) ?_
  rotate_left 1
  · intro w' hSw
    try dsimp only at hSw
    go_simp
    try with_reducible rfl
  try simp only [List.getElem_toArray, List.getElem_cons_zero, List.getElem_cons_succ, Act.put, List.setIfInBounds_toArray, List.set_cons_zero, List.set_cons_succ]
  refine late.take (i := 2) [3, 6, 7] (v := ?_) rfl (by kernel_rfl) (by kernel_rfl) (by kernel_rfl) (by kernel_rfl) (fun _ _ _ h => h) (Or.inl ⟨by rfl, ?_⟩) (by assumption) ?_
  rotate_left 1
  · intro w' hSw
    try dsimp only at hSw
    go_simp
    try with_reducible rfl
  try simp only [List.getElem_toArray, List.getElem_cons_zero, List.getElem_cons_succ, Act.put, List.setIfInBounds_toArray, List.set_cons_zero, List.set_cons_succ]
  refine late.take (i := 3) [6, 7] (v := ?_) rfl (by kernel_rfl) (by kernel_rfl) (by kernel_rfl) (by kernel_rfl) (fun _ _ _ h => h) (Or.inl ⟨by rfl, ?_⟩) (by assumption) ?_
  rotate_left 1
  · intro w' hSw
    try dsimp only at hSw
    go_simp
    try with_reducible rfl
  try simp only [List.getElem_toArray, List.getElem_cons_zero, List.getElem_cons_succ, Act.put, List.setIfInBounds_toArray, List.set_cons_zero, List.set_cons_succ]
  refine late.take (i := 4) [6, 7] (v := ?_) rfl (by kernel_rfl) (by kernel_rfl) (by kernel_rfl) (by kernel_rfl) (fun _ _ _ h => h) (Or.inl ⟨by rfl, ?_⟩) (by assumption) ?_
  rotate_left 1
  · intro w' hSw
    try dsimp only at hSw
    go_simp
    try with_reducible rfl
  try simp only [List.getElem_toArray, List.getElem_cons_zero, List.getElem_cons_succ, Act.put, List.setIfInBounds_toArray, List.set_cons_zero, List.set_cons_succ]
  refine late.take (i := 5) [6, 7] (v := ?_) rfl (by kernel_rfl) (by kernel_rfl) (by kernel_rfl) (by kernel_rfl) (fun _ _ _ h => h) (Or.inl ⟨by rfl, ?_⟩) (by assumption) ?_
  rotate_left 1
  · intro w' hSw
    try dsimp only at hSw
    go_simp
    try with_reducible rfl
  try simp only [List.getElem_toArray, List.getElem_cons_zero, List.getElem_cons_succ, Act.put, List.setIfInBounds_toArray, List.set_cons_zero, List.set_cons_succ]
  refine late.ready (rs := [6]) (by kernel_rfl) (by simp) ?_
  refine late.Each.cons rfl (fun K hK => ?_) late.Each.nil
  try simp only [List.getElem_toArray, List.getElem_cons_zero, List.getElem_cons_succ]
  go_simp
  go_at_call 40
  with_reducible refine (HCB.out _ hot.out).mono ?_
  rintro _ z1 ⟨rfl, hb, ho⟩
  have HEND : Hid (fnd.FDid pb (fnd.shA A l x (-x) x) (fnd.shE A l x (-x) x) z (.returned (.int .i64 (fnd.shE A l x (-x) x))) z1) := Lib.hid ⟨rfl, hb, (hot.out.mono (fun _ _ f => f.elim)).trans ho⟩
  have HSZ := Lib.hid (HSF.out _ hot.out _ ho)
  clear hb ho hot HCB
  try dsimp only
  refine hK.out _ _ (fun _ => HSZ.out) (fun hHeld1 => ?_)
  replace hHeld1 := hHeld1 rfl
  clear hK K
  try simp only [List.getElem_toArray, List.getElem_cons_zero, List.getElem_cons_succ, Act.put, List.setIfInBounds_toArray, List.set_cons_zero, List.set_cons_succ]
  refine late.take (i := 7) [] (v := ?_) rfl (by kernel_rfl) (by kernel_rfl) (by kernel_rfl) (by kernel_rfl) (fun _ _ _ h => h) (Or.inl ⟨by rfl, ?_⟩) (by assumption) ?_
  rotate_left 1
  · intro w' hSw
    try dsimp only at hSw
    go_simp
    try with_reducible rfl
  try simp only [List.getElem_toArray, List.getElem_cons_zero, List.getElem_cons_succ, Act.put, List.setIfInBounds_toArray, List.set_cons_zero, List.set_cons_succ]
  refine late.done (by kernel_rfl) ?_ _
  refine NoPanic.normal ?_
  clear hHeld HSZ HSF HSL
  go_wp2_with fail
  go_ret
  exact HEND.out
set_option maxRecDepth 100000 in
set_option maxHeartbeats 4000000 in
theorem pcom_any {S : Nat → Prop} {p pb pj : Nat} {A : List fnd.Ac} {op : Nat} {C : AcC → Option (List Int)} {L : List jnw.Ps} (a : Option Addr) (len cap : Nat) (l : List Int) (x : Int) (gr : Int) (w : World) (h : Pu S w p pb pj A op C L) (hS : ∀ q, S q → q < w.heap.size) (hL : L.length < 16384) (hr : ReadsI w a len l) (hlc : len ≤ cap) (hcm : cap ≤ 9223372036854775807) (ha : ∀ y, a = some y → ¬ S y.block) (hgr : entw.InI gr) :
    Calls Try.prog 14 #[.pointer (some ⟨p, 0, none⟩), .slice a len cap, .int .i64 x, .int .i64 gr] w (MvR S w p pb pj A op C L 4 x gr l (fnd.shA A l x (-x) x) (fnd.shE A l x (-x) x)) := by
  obtain ⟨w1, hw1⟩ : ∃ y, y = (((w.alloc (.cells #[.pointer (some ⟨p, 0, none⟩)] 22)).alloc (.cells #[.slice a len cap] 28)).alloc (.cells #[.int .i64 x] 3)) := ⟨_, rfl⟩
  obtain ⟨x0, hx0⟩ : ∃ y, y = w.heap.size := ⟨_, rfl⟩
  obtain ⟨x1, hx1⟩ : ∃ y, y = x0 + 1 := ⟨_, rfl⟩
  obtain ⟨x2, hx2⟩ : ∃ y, y = x1 + 1 := ⟨_, rfl⟩
  have ho1 : Only (fun _ => False) w w1 := by rw [hw1]; exact (((Only.refl _ _).alloc _).alloc _).alloc _
  have k0 : w1.cell? ⟨x0, 0, none⟩ = some (.pointer (some ⟨p, 0, none⟩)) := by rw [hw1]; exact (((Only.refl (fun _ => False) _).alloc _).alloc _).cell' (tre.alloc_cell (w := w) (by simp [hx0]) rfl) (fun f => f)
  have k1 : w1.cell? ⟨x1, 0, none⟩ = some (.slice a len cap) := by rw [hw1]; exact ((Only.refl (fun _ => False) _).alloc _).cell' (tre.alloc_cell (w := (w.alloc (.cells #[.pointer (some ⟨p, 0, none⟩)] 22))) (by simp [hx0, hx1]) rfl) (fun f => f)
  have k2 : w1.cell? ⟨x2, 0, none⟩ = some (.int .i64 x) := by rw [hw1]; exact (Only.refl (fun _ => False) _).cell' (tre.alloc_cell (w := ((w.alloc (.cells #[.pointer (some ⟨p, 0, none⟩)] 22)).alloc (.cells #[.slice a len cap] 28))) (by simp [hx0, hx1, hx2]) rfl) (fun f => f)
  have HP1 := Lib.hid (h.quiet ho1)
  have HO1 := Lib.hid ho1
  have hxs : w.heap.size ≤ x0 := by omega
  have hnx : ∀ i : Nat, w.heap.size ≤ i → i ≠ pb := fun i hi e => by have := h.lt.2; omega
  have HMV := Lib.hid (move_com 4 x gr hgr a len cap l x0 x1 x2 (fnd.shA A l x (-x) x) (fnd.shE A l x (-x) x) w1 (h.quiet ho1) (fun q hq => by have := hS q hq; have := ho1.size; omega) hL (hr.only ho1 (fun _ _ f => f)) hlc hcm ha (fun w' ho => cpcom_any p pb A a len cap l x x0 x1 x2 w' ((ho1.trans ho).cell' h.c0 (fun f => f)) (ho.cell' k0 (fun f => f)) (ho.cell' k1 (fun f => f)) (ho.cell' k2 (fun f => f)) h.ne (hnx _ (by omega)) (hnx _ (by omega)) (hnx _ (by omega)) (h.bk.only (ho1.trans ho) (fun f => f)) h.bok (hr.only (ho1.trans ho) (fun _ _ f => f)) hlc (fun y e e2 => ha y e (by rw [e2]; exact h.sb))) (h.bok.shA l x (fun hx => by obtain ⟨h1, h2⟩ := hx; omega)) (fun e => by unfold fnd.shA; rw [if_neg e]) (ch_sh l x (-x) x))
  have HO2 := Lib.hid ho1
  have HXE : Hid (x0 = w.heap.size ∧ x1 = w.heap.size + 1 ∧ x2 = w.heap.size + 2) := Lib.hid (by omega)
  clear h hS hnx hr ha
  go_enter Try.func14, Try.ntmps14
  go_upto_region 1 with fail
  simp only [← hw1]
  simp only [← hx0]
  try simp only [← hx1]
  try simp only [← hx2]
  clear hw1 hx0 hx1 hx2 hxs ho1
  go_wp2_with fail
  refine HMV.out.mono ?_
  rintro _ w3 hmv
  have HMR := Lib.hid (MvR.frm HO2.out hmv)
  clear HMV
  rcases hmv with ⟨er, hne, rfl, -⟩ | ⟨-, rfl, -⟩
  · go_wp2_with fail
    go_ret
    exact HMR.out
  · go_wp2_with fail
    go_ret
    exact HMR.out
set_option maxRecDepth 100000 in
set_option maxHeartbeats 4000000 in
theorem cpref_any (p pb : Nat) (A : List fnd.Ac) (a : Option Addr) (len cap : Nat) (l : List Int) (x : Int) (x0 x1 x2 : Nat) (z : World) (h0 : z.cell? ⟨p, 0, none⟩ = some (.pointer (some ⟨pb, 0, none⟩))) (h1 : z.cell? ⟨x0, 0, none⟩ = some (.pointer (some ⟨p, 0, none⟩))) (h2 : z.cell? ⟨x1, 0, none⟩ = some (.slice a len cap)) (h3 : z.cell? ⟨x2, 0, none⟩ = some (.int .i64 x)) (hne : p ≠ pb) (hx0 : x0 ≠ pb) (hx1 : x1 ≠ pb) (hx2 : x2 ≠ pb) (hbk : fnd.BkAt z pb A) (hok : fnd.Bok A) (hr : ReadsI z a len l) (hlc : len ≤ cap) (hap : ∀ y, a = some y → y.block ≠ pb) :
    Calls Try.prog 48 #[.pointer (some ⟨x0, 0, none⟩), .pointer (some ⟨x1, 0, none⟩), .pointer (some ⟨x2, 0, none⟩)] z (fnd.FDid pb (fnd.shA A l x 0 (-x)) (fnd.shE A l x 0 (-x)) z) := by
  have HCB : Hid (∀ w', Only (fun _ => False) z w' → Calls Try.prog 49 #[.pointer (some ⟨pb, 0, none⟩), .slice a len cap, .int .i64 x] w' (fnd.FDid pb (fnd.shA A l x 0 (-x)) (fnd.shE A l x 0 (-x)) w')) := Lib.hid (fun w' ho => fnd.refund_any pb A a len cap l x w' (hbk.only ho (fun f => f)) (hok) (hr.only ho (fun _ _ f => f)) hlc hap)
  have HSL : Hid (∀ w', Only (fun _ => False) z w' → w'.cell? ⟨p, 0, none⟩ = some (.pointer (some ⟨pb, 0, none⟩)) ∧ w'.cell? ⟨x0, 0, none⟩ = some (.pointer (some ⟨p, 0, none⟩)) ∧ w'.cell? ⟨x1, 0, none⟩ = some (.slice a len cap) ∧ w'.cell? ⟨x2, 0, none⟩ = some (.int .i64 x)) := Lib.hid (fun w' ho => ⟨ho.cell' h0 (fun f => f), ho.cell' h1 (fun f => f), ho.cell' h2 (fun f => f), ho.cell' h3 (fun f => f)⟩)
  have HSF : Hid (∀ w', Only (fun _ => False) z w' → ∀ w2, Only (fun q => q = pb) w' w2 → w2.cell? ⟨p, 0, none⟩ = some (.pointer (some ⟨pb, 0, none⟩)) ∧ w2.cell? ⟨x0, 0, none⟩ = some (.pointer (some ⟨p, 0, none⟩)) ∧ w2.cell? ⟨x1, 0, none⟩ = some (.slice a len cap) ∧ w2.cell? ⟨x2, 0, none⟩ = some (.int .i64 x)) := Lib.hid (fun w' ho w2 ho2 => ⟨ho2.cell' (ho.cell' h0 (fun f => f)) hne, ho2.cell' (ho.cell' h1 (fun f => f)) hx0, ho2.cell' (ho.cell' h2 (fun f => f)) hx1, ho2.cell' (ho.cell' h3 (fun f => f)) hx2⟩)
  clear h0 h1 h2 h3 hbk hok hr hap
  go_enter Try.func48, Try.ntmps48
  go_upto_region 1 with fail
  refine wp_region_noPanic ?_
  refine late.region (fun w' => w'.cell? ⟨p, 0, none⟩ = some (.pointer (some ⟨pb, 0, none⟩)) ∧ w'.cell? ⟨x0, 0, none⟩ = some (.pointer (some ⟨p, 0, none⟩)) ∧ w'.cell? ⟨x1, 0, none⟩ = some (.slice a len cap) ∧ w'.cell? ⟨x2, 0, none⟩ = some (.int .i64 x)) (fun j => [].contains j) (by kernel_rfl) (HSL.out _ (Only.refl _ _).drew) (fun hHeld => ?_)
  obtain ⟨z0, hz0'⟩ : ∃ x, x = z.drew := ⟨_, rfl⟩
  rw [← hz0'] at hHeld ⊢
  have hot : Hid (Only (fun _ => False) z z0) := Lib.hid (by rw [hz0']; exact (Only.refl _ _).drew)
  clear hz0'
  refine late.take (i := 0) [1, 2, 3, 6, 7] (v := ?_) rfl (by kernel_rfl) (by kernel_rfl) (by kernel_rfl) (by kernel_rfl) (fun _ _ _ h => h) (Or.inl ⟨by rfl, ?_⟩) (by assumption) ?_
  rotate_left 1
  · intro w' hSw
    try dsimp only at hSw
    go_simp
    try with_reducible rfl
  try simp only [List.getElem_toArray, List.getElem_cons_zero, Act.put, List.setIfInBounds_toArray, List.set_cons_zero, List.set_cons_succ]
  refine late.take (i := 1) [2, 3, 6, 7] (v := ?_) rfl (by kernel_rfl) (by kernel_rfl) (by kernel_rfl) (by kernel_rfl) (fun _ _ _ h => h) (Or.inl ⟨by rfl, ?_⟩) (by assumption) ?_
  rotate_left 1
  · intro w' hSw
    try dsimp only at hSw
    go_simp
    try with_reducible rfl
  try simp only [List.getElem_toArray, List.getElem_cons_zero, List.getElem_cons_succ, Act.put, List.setIfInBounds_toArray, List.set_cons_zero, List.set_cons_succ]
  refine late.take (i := 2) [3, 6, 7] (v := ?_) rfl (by kernel_rfl) (by kernel_rfl) (by kernel_rfl) (by kernel_rfl) (fun _ _ _ h => h) (Or.inl ⟨by rfl, ?_⟩) (by assumption) ?_
  rotate_left 1
  · intro w' hSw
    try dsimp only at hSw
    go_simp
    try with_reducible rfl
  try simp only [List.getElem_toArray, List.getElem_cons_zero, List.getElem_cons_succ, Act.put, List.setIfInBounds_toArray, List.set_cons_zero, List.set_cons_succ]
  refine late.take (i := 3) [6, 7] (v := ?_) rfl (by kernel_rfl) (by kernel_rfl) (by kernel_rfl) (by kernel_rfl) (fun _ _ _ h => h) (Or.inl ⟨by rfl, ?_⟩) (by assumption) ?_
  rotate_left 1
  · intro w' hSw
    try dsimp only at hSw
    go_simp
    try with_reducible rfl
  try simp only [List.getElem_toArray, List.getElem_cons_zero, List.getElem_cons_succ, Act.put, List.setIfInBounds_toArray, List.set_cons_zero, List.set_cons_succ]
  refine late.take (i := 4) [6, 7] (v := ?_) rfl (by kernel_rfl) (by kernel_rfl) (by kernel_rfl) (by kernel_rfl) (fun _ _ _ h => h) (Or.inl ⟨by rfl, ?_⟩) (by assumption) ?_
  rotate_left 1
  · intro w' hSw
    try dsimp only at hSw
    go_simp
    try with_reducible rfl
  try simp only [List.getElem_toArray, List.getElem_cons_zero, List.getElem_cons_succ, Act.put, List.setIfInBounds_toArray, List.set_cons_zero, List.set_cons_succ]
  refine late.take (i := 5) [6, 7] (v := ?_) rfl (by kernel_rfl) (by kernel_rfl) (by kernel_rfl) (by kernel_rfl) (fun _ _ _ h => h) (Or.inl ⟨by rfl, ?_⟩) (by assumption) ?_
  rotate_left 1
  · intro w' hSw
    try dsimp only at hSw
    go_simp
    try with_reducible rfl
  try simp only [List.getElem_toArray, List.getElem_cons_zero, List.getElem_cons_succ, Act.put, List.setIfInBounds_toArray, List.set_cons_zero, List.set_cons_succ]
  refine late.ready (rs := [6]) (by kernel_rfl) (by simp) ?_
  refine late.Each.cons rfl (fun K hK => ?_) late.Each.nil
  try simp only [List.getElem_toArray, List.getElem_cons_zero, List.getElem_cons_succ]
  go_simp
  go_at_call 49
  with_reducible refine (HCB.out _ hot.out).mono ?_
  rintro _ z1 ⟨rfl, hb, ho⟩
  have HEND : Hid (fnd.FDid pb (fnd.shA A l x 0 (-x)) (fnd.shE A l x 0 (-x)) z (.returned (.int .i64 (fnd.shE A l x 0 (-x)))) z1) := Lib.hid ⟨rfl, hb, (hot.out.mono (fun _ _ f => f.elim)).trans ho⟩
  have HSZ := Lib.hid (HSF.out _ hot.out _ ho)
  clear hb ho hot HCB
  try dsimp only
  refine hK.out _ _ (fun _ => HSZ.out) (fun hHeld1 => ?_)
  replace hHeld1 := hHeld1 rfl
  clear hK K
  try simp only [List.getElem_toArray, List.getElem_cons_zero, List.getElem_cons_succ, Act.put, List.setIfInBounds_toArray, List.set_cons_zero, List.set_cons_succ]
  refine late.take (i := 7) [] (v := ?_) rfl (by kernel_rfl) (by kernel_rfl) (by kernel_rfl) (by kernel_rfl) (fun _ _ _ h => h) (Or.inl ⟨by rfl, ?_⟩) (by assumption) ?_
  rotate_left 1
  · intro w' hSw
    try dsimp only at hSw
    go_simp
    try with_reducible rfl
  try simp only [List.getElem_toArray, List.getElem_cons_zero, List.getElem_cons_succ, Act.put, List.setIfInBounds_toArray, List.set_cons_zero, List.set_cons_succ]
  refine late.done (by kernel_rfl) ?_ _
  refine NoPanic.normal ?_
  clear hHeld HSZ HSF HSL
  go_wp2_with fail
  go_ret
  exact HEND.out
set_option maxRecDepth 100000 in
set_option maxHeartbeats 4000000 in
theorem pref_any {S : Nat → Prop} {p pb pj : Nat} {A : List fnd.Ac} {op : Nat} {C : AcC → Option (List Int)} {L : List jnw.Ps} (a : Option Addr) (len cap : Nat) (l : List Int) (x : Int) (gr : Int) (w : World) (h : Pu S w p pb pj A op C L) (hS : ∀ q, S q → q < w.heap.size) (hL : L.length < 16384) (hr : ReadsI w a len l) (hlc : len ≤ cap) (hcm : cap ≤ 9223372036854775807) (ha : ∀ y, a = some y → ¬ S y.block) (hgr : entw.InI gr) :
    Calls Try.prog 21 #[.pointer (some ⟨p, 0, none⟩), .slice a len cap, .int .i64 x, .int .i64 gr] w (MvR S w p pb pj A op C L 6 x gr l (fnd.shA A l x 0 (-x)) (fnd.shE A l x 0 (-x))) := by
  obtain ⟨w1, hw1⟩ : ∃ y, y = (((w.alloc (.cells #[.pointer (some ⟨p, 0, none⟩)] 22)).alloc (.cells #[.slice a len cap] 28)).alloc (.cells #[.int .i64 x] 3)) := ⟨_, rfl⟩
  obtain ⟨x0, hx0⟩ : ∃ y, y = w.heap.size := ⟨_, rfl⟩
  obtain ⟨x1, hx1⟩ : ∃ y, y = x0 + 1 := ⟨_, rfl⟩
  obtain ⟨x2, hx2⟩ : ∃ y, y = x1 + 1 := ⟨_, rfl⟩
  have ho1 : Only (fun _ => False) w w1 := by rw [hw1]; exact (((Only.refl _ _).alloc _).alloc _).alloc _
  have k0 : w1.cell? ⟨x0, 0, none⟩ = some (.pointer (some ⟨p, 0, none⟩)) := by rw [hw1]; exact (((Only.refl (fun _ => False) _).alloc _).alloc _).cell' (tre.alloc_cell (w := w) (by simp [hx0]) rfl) (fun f => f)
  have k1 : w1.cell? ⟨x1, 0, none⟩ = some (.slice a len cap) := by rw [hw1]; exact ((Only.refl (fun _ => False) _).alloc _).cell' (tre.alloc_cell (w := (w.alloc (.cells #[.pointer (some ⟨p, 0, none⟩)] 22))) (by simp [hx0, hx1]) rfl) (fun f => f)
  have k2 : w1.cell? ⟨x2, 0, none⟩ = some (.int .i64 x) := by rw [hw1]; exact (Only.refl (fun _ => False) _).cell' (tre.alloc_cell (w := ((w.alloc (.cells #[.pointer (some ⟨p, 0, none⟩)] 22)).alloc (.cells #[.slice a len cap] 28))) (by simp [hx0, hx1, hx2]) rfl) (fun f => f)
  have HP1 := Lib.hid (h.quiet ho1)
  have HO1 := Lib.hid ho1
  have hxs : w.heap.size ≤ x0 := by omega
  have hnx : ∀ i : Nat, w.heap.size ≤ i → i ≠ pb := fun i hi e => by have := h.lt.2; omega
  have HMV := Lib.hid (move_ref 6 x gr hgr a len cap l x0 x1 x2 (fnd.shA A l x 0 (-x)) (fnd.shE A l x 0 (-x)) w1 (h.quiet ho1) (fun q hq => by have := hS q hq; have := ho1.size; omega) hL (hr.only ho1 (fun _ _ f => f)) hlc hcm ha (fun w' ho => cpref_any p pb A a len cap l x x0 x1 x2 w' ((ho1.trans ho).cell' h.c0 (fun f => f)) (ho.cell' k0 (fun f => f)) (ho.cell' k1 (fun f => f)) (ho.cell' k2 (fun f => f)) h.ne (hnx _ (by omega)) (hnx _ (by omega)) (hnx _ (by omega)) (h.bk.only (ho1.trans ho) (fun f => f)) h.bok (hr.only (ho1.trans ho) (fun _ _ f => f)) hlc (fun y e e2 => ha y e (by rw [e2]; exact h.sb))) (h.bok.shA l x (fun hx => by obtain ⟨h1, h2⟩ := hx; omega)) (fun e => by unfold fnd.shA; rw [if_neg e]) (ch_sh l x 0 (-x)))
  have HO2 := Lib.hid ho1
  have HXE : Hid (x0 = w.heap.size ∧ x1 = w.heap.size + 1 ∧ x2 = w.heap.size + 2) := Lib.hid (by omega)
  clear h hS hnx hr ha
  go_enter Try.func21, Try.ntmps21
  go_upto_region 1 with fail
  simp only [← hw1]
  simp only [← hx0]
  try simp only [← hx1]
  try simp only [← hx2]
  clear hw1 hx0 hx1 hx2 hxs ho1
  go_wp2_with fail
  refine HMV.out.mono ?_
  rintro _ w3 hmv
  have HMR := Lib.hid (MvR.frm HO2.out hmv)
  clear HMV
  rcases hmv with ⟨er, hne, rfl, -⟩ | ⟨-, rfl, -⟩
  · go_wp2_with fail
    go_ret
    exact HMR.out
  · go_wp2_with fail
    go_ret
    exact HMR.out
end Go.Proofs.Ytkbaafgaaiekpaa.puw

