/- Several texts together: PuCc. -/
import Derived.Test.YtkbaafgaaiekpaaGreatPeriodActsZ1
import Derived.Test.YtkbaafgaaiekpaaGreatPeriodActsZ19
namespace Go.Proofs.YtkbaafgaaiekpaaGreat.puw
open Go.RowKit mem
set_option linter.unusedVariables false

set_option maxRecDepth 100000 in
set_option maxHeartbeats 8000000 in
theorem move_com {S : Nat → Prop} {p pb pj : Nat} {A : List fnd.Ac} {op : Nat} {C : AcC → Option (List Int)} {L : List jnw.Ps} (kind m gr : Int) (hg : entw.InI gr) (a : Option Addr) (len cap : Nat) (path : List Int) (x0 x1 x2 : Nat) (A' : List fnd.Ac) (E : Int) (w : World) (h : Pu S w p pb pj A op C L) (hS : ∀ q, S q → q < w.heap.size) (hL : L.length < 16384) (hr : ReadsI w a len path) (hlc : len ≤ cap) (hcm : cap ≤ 9223372036854775807) (ha : ∀ x, a = some x → ¬ S x.block)
    (hch : ∀ w', Only (fun _ => False) w w' → Calls Tryz.prog 44 #[.pointer (some ⟨x0, 0, none⟩), .pointer (some ⟨x1, 0, none⟩), .pointer (some ⟨x2, 0, none⟩)] w' (fnd.FDid pb A' E w')) (hA' : fnd.Bok A') (h0 : E ≠ 0 → A' = A) (hok : E = 0 → ChOk path A A') :
    Calls Tryz.prog 37 #[.pointer (some ⟨p, 0, none⟩), .int .i64 kind, .int .i64 m, .slice a len cap, .int .i64 gr, .func (.func 44) #[] #[.pointer (some ⟨x0, 0, none⟩), .pointer (some ⟨x1, 0, none⟩), .pointer (some ⟨x2, 0, none⟩)]] w (MvR S w p pb pj A op C L kind m gr path A' E) := by
  have hml := hr.2.1
  unfold maxLen at hml
  obtain ⟨mn, hmn⟩ : ∃ x, x = min len 3 := ⟨_, rfl⟩
  have hmin : min (len : Int) 3 = (mn : Int) := by omega
  have hm3 : mn ≤ 3 := by omega
  have hml2 : mn ≤ len := by omega
  have HMN := Lib.hid hmn
  have HPU := Lib.hid h
  have HSS := Lib.hid hS
  have HR := Lib.hid hr
  have HLN : Hid (path.length = len) := Lib.hid hr.1
  have HCH := Lib.hid hch
  obtain ⟨w1, hw1⟩ : ∃ x, x = w.alloc (.cells #[.int .i64 0, .int .i64 0, .int .i64 0, .int .i64 0, .int .i64 0, .int .i64 0, .int .i64 0, .int .i64 0, .int .i64 0, .int .i64 0, .int .i64 0, .int .i64 0, .int .i64 0, .int .i64 0, .int .i64 0] 123) := ⟨_, rfl⟩
  obtain ⟨g, hgg⟩ : ∃ x, x = w.heap.size := ⟨_, rfl⟩
  have HAH : Hid (AhAt w1 g A path 0) := Lib.hid (by rw [hw1, hgg]; exact AhAt.new rfl w _ A path)
  have HO1 : Hid (Only (fun _ => False) w w1) := Lib.hid (by rw [hw1]; exact (Only.refl _ _).alloc _)
  have HGW := Lib.hid hgg
  clear h hS hr hch hmn
  go_enter Tryz.func37, Tryz.ntmps37
  go_upto_region 4 with fail
  simp only [← hw1, ← hgg]
  clear hw1 hgg
  go_wp2_with fail
  go_loopw [24] (fun iv wx => ∃ k : Nat, k ≤ mn ∧ iv = .int .i64 (k : Int) ∧ Hid (AhAt wx g A path k) ∧ Hid (Only (fun _ => False) w wx)) (fun iv _ => mn - (intOf iv).toNat)
  case atStart => exact ⟨0, by omega, rfl, HAH, HO1⟩
  case round =>
    clear HAH HO1
    obtain ⟨k, hk, rfl, HAH, HX⟩ := hrel
    rename World => wx
    by_cases h8 : k < mn
    · have hin : (k : Int) < (mn : Int) := by omega
      have hk0 : (0 : Int) ≤ (k : Int) := by omega
      have hkl : (k : Int) < (len : Int) := by omega
      have hk3 : (k : Int) < 3 := by omega
      obtain ⟨b, off, rfl, hcell⟩ := HR.out.2.2.2.resolve_left (by omega)
      have HGT : Hid (∀ w', Only (fun _ => False) wx w' → Calls Tryz.prog 61 #[.pointer (some ⟨pb, 0, none⟩), .int .i64 (path.getD k 0)] w' fun e w2 => e = .returned (fnd.aggA (fnd.acG A (path.getD k 0))) ∧ Only (fun _ => False) w' w2) := Lib.hid (fun w' ho => fnd.get_any pb A _ w' ((HPU.out.bk.only HX.out (fun f => f)).only ho (fun f => f)))
      obtain ⟨pk, hpk⟩ : ∃ x, path.getD k 0 = x := ⟨_, rfl⟩
      obtain ⟨ac, hac⟩ : ∃ x, fnd.acG A (path.getD k 0) = x := ⟨_, rfl⟩
      obtain ⟨at_, ac, ae, au, ah⟩ := ac
      have HAC := Lib.hid hac
      rw [hac, hpk] at HGT
      have HSL : Hid (∀ w', Only (fun _ => False) wx w' → w'.cell? ⟨p, 0, none⟩ = some (.pointer (some ⟨pb, 0, none⟩)) ∧ w'.cell? ⟨b, off + k, none⟩ = some (.int .i64 pk)) := Lib.hid (fun w' ho => ⟨(HX.out.trans ho).cell' HPU.out.c0 (fun f => f), by rw [← hpk]; exact (HX.out.trans ho).cell' (hcell k (by omega)) (fun f => f)⟩)
      unfold fnd.aggA at HGT
      dsimp only at HGT
      clear hac hcell
      go_upto_region 7 with fail
      clear hpk
      refine wp_region_noPanic ?_
      refine late.region (fun w' => w'.cell? ⟨p, 0, none⟩ = some (.pointer (some ⟨pb, 0, none⟩)) ∧ w'.cell? ⟨b, off + k, none⟩ = some (.int .i64 pk)) (fun j => [11].contains j) (by kernel_rfl) (HSL.out _ (Only.refl _ _).drew) (fun hHeld => ?_)
      obtain ⟨z0, hz0'⟩ : ∃ x, x = wx.drew := ⟨_, rfl⟩
      rw [← hz0'] at hHeld ⊢
      have hot : Hid (Only (fun _ => False) wx z0) := Lib.hid (by rw [hz0']; exact (Only.refl _ _).drew)
      clear hz0'
      refine sho.lt 0 [10, 11] ?_
      refine sho.lt 1 [2, 3, 4, 9, 10, 11] ?_
      refine sho.lt 2 [3, 4, 9, 10, 11] ?_
      refine sho.lt 3 [4, 9, 10, 11] ?_
      refine sho.lt 4 [9, 10, 11] ?_
      refine sho.lt 5 [7, 8, 9, 10, 11] ?_
      refine sho.lt 6 [7, 8, 9, 10, 11] ?_
      refine sho.lt 7 [8, 9, 10, 11] ?_
      refine sho.lt 8 [9, 10, 11] ?_
      refine late.ready (rs := [9]) (by kernel_rfl) (by simp) ?_
      refine late.Each.cons rfl (fun K hK => ?_) late.Each.nil
      try simp only [List.getElem_toArray, List.getElem_cons_zero, List.getElem_cons_succ]
      go_simp
      go_at_call 61
      with_reducible refine (HGT.out _ hot.out).mono ?_
      rintro _ z1 ⟨rfl, ho⟩
      replace hot := Lib.hid (hot.out.trans ho)
      clear ho HGT
      try dsimp only
      refine hK.out _ _ (fun _ => HSL.out _ hot.out) (fun hHeld1 => ?_)
      replace hHeld1 := hHeld1 rfl
      clear hK K
      try simp only [List.getElem_toArray, List.getElem_cons_zero, List.getElem_cons_succ, Act.put, List.setIfInBounds_toArray, List.set_cons_zero, List.set_cons_succ]
      refine sho.lt 10 [11] ?_
      refine late.ready (rs := [11]) (by kernel_rfl) (by simp) ?_
      refine late.Each.cons rfl (fun K hK => ?_) late.Each.nil
      try simp only [List.getElem_toArray, List.getElem_cons_zero, List.getElem_cons_succ]
      go_simp
      have HA1 := Lib.hid (HAH.out.only hot.out (fun f => f))
      obtain ⟨⟨u0, y0⟩, f0⟩ := HA1.out.2 (k * 5) (by omega)
      obtain ⟨⟨u1, y1⟩, f1⟩ := HA1.out.2 (k * 5 + 1) (by omega)
      obtain ⟨⟨u2, y2⟩, f2⟩ := HA1.out.2 (k * 5 + 2) (by omega)
      obtain ⟨⟨u3, y3⟩, f3⟩ := HA1.out.2 (k * 5 + 3) (by omega)
      obtain ⟨⟨u4, y4⟩, f4⟩ := HA1.out.2 (k * 5 + 4) (by omega)
      go_simp
      refine hK.out _ _ (fun h => by cases h) (fun _ => ?_)
      clear hK K
      clear y0 y1 y2 y3 y4 f0 f1 f2 f3 f4
      try simp only [List.getElem_toArray, List.getElem_cons_zero, List.getElem_cons_succ, Act.put, List.setIfInBounds_toArray, List.set_cons_zero, List.set_cons_succ]
      refine late.done (by kernel_rfl) ?_ _
      refine NoPanic.normal ?_
      clear hHeld
      have HAN := Lib.hid (HA1.out.put (by omega) HAC.out)
      have HXN : Hid (Only (fun _ => False) w (tre.put5 z1 g (k * 5) (.int .i64 at_) (.int .i64 ac) (.int .i64 ae) (.int .i64 au) (.int .i64 ah))) := Lib.hid ((HX.out.trans hot.out).then (tre.put5_only _ _ _ _ _ _ _ _) (fun q hq e => by have := HGW.out; have e : q = g := e; omega))
      obtain ⟨wz, hwz⟩ : ∃ y, y = tre.put5 z1 g (k * 5) (.int .i64 at_) (.int .i64 ac) (.int .i64 ae) (.int .i64 au) (.int .i64 ah) := ⟨_, rfl⟩
      rw [← hwz] at HAN HXN
      unfold tre.put5 at hwz
      rw [← hwz]
      clear hwz HA1 hot HAH HX HSL HAC
      go_wp2_with fail
      go_roundw
      case rel => exact ⟨k + 1, by omega, by go_num, HAN, HXN⟩
      case measure => (simp [intOf]; omega)
    · have hin : ¬ (k : Int) < (mn : Int) := by omega
      obtain rfl : mn = k := by omega
      have HCL := Lib.hid (HCH.out wx HX.out)
      clear HCH
      go_wp2_with fail
      refine HCL.out.mono ?_
      rintro _ w3 ⟨rfl, hb3, ho3⟩
      have HP3 := Lib.hid ((HPU.out.quiet HX.out).book hb3 hA' ho3)
      have HO3 : Hid (Only S w w3) := Lib.hid ((HX.out.mono (fun _ _ f => f.elim)).trans (ho3.mono (fun q _ e => by have e : q = pb := e; rw [e]; exact HPU.out.sb)))
      have HAH3 := Lib.hid (HAH.out.only ho3 (fun e => by have h1 := HPU.out.lt.2; have h2 := HGW.out; have e : g = pb := e; omega))
      clear hb3 ho3 HCL HAH
      by_cases hE : E = 0
      · subst hE
        have hk9 := hok rfl
        have HK := Lib.hid hk9
        have HR3 : Hid (ReadsI w3 a len path) := Lib.hid (HR.out.only HO3.out ha)
        have hle3 : len ≤ 3 := by have := hk9.n3; have := HLN.out; omega
        have HSZ3 := Lib.hid HO3.out.size
        have HPP := Lib.hid (ppost_any kind m gr hg a len cap path w3 HP3.out (fun q hq => by have := HSS.out q hq; have := HSZ3.out; omega) hL HR3.out hlc hcm)
        clear h0 hok hk9
        go_wp2_with fail
        refine HPP.out.mono ?_
        rintro _ w4 (⟨er, hne, rfl, ho4, hno⟩ | ⟨rfl, ls, x, hyes, hx1, hx2, hx3, hp4, ho4⟩)
        · have heb : (er == 0) = false := by rw [beq_eq_false_iff_ne]; exact hne
          have hen : (er != 0) = true := by rw [bne_iff_ne]; exact hne
          have HP4 := Lib.hid (HP3.out.quiet ho4)
          have HO4 : Hid (Only S w w4) := Lib.hid (HO3.out.trans (ho4.mono (fun _ _ f => f.elim)))
          have HAH4 := Lib.hid (HAH3.out.only ho4 (fun f => f))
          have HNO := Lib.hid hno
          clear hno ho4 HPP
          go_wp2_with fail
          go_loopw [54] (fun iv wx => ∃ k : Nat, k ≤ len ∧ iv = .int .i64 (k : Int) ∧ Hid (Pu S wx p pb pj (resT A A' (path.take k)) op C L) ∧ Hid (Only S w wx) ∧ Hid (AhAt wx g A path len)) (fun iv _ => len - (intOf iv).toNat)
          case atStart => exact ⟨0, by omega, rfl, HP4, HO4, Lib.hid ((show mn = len from by have := HMN.out; omega) ▸ HAH4.out)⟩
          case round =>
            clear HP4 HO4 HAH4 HAH3 HP3 HO3
            obtain ⟨i, hi, rfl, HPI, HOI, HAI⟩ := hrel
            rename World => wy
            by_cases h9 : i < len
            · have hil : (i : Int) < (len : Int) := by omega
              have hi0 : (0 : Int) ≤ (i : Int) := by omega
              have hi3 : (i : Int) < 3 := by omega
              obtain ⟨b, off, rfl, hcell⟩ := HR.out.2.2.2.resolve_left (by omega)
              have hci := HOI.out.cell' (hcell i h9) (show ¬ S b from ha _ rfl)
              have hmem : path.getD i 0 ∈ path := by
                rw [List.getD_eq_getElem?_getD, List.getElem?_eq_getElem (by have := HLN.out; omega)]; exact List.getElem_mem _
              have hnd := HK.out.nd _ hmem
              have HTK : Hid (resT A A' (path.take (i + 1)) = (resT A A' (path.take i)).set (path.getD i 0).toNat (A.getD (path.getD i 0).toNat fnd.zA)) := Lib.hid (by
                rw [← resT_snoc, List.take_add_one, List.getElem?_eq_getElem (by have := HLN.out; omega)]
                rw [List.getD_eq_getElem?_getD, List.getElem?_eq_getElem (by have := HLN.out; omega)]; rfl)
              obtain ⟨pk, hpk⟩ : ∃ x, path.getD i 0 = x := ⟨_, rfl⟩
              have hac := HAI.out.1 i h9
              rw [hpk] at hci hnd HTK hac
              have hag : fnd.acG A pk = A.getD pk.toNat fnd.zA := by unfold fnd.acG; rw [if_pos hnd]
              have hrt : fnd.Right (fnd.acG A pk) := fnd.acG_ok HPU.out.bok pk
              obtain ⟨ac, hacd⟩ : ∃ x, fnd.acG A pk = x := ⟨_, rfl⟩
              rw [← hag] at HTK
              rw [hacd] at hac hrt HTK
              have hse : fnd.setE pk ac = 0 := by unfold fnd.setE; rw [if_pos ⟨hnd, hrt⟩]
              have hsa : fnd.setA (resT A A' (path.take i)) pk ac = resT A A' (path.take (i + 1)) := by unfold fnd.setA; rw [if_pos hse, HTK.out]
              have HST : Hid (∀ w', Only (fun _ => False) wy w' → Calls Tryz.prog 65 #[.pointer (some ⟨pb, 0, none⟩), .int .i64 pk, fnd.aggA ac] w' (fnd.FDid pb (resT A A' (path.take (i + 1))) 0 w')) := Lib.hid (fun w' ho => by
                have h1 := fnd.set_any pb (resT A A' (path.take i)) pk ac w' (HPI.out.bk.only ho (fun f => f)) HPI.out.bok.len
                rw [hse, hsa] at h1
                exact h1)
              have HBOK : Hid (fnd.Bok (resT A A' (path.take (i + 1)))) := Lib.hid (by rw [← hsa]; exact HPI.out.bok.setA pk ac)
              obtain ⟨at_, ac, ae, au, ah⟩ := ac
              obtain ⟨d0, d1, d2, d3, d4⟩ := hac
              dsimp only at d0 d1 d2 d3 d4
              have HSL : Hid (∀ w', Only (fun _ => False) wy w' → w'.cell? ⟨p, 0, none⟩ = some (.pointer (some ⟨pb, 0, none⟩)) ∧ w'.cell? ⟨g, i * 5, none⟩ = some (.int .i64 at_) ∧ w'.cell? ⟨g, i * 5 + 1, none⟩ = some (.int .i64 ac) ∧ w'.cell? ⟨g, i * 5 + 2, none⟩ = some (.int .i64 ae) ∧ w'.cell? ⟨g, i * 5 + 3, none⟩ = some (.int .i64 au) ∧ w'.cell? ⟨g, i * 5 + 4, none⟩ = some (.int .i64 ah)) := Lib.hid (fun w' ho => ⟨ho.cell' HPI.out.c0 (fun f => f), ho.cell' d0 (fun f => f), ho.cell' d1 (fun f => f), ho.cell' d2 (fun f => f), ho.cell' d3 (fun f => f), ho.cell' d4 (fun f => f)⟩)
              unfold fnd.aggA at HST
              dsimp only at HST
              clear hcell hmem hnd HTK hag hrt hacd hse hsa d0 d1 d2 d3 d4
              go_upto_region 17 with fail
              clear hci hpk
              refine wp_region_noPanic ?_
              refine late.region (fun w' => w'.cell? ⟨p, 0, none⟩ = some (.pointer (some ⟨pb, 0, none⟩)) ∧ w'.cell? ⟨g, i * 5, none⟩ = some (.int .i64 at_) ∧ w'.cell? ⟨g, i * 5 + 1, none⟩ = some (.int .i64 ac) ∧ w'.cell? ⟨g, i * 5 + 2, none⟩ = some (.int .i64 ae) ∧ w'.cell? ⟨g, i * 5 + 3, none⟩ = some (.int .i64 au) ∧ w'.cell? ⟨g, i * 5 + 4, none⟩ = some (.int .i64 ah)) (fun j => [].contains j) (by kernel_rfl) (HSL.out _ (Only.refl _ _).drew) (fun hHeld => ?_)
              obtain ⟨z0, hz0'⟩ : ∃ x, x = wy.drew := ⟨_, rfl⟩
              rw [← hz0'] at hHeld ⊢
              have hot : Hid (Only (fun _ => False) wy z0) := Lib.hid (by rw [hz0']; exact (Only.refl _ _).drew)
              clear hz0'
              refine sho.lt 0 [1, 2, 3, 8] ?_
              refine sho.lt 1 [2, 3, 8] ?_
              refine sho.lt 2 [3, 8] ?_
              refine sho.lt 3 [8] ?_
              refine sho.lt 4 [8] ?_
              refine sho.lt 5 [6, 7, 8] ?_
              refine sho.lt 6 [7, 8] ?_
              refine sho.lt 7 [8] ?_
              refine late.ready (rs := [8]) (by kernel_rfl) (by simp) ?_
              refine late.Each.cons rfl (fun K hK => ?_) late.Each.nil
              try simp only [List.getElem_toArray, List.getElem_cons_zero, List.getElem_cons_succ]
              go_simp
              go_at_call 65
              with_reducible refine (HST.out _ hot.out).mono ?_
              rintro _ z1 ⟨rfl, hb, ho⟩
              have HPN := Lib.hid ((HPI.out.quiet hot.out).book hb HBOK.out ho)
              have hgp : ¬ g = pb := fun e => by have h1 := HPU.out.lt.2; have h2 := HGW.out; omega
              have HON : Hid (Only S w z1) := Lib.hid ((HOI.out.trans (hot.out.mono (fun _ _ f => f.elim))).trans (ho.mono (fun q _ e => by have e : q = pb := e; rw [e]; exact HPU.out.sb)))
              have HAN := Lib.hid ((HAI.out.only hot.out (fun f => f)).only ho hgp)
              have HSZ : Hid (z1.cell? ⟨p, 0, none⟩ = some (.pointer (some ⟨pb, 0, none⟩)) ∧ z1.cell? ⟨g, i * 5, none⟩ = some (.int .i64 at_) ∧ z1.cell? ⟨g, i * 5 + 1, none⟩ = some (.int .i64 ac) ∧ z1.cell? ⟨g, i * 5 + 2, none⟩ = some (.int .i64 ae) ∧ z1.cell? ⟨g, i * 5 + 3, none⟩ = some (.int .i64 au) ∧ z1.cell? ⟨g, i * 5 + 4, none⟩ = some (.int .i64 ah)) := Lib.hid (by
                obtain ⟨k0, k1, k2, k3, k4, k5⟩ := HSL.out _ hot.out
                exact ⟨ho.cell' k0 (fun e => HPU.out.ne e), ho.cell' k1 hgp, ho.cell' k2 hgp, ho.cell' k3 hgp, ho.cell' k4 hgp, ho.cell' k5 hgp⟩)
              clear hb ho hgp HST
              try dsimp only
              refine hK.out _ _ (fun _ => HSZ.out) (fun hHeld1 => ?_)
              replace hHeld1 := hHeld1 rfl
              clear hK K
              try simp only [List.getElem_toArray, List.getElem_cons_zero, List.getElem_cons_succ, Act.put, List.setIfInBounds_toArray, List.set_cons_zero, List.set_cons_succ]
              refine late.done (by kernel_rfl) ?_ _
              refine NoPanic.normal ?_
              clear hHeld
              clear hot HSL HSZ HPI HOI HAI HBOK
              go_wp2_with fail
              go_roundw
              case rel => exact ⟨i + 1, by omega, by go_num, HPN, HON, HAN⟩
              case measure => (simp [intOf]; omega)
            · have hil : ¬ (i : Int) < (len : Int) := by omega
              obtain rfl : len = i := by omega
              have hbk := HPI.out
              rw [List.take_of_length_le (by have := HLN.out; omega), HK.out.back HPU.out.bok.len hA'.len] at hbk
              have HEND : Hid (MvR S w p pb pj A op C L kind m gr path A' 0 (.returned (.int .i64 er)) wy) := Lib.hid (.inl ⟨er, hne, rfl, hbk, HOI.out, .inr ⟨rfl, HNO.out⟩⟩)
              clear hbk HPI HOI HAI HNO
              go_wp2_with fail
              go_ret
              exact HEND.out
        · have HEND : Hid (MvR S w p pb pj A op C L kind m gr path A' 0 (.returned (.int .i64 0)) w4) := Lib.hid (.inr ⟨rfl, rfl, ls, x, hyes, hx1, hx2, hx3, hp4.mono (fun q _ hq => hq.imp (fun y => y) (fun y => by have := HSZ3.out; omega)), HO3.out.trans (ho4.mono (fun q _ hq => hq.1))⟩)
          clear hyes hx1 hx2 hx3 hp4 ho4 HPP HP3 HAH3 HO3
          go_wp2_with fail
          go_ret
          exact HEND.out
      · have heb : (E == 0) = false := by rw [beq_eq_false_iff_ne]; exact hE
        have hen : (E != 0) = true := by rw [bne_iff_ne]; exact hE
        have HEND : Hid (MvR S w p pb pj A op C L kind m gr path A' E (.returned (.int .i64 E)) w3) := Lib.hid (.inl ⟨E, hE, rfl, by have h9 := HP3.out; rw [h0 hE] at h9; exact h9, HO3.out, .inl rfl⟩)
        clear HP3 HAH3 HO3 h0 hok hE
        go_wp2_with fail
        go_ret
        exact HEND.out
end Go.Proofs.YtkbaafgaaiekpaaGreat.puw
