/- TreeMoves' walk. -/
import Derived.Test.YtginfnceindojaaTrV
import Derived.Test.YtginfnceindojaaTrH
import Derived.Deep.CutRange
import Derived.Deep.CutBlock
namespace Go.Proofs.Ytginfnceindojaa.tre
open Go.RowKit mem
set_option linter.unusedVariables false

set_option maxRecDepth 100000 in
set_option maxHeartbeats 8000000 in
theorem moves_any (a1 : Option Addr) (l1 c1 : Nat) (id par : Int) (w : World) (h1 : RowS w a1 l1) :
    Calls Try.prog 5 #[.slice a1 l1 c1, .int .i64 id, .int .i64 par] w fun e w' => e = .returned (.bool true) ∧ Only (fun _ => False) w w' := by
  have H1 := Lib.hid h1
  have hm1 := h1.1
  unfold maxLen at hm1
  clear h1
  go_enter Try.func5, Try.ntmps5
  go_wp2_with fail
  refine (newB w.heap.size w (Nat.le_refl _)).mono ?_
  rintro _ w1 ⟨rfl, ht, ho⟩
  have hp0 : w.heap.size < w1.heap.size := ht.1.lt
  have HB0 : Hid (BB w.heap.size (w1.alloc (.cells Try.zeroCells49 49)) w.heap.size w1.heap.size T0) := Lib.hid ⟨ht.1.only ((Only.refl (fun _ => False) _).alloc _) (fun f => f), RAt.new w1, Nat.le_refl _, by omega, by omega, Tok.new, Nul.new⟩
  have HO0 : Hid (Only (fun x => w.heap.size ≤ x) w (w1.alloc (.cells Try.zeroCells49 49))) := Lib.hid ((ho.mono (fun _ _ f => f.elim)).alloc _)
  clear ht ho
  obtain ⟨p, hp⟩ : ∃ p, p = w.heap.size := ⟨_, rfl⟩
  obtain ⟨q, hq⟩ : ∃ q, q = w1.heap.size := ⟨_, rfl⟩
  obtain ⟨w2, hw2⟩ : ∃ x, x = w1.alloc (.cells Try.zeroCells49 49) := ⟨_, rfl⟩
  have HP := Lib.hid hp
  go_upto_block 0 with fail
  simp only [← hp, ← hq, ← hw2] at HB0 HO0 hp0 ⊢
  clear hp hq hw2 hp0
  go_cut [9] from 26 to 43 (fun iv wx => ∃ (k : Int) (T : List Nd), iv = .int .i64 k ∧ Hid (BB p wx p q T) ∧ Hid (Only (fun x => p ≤ x) w wx))
  case first =>
    go_wp2_with fail
    go_loopw [9] (fun iv wr => ∃ (k : Nat) (T : List Nd), k ≤ 60 ∧ iv = .int .i64 (k : Int) ∧ Hid (BB p wr p q T) ∧ Hid (Only (fun x => p ≤ x) w wr)) (fun iv _ => 60 - (intOf iv).toNat)
    case atStart => exact ⟨0, T0, by omega, rfl, HB0, HO0⟩
    case round =>
      obtain ⟨k, T, hk, rfl, HB, HO⟩ := hrel
      by_cases h8 : k < l1
      · by_cases h20 : k < 60
        · obtain ⟨b, off, rfl, hcell⟩ := H1.out.2.resolve_left (by omega)
          obtain ⟨x0, x1, x2, x3, x4, -, d0, d1, d2, d3, d4⟩ := hcell k h8
          have hnb : ¬ p ≤ b := by
            have := World.block_lt_of_cell? w _ d0
            have := HP.out
            simp only at *
            omega
          replace d0 := HO.out.cell' d0 hnb
          replace d1 := HO.out.cell' d1 hnb
          replace d2 := HO.out.cell' d2 hnb
          replace d3 := HO.out.cell' d3 hnb
          replace d4 := HO.out.cell' d4 hnb
          clear hcell hnb
          have hk1 : (k : Int) < l1 := by omega
          have hk2 : (k : Int) < 60 := by omega
          have hk0 : (0 : Int) ≤ k := by omega
          go_wp2_with fail
          refine (do_any p p q T x0 x1 x2 x3 x4 wr HB.out).mono ?_
          rintro _ w5 ⟨rfl, ⟨T', hb⟩, ho⟩
          have HB5 := Lib.hid hb
          have HO5 : Hid (Only (fun x => p ≤ x) w w5) := Lib.hid (HO.out.trans (ho.mono (fun k _ e => e.elim (fun e => by omega) (fun e => by have := HB.out.2.2.2.1; omega))))
          clear hb ho d0 d1 d2 d3 d4
          go_wp2_with fail
          go_roundw
          case rel => exact ⟨k + 1, T', by omega, by go_num, HB5, HO5⟩
          case measure => simp [intOf]; omega
        · have hk2 : ¬ (k : Int) < 60 := by omega
          go_wp2_with fail
          go_meet
          exact ⟨_, T, rfl, HB, HO⟩
      · go_wp2_with fail
        go_meet
        exact ⟨_, T, rfl, HB, HO⟩
  case rest =>
    obtain ⟨k, T, rfl, HB, HO⟩ := hcut
    rename World => w4
    clear HB0 HO0
    have HTK := Lib.hid HB.out.2.2.2.2.2.1
    have HT : Hid (TreeAt w4 p T) := Lib.hid HB.out.1
    obtain ⟨ni, np, nk, nl, nc, ge, hgo, hge, hno, hyes, HG, HX⟩ := get_ahead p T id w4 HT.out
    have HBE : Hid (∀ wy, TreeAt wy p T → _) := Lib.hid (fun wy hy => below_any p T id wy hy HTK.out.inv)
    have HMV : Hid (∀ wy, TreeAt wy p T → _) := Lib.hid (fun wy hy => move_any p T id par wy hy HTK.out.kok)
    have HGO := Lib.hid hgo
    have HGE := Lib.hid hge
    have hee : (ge != ge) = false := by simp
    rw [hge] at HBE
    have HBL : Hid ((if hasB T id = true then belowL T id else []) = (if hasB T id = true then belowL T id else [])) := Lib.hid rfl
    have HMO : Hid (movE T id par = 0 → _) := Lib.hid (fun he => moved HTK.out he)
    have HNO := Lib.hid hno
    have HYES := Lib.hid hyes
    clear hgo hge hno hyes HB
    generalize hbl : (if hasB T id = true then belowL T id else []) = BL at *
    have HBQ := Lib.hid hbl
    clear hbl HBL
    go_wp2_with fail
    refine HG.out.mono ?_
    rintro _ w5 ⟨rfl, ho⟩
    obtain ⟨e0, e1, e2, e3, e4, ho9⟩ := HX.out w5 ho
    have HO6 : Hid (Only (fun x => p ≤ x) w (w5.alloc (.cells #[.int .i64 ni, .int .i64 np, .int .i64 nk, .int .i64 nl, .bool nc] 33))) := Lib.hid (HO.out.trans (ho9.mono (fun _ _ f => f.elim)))
    have HT6 := Lib.hid (HT.out.only ho9 (fun f => f))
    have HGB : Hid (w4.heap.size ≤ w5.heap.size) := Lib.hid ho.size
    have HPL : Hid (p < w5.heap.size) := Lib.hid (by have := HT.out.lt; have := ho.size; omega)
    clear ho ho9 HG HX HO HT
    obtain ⟨w6, hw6⟩ : ∃ x, x = w5.alloc (.cells #[.int .i64 ni, .int .i64 np, .int .i64 nk, .int .i64 nl, .bool nc] 33) := ⟨_, rfl⟩
    obtain ⟨g, hg⟩ : ∃ x, x = w5.heap.size := ⟨_, rfl⟩
    simp only [← hw6, ← hg] at e0 e1 e2 e3 e4 HT6 HO6 HPL
    go_upto_region 8 with fail
    simp only [← hw6, ← hg]
    have HNG : Hid (g ≠ p) := Lib.hid (by have := HPL.out; omega)
    clear hw6 hg HGB
    go_wp2_with fail
    refine (HBE.out _ HT6.out).mono ?_
    rintro _ w7 ⟨⟨v, rfl, a2, c2, rfl, hr2, hb2⟩, ho⟩
    have HR2 := Lib.hid hr2
    have HT7 := Lib.hid (HT6.out.only ho (fun f => f))
    have HO7 : Hid (Only (fun x => p ≤ x) w w7) := Lib.hid (HO6.out.trans (ho.mono (fun _ _ f => f.elim)))
    have HPB : Hid (∀ y, a2 = some y → ¬ y.block = p) := Lib.hid (fun y hy => by have := hb2 y hy; have := HT6.out.lt; omega)
    replace e0 := ho.cell' e0 (fun f => f)
    replace e1 := ho.cell' e1 (fun f => f)
    replace e2 := ho.cell' e2 (fun f => f)
    replace e3 := ho.cell' e3 (fun f => f)
    replace e4 := ho.cell' e4 (fun f => f)
    clear hr2 hb2 ho HT6 HO6 HBE
    go_wp2_with fail
    refine (trees_any _).mono ?_
    rintro _ w8 ⟨rfl, ho⟩
    have HT8 := Lib.hid (HT7.out.only ho (fun f => f))
    have HO8 : Hid (Only (fun x => p ≤ x) w w8) := Lib.hid (HO7.out.trans (ho.mono (fun _ _ f => f.elim)))
    have HR8 := Lib.hid (HR2.out.only ho (fun _ _ f => f))
    replace e0 := ho.cell' e0 (fun f => f)
    replace e1 := ho.cell' e1 (fun f => f)
    replace e2 := ho.cell' e2 (fun f => f)
    replace e3 := ho.cell' e3 (fun f => f)
    replace e4 := ho.cell' e4 (fun f => f)
    clear ho HT7 HO7 HR2
    go_wp2_with fail
    refine (HMV.out _ HT8.out).mono ?_
    rintro _ w9 ⟨rfl, ht, ho⟩
    have HT9 := Lib.hid ht
    have HO9 : Hid (Only (fun x => p ≤ x) w w9) := Lib.hid (HO8.out.trans (ho.mono (fun _ _ f => by omega)))
    have HR9 := Lib.hid (HR8.out.only ho HPB.out)
    replace e0 := ho.cell' e0 HNG.out
    replace e1 := ho.cell' e1 HNG.out
    replace e2 := ho.cell' e2 HNG.out
    replace e3 := ho.cell' e3 HNG.out
    replace e4 := ho.cell' e4 HNG.out
    clear ht ho HT8 HO8 HR8 HMV
    have HEND : Hid (∀ wy, Only (fun x => p ≤ x) w wy → Only (fun _ => False) w wy) := Lib.hid (fun wy h => h.mono (fun k hk hs => by have := HP.out; omega))
    by_cases hmz : movE T id par = 0
    · obtain ⟨b1, b2, htk, hgt, hbel, ⟨m, hkm, hm1', hlen, hget⟩, hne, hpar, hback⟩ := HMO.out hmz
      rw [hmz]
      obtain ⟨rfl, kk, hkk, kk1, kk2, hgd, -⟩ := HYES.out b1
      have hbq := HBQ.out
      rw [if_pos b1, ← hbel] at hbq
      have HB2 : Hid (∀ wy, TreeAt wy p (movT T id par) → Calls Try.prog 21 #[.pointer (some ⟨p, 0, none⟩), .int .i64 id] wy fun e w' => (∃ v, e = .returned (.tuple #[v, .int .i64 0]) ∧ RetI BL wy v w') ∧ Only (fun _ => False) wy w') := Lib.hid (fun wy hy => by
        have := below_any p _ id wy hy htk.inv
        rw [show gotE (movT T id par) id = 0 by unfold gotE; rw [if_pos b2], if_pos b2, hbq] at this
        exact this)
      have HP2 : Hid (∀ wy, TreeAt wy p (movT T id par) → Calls Try.prog 20 #[.pointer (some ⟨p, 0, none⟩), .int .i64 id] wy fun e w' => (∃ v, e = .returned (.tuple #[v, .int .i64 0]) ∧ RetI (pathL (movT T id par) id) wy v w') ∧ Only (fun _ => False) wy w') := Lib.hid (fun wy hy => by
        have := bigpath_any p _ id wy hy htk.inv
        rw [show gotE (movT T id par) id = 0 by unfold gotE; rw [if_pos b2], if_pos b2] at this
        exact this)
      have HG2 : Hid (∀ wy, TreeAt wy p (movT T id par) → Calls Try.prog 17 #[.pointer (some ⟨p, 0, none⟩), .int .i64 (got T id).par] wy fun e w' => e = .returned (.tuple #[aggN (got (movT T id par) (got T id).par), .int .i64 0]) ∧ Only (fun _ => False) wy w') := Lib.hid (fun wy hy => by
        have := get_any p _ (got T id).par wy hy
        rw [show gotE (movT T id par) (got T id).par = 0 by unfold gotE; rw [if_pos hpar]] at this
        exact this)
      have HM2 : Hid (∀ wy, TreeAt wy p (movT T id par) → (got (movT T id par) (got T id).par).cl = false → Calls Try.prog 14 #[.pointer (some ⟨p, 0, none⟩), .int .i64 id, .int .i64 (got T id).par] wy (Did p T 0 wy)) := Lib.hid (fun wy hy hc => by
        have := move_any p _ id (got T id).par wy hy htk.kok
        rw [(hback hc).1, (hback hc).2] at this
        exact this)
      have HG3 : Hid (∀ wy, TreeAt wy p T → Calls Try.prog 17 #[.pointer (some ⟨p, 0, none⟩), .int .i64 id] wy fun e w' => e = .returned (.tuple #[aggN (got T id), .int .i64 0]) ∧ Only (fun _ => False) wy w') := Lib.hid (fun wy hy => by
        have := get_any p _ id wy hy
        rw [show gotE T id = 0 by unfold gotE; rw [if_pos b1]] at this
        exact this)
      have hins : InI ni ∧ InI np ∧ InI nk ∧ InI nl := by
        have := HTK.out.ins kk (by rw [← hkk]; exact b1)
        rw [hgd] at this
        exact this
      have HEQ := Lib.hid (nd_eq ni np nk nl nc hins.1 hins.2.1 hins.2.2.1 hins.2.2.2)
      have HLEN := Lib.hid hlen
      have HGET := Lib.hid hget
      rw [HGO.out] at HG2 HM2 HG3 hkm hne
      dsimp only at HG2 HM2 HG3 hkm hne
      unfold aggN at HG3
      dsimp only at HG3
      subst hkm
      have hnpb : (np == par) = false := by simpa using hne
      have hm0 : (0 : Int) ≤ m := by omega
      have hml : (m : Int) < (m : Int) + 2 := by omega
      have hwm : IntKind.i64.wrap (m : Int) = (m : Int) := IntWalk.i64_in _ (by omega)
      clear hmz b1 b2 htk hgt hbel hlen hget hne hpar hback hkk kk1 kk2 hgd hbq HMO HYES HNO hins HBQ HGO HGE
      generalize movT T id par = T' at *
      generalize pathL T' id = PL at *
      generalize got T' np = xn at *
      obtain ⟨yi, yp, yk, yl, yc⟩ := xn
      unfold aggN at HG2
      dsimp only at HG2 HM2
      go_wp2_with fail
      refine (HB2.out _ HT9.out).mono ?_
      rintro _ w10 ⟨⟨v, rfl, a3, c3, rfl, hr3, hb3⟩, ho⟩
      have HR3 := Lib.hid hr3
      have HR10 := Lib.hid (HR9.out.only ho (fun _ _ f => f))
      have HT10 := Lib.hid (HT9.out.only ho (fun f => f))
      have HO10 : Hid (Only (fun x => p ≤ x) w w10) := Lib.hid (HO9.out.trans (ho.mono (fun _ _ f => f.elim)))
      replace e0 := ho.cell' e0 (fun f => f)
      replace e1 := ho.cell' e1 (fun f => f)
      replace e2 := ho.cell' e2 (fun f => f)
      replace e3 := ho.cell' e3 (fun f => f)
      replace e4 := ho.cell' e4 (fun f => f)
      clear hr3 hb3 ho HT9 HO9 HR9 HB2
      go_wp2_with fail
      refine (HP2.out _ HT10.out).mono ?_
      rintro _ w11 ⟨⟨v, rfl, a4, c4, rfl, hr4, hb4⟩, ho⟩
      rw [HLEN.out] at hr4 ⊢
      have HR4 := Lib.hid hr4
      have HR11 := Lib.hid (HR10.out.only ho (fun _ _ f => f))
      have HR31 := Lib.hid (HR3.out.only ho (fun _ _ f => f))
      have HT11 := Lib.hid (HT10.out.only ho (fun f => f))
      have HO11 : Hid (Only (fun x => p ≤ x) w w11) := Lib.hid (HO10.out.trans (ho.mono (fun _ _ f => f.elim)))
      replace e0 := ho.cell' e0 (fun f => f)
      replace e1 := ho.cell' e1 (fun f => f)
      replace e2 := ho.cell' e2 (fun f => f)
      replace e3 := ho.cell' e3 (fun f => f)
      replace e4 := ho.cell' e4 (fun f => f)
      clear hr4 hb4 ho HT10 HO10 HR10 HR3 HP2
      go_wp2_with fail
      refine (same_any _ _ _ _ _ _ _ HR11.out HR31.out).mono ?_
      rintro _ w12 ⟨rfl, ho⟩
      obtain ⟨b4, off4, rfl, hcell4⟩ := HR4.out.2.2.2.resolve_left (by omega)
      have f4 := ho.cell' (hcell4 m (by omega)) (fun f => f)
      rw [HGET.out] at f4
      have HT12 := Lib.hid (HT11.out.only ho (fun f => f))
      have HO12 : Hid (Only (fun x => p ≤ x) w w12) := Lib.hid (HO11.out.trans (ho.mono (fun _ _ f => f.elim)))
      replace e0 := ho.cell' e0 (fun f => f)
      replace e1 := ho.cell' e1 (fun f => f)
      replace e2 := ho.cell' e2 (fun f => f)
      replace e3 := ho.cell' e3 (fun f => f)
      replace e4 := ho.cell' e4 (fun f => f)
      clear ho HT11 HO11 HR11 HR31 HR4 hcell4
      go_wp2_with fail
      refine (HG2.out _ HT12.out).mono ?_
      rintro _ w13 ⟨rfl, ho⟩
      obtain ⟨d0, d1, d2, d3, d4, ho9⟩ := node_box 33 (.int .i64 yi) (.int .i64 yp) (.int .i64 yk) (.int .i64 yl) (.bool yc) (Only.refl (fun _ => False) w13)
      have ho10 := ho.trans ho9
      have HT14 := Lib.hid (HT12.out.only ho10 (fun f => f))
      have HO14 : Hid (Only (fun x => p ≤ x) w (w13.alloc (.cells #[.int .i64 yi, .int .i64 yp, .int .i64 yk, .int .i64 yl, .bool yc] 33))) := Lib.hid (HO12.out.trans (ho10.mono (fun _ _ f => f.elim)))
      replace e0 := ho10.cell' e0 (fun f => f)
      replace e1 := ho10.cell' e1 (fun f => f)
      replace e2 := ho10.cell' e2 (fun f => f)
      replace e3 := ho10.cell' e3 (fun f => f)
      replace e4 := ho10.cell' e4 (fun f => f)
      clear ho ho9 ho10 HT12 HO12 HG2 d0 d1 d2 d3 f4
      obtain ⟨w14, hw14⟩ : ∃ x, x = w13.alloc (.cells #[.int .i64 yi, .int .i64 yp, .int .i64 yk, .int .i64 yl, .bool yc] 33) := ⟨_, rfl⟩
      obtain ⟨g3, hg3⟩ : ∃ x, x = w13.heap.size := ⟨_, rfl⟩
      simp only [← hw14, ← hg3] at e0 e1 e2 e3 e4 d4 HT14 HO14
      go_upto_region 18 with fail
      simp only [← hw14, ← hg3]
      clear hw14 hg3
      cases yc
      · have HM3 := Lib.hid (HM2.out _ HT14.out rfl)
        go_wp2_with fail
        refine HM3.out.mono ?_
        rintro _ w15 ⟨rfl, ht, ho⟩
        have HT15 := Lib.hid ht
        have HO15 : Hid (Only (fun x => p ≤ x) w w15) := Lib.hid (HO14.out.trans (ho.mono (fun _ _ f => by omega)))
        replace e0 := ho.cell' e0 HNG.out
        replace e1 := ho.cell' e1 HNG.out
        replace e2 := ho.cell' e2 HNG.out
        replace e3 := ho.cell' e3 HNG.out
        replace e4 := ho.cell' e4 HNG.out
        clear ht ho HT14 HO14 HM3 HM2 d4
        go_wp2_with fail
        refine (HG3.out _ HT15.out).mono ?_
        rintro _ w16 ⟨rfl, ho⟩
        obtain ⟨d0, d1, d2, d3, d4, ho9⟩ := node_box 33 (.int .i64 ni) (.int .i64 np) (.int .i64 ((m : Int) + 2)) (.int .i64 nl) (.bool nc) (Only.refl (fun _ => False) w16)
        have ho10 := ho.trans ho9
        have HO17 := Lib.hid (HEND.out _ (HO15.out.trans (ho10.mono (fun _ _ f => f.elim))))
        replace e0 := ho10.cell' e0 (fun f => f)
        replace e1 := ho10.cell' e1 (fun f => f)
        replace e2 := ho10.cell' e2 (fun f => f)
        replace e3 := ho10.cell' e3 (fun f => f)
        replace e4 := ho10.cell' e4 (fun f => f)
        have heq := HEQ.out
        clear ho ho9 ho10 HT15 HO15 HG3 HEQ HEND
        go_wp2_with fail
        go_ret
        exact ⟨rfl, HO17.out⟩
      · have HO17 := Lib.hid (HEND.out _ HO14.out)
        go_wp2_with fail
        go_ret
        exact ⟨rfl, HO17.out⟩
    · have hmb : (movE T id par != 0) = true := by simpa using hmz
      have HO17 := Lib.hid (HEND.out _ HO9.out)
      clear hmz HMO HYES HNO
      generalize movE T id par = me at *
      go_wp2_with fail
      go_ret
      exact ⟨rfl, HO17.out⟩
end Go.Proofs.Ytginfnceindojaa.tre
