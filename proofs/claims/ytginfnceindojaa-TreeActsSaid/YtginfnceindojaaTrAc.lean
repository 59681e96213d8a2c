/- TreeActs' walk. -/
import Derived.Test.YtginfnceindojaaTrNl
import Derived.Test.YtginfnceindojaaTrH
import Derived.Deep.CutRange
import Derived.Deep.CutBlock
namespace Go.Proofs.Ytginfnceindojaa.tre
open Go.RowKit mem
set_option linter.unusedVariables false

theorem nonek (w : World) : Calls Try.prog 24 #[] w fun e w' => e = .returned (.pointer none) ∧ Only (fun _ => False) w w' :=
  (none_any w).mono fun _ _ ⟨h1, h2⟩ => ⟨h1, by subst h2; exact Only.refl _ _⟩
theorem RowS.only {w w' : World} {a : Option Addr} {len : Nat} (h : RowS w a len) (ho : Only (fun _ => False) w w') : RowS w' a len := by
  refine ⟨h.1, h.2.imp (fun x => x) fun ⟨b, off, e, hc⟩ => ⟨b, off, e, fun i hi => ?_⟩⟩
  obtain ⟨x0, x1, x2, x3, x4, hin, d0, d1, d2, d3, d4⟩ := hc i hi
  exact ⟨x0, x1, x2, x3, x4, hin, ho.cell' d0 (fun f => f), ho.cell' d1 (fun f => f), ho.cell' d2 (fun f => f), ho.cell' d3 (fun f => f), ho.cell' d4 (fun f => f)⟩
theorem idsU_one (T : List Nd) : idsU T 1 = [] := by
  have h0 : hasB T ((0 : Nat) : Int) = false := by simp [hasB]
  rw [idsU_succ, if_neg (by rw [h0]; simp)]; rfl
set_option maxRecDepth 100000 in
set_option maxHeartbeats 8000000 in
theorem acts_any (a1 : Option Addr) (l1 c1 : Nat) (ask : Int) (w0 : World) (h0 : RowS w0 a1 l1) :
    Calls Try.prog 6 #[.slice a1 l1 c1, .int .i64 ask] w0 fun e w' => e = .returned (.bool true) ∧ Only (fun _ => False) w0 w' := by
  obtain ⟨i1, hj, hy0, hy1, hy2⟩ : ∃ i1, Try.prog.info? 3 = some i1 ∧ i1.zero = some (.int .i64 0) ∧ i1.size = 1 ∧ i1.bytes = 8 := by
    obtain ⟨i, h1, h2⟩ := Option.map_eq_some_iff.1 info_i64
    exact ⟨i, h1, by simpa using h2⟩
  have H0 := Lib.hid h0
  have hm1 := h0.1
  unfold maxLen at hm1
  clear h0
  go_enter Try.func6, Try.ntmps6
  go_wp2_with fail
  refine (nonek _).mono ?_
  rintro _ x1 ⟨rfl, k1⟩
  have K1 : Hid (Only (fun _ => False) w0 x1) := Lib.hid (k1)
  clear k1
  go_wp2_with fail
  refine (get_nil 1 _).mono ?_
  rintro _ x2 ⟨rfl, k2⟩
  have K2 : Hid (Only (fun _ => False) w0 x2) := Lib.hid (K1.out.trans k2)
  clear k2 K1
  go_wp2_with fail
  refine (nonek _).mono ?_
  rintro _ x3 ⟨rfl, k3⟩
  have K3 : Hid (Only (fun _ => False) w0 x3) := Lib.hid ((K2.out.alloc _).trans k3)
  clear k3 K2
  go_wp2_with fail
  refine (path_nil 1 _).mono ?_
  rintro _ x4 ⟨rfl, k4⟩
  have K4 : Hid (Only (fun _ => False) w0 x4) := Lib.hid (K3.out.trans k4)
  clear k4 K3
  go_wp2_with fail
  refine (nonek _).mono ?_
  rintro _ x5 ⟨rfl, k5⟩
  have K5 : Hid (Only (fun _ => False) w0 x5) := Lib.hid (K4.out.trans k5)
  clear k5 K4
  go_wp2_with fail
  refine (below_nil 1 _).mono ?_
  rintro _ x6 ⟨rfl, k6⟩
  have K6 : Hid (Only (fun _ => False) w0 x6) := Lib.hid (K5.out.trans k6)
  clear k6 K5
  go_wp2_with fail
  refine (trees_any _).mono ?_
  rintro _ x7 ⟨rfl, k7⟩
  have K7 : Hid (Only (fun _ => False) w0 x7) := Lib.hid (K6.out.trans k7)
  clear k7 K6
  go_wp2_with fail
  refine (nonek _).mono ?_
  rintro _ x8 ⟨rfl, k8⟩
  have K8 : Hid (Only (fun _ => False) w0 x8) := Lib.hid (K7.out.trans k8)
  clear k8 K7
  go_wp2_with fail
  refine (create_nil 1 0 1 0 _).mono ?_
  rintro _ x9 ⟨rfl, k9⟩
  have K9 : Hid (Only (fun _ => False) w0 x9) := Lib.hid (K8.out.trans k9)
  clear k9 K8
  go_wp2_with fail
  refine (nonek _).mono ?_
  rintro _ x10 ⟨rfl, k10⟩
  have K10 : Hid (Only (fun _ => False) w0 x10) := Lib.hid (K9.out.trans k10)
  clear k10 K9
  go_wp2_with fail
  refine (move_nil 1 2 _).mono ?_
  rintro _ x11 ⟨rfl, k11⟩
  have K11 : Hid (Only (fun _ => False) w0 x11) := Lib.hid (K10.out.trans k11)
  clear k11 K10
  go_wp2_with fail
  refine (nonek _).mono ?_
  rintro _ x12 ⟨rfl, k12⟩
  have K12 : Hid (Only (fun _ => False) w0 x12) := Lib.hid (K11.out.trans k12)
  clear k12 K11
  go_wp2_with fail
  refine (close_nil 1 _).mono ?_
  rintro _ x13 ⟨rfl, k13⟩
  have K13 : Hid (Only (fun _ => False) w0 x13) := Lib.hid (K12.out.trans k13)
  clear k13 K12
  go_wp2_with fail
  refine (nonek _).mono ?_
  rintro _ x14 ⟨rfl, k14⟩
  have K14 : Hid (Only (fun _ => False) w0 x14) := Lib.hid (K13.out.trans k14)
  clear k14 K13
  go_wp2_with fail
  refine (limit_nil 1 1 _).mono ?_
  rintro _ x15 ⟨rfl, k15⟩
  have K15 : Hid (Only (fun _ => False) w0 x15) := Lib.hid (K14.out.trans k15)
  clear k15 K14
  go_wp2_with fail
  refine (nonek _).mono ?_
  rintro _ x16 ⟨rfl, k16⟩
  have K16 : Hid (Only (fun _ => False) w0 x16) := Lib.hid (K15.out.trans k16)
  clear k16 K15
  go_wp2_with fail
  refine (put_nil 0 0 0 0 false _).mono ?_
  rintro _ x17 ⟨rfl, k17⟩
  have K17 : Hid (Only (fun _ => False) w0 x17) := Lib.hid (K16.out.trans k17)
  clear k17 K16
  go_wp2_with fail
  refine (nonek _).mono ?_
  rintro _ x18 ⟨rfl, k18⟩
  have K18 : Hid (Only (fun _ => False) w0 x18) := Lib.hid (K17.out.trans k18)
  clear k18 K17
  go_wp2_with fail
  refine (ids_nil _).mono ?_
  rintro _ x19 ⟨rfl, k19⟩
  have K19 : Hid (Only (fun _ => False) w0 x19) := Lib.hid (K18.out.trans k19)
  clear k19 K18
  rename World => w
  have H1 := Lib.hid (H0.out.only K19.out)
  clear H0
  go_wp2_with fail
  refine (newB w.heap.size w (Nat.le_refl _)).mono ?_
  rintro _ w1 ⟨rfl, ht, ho⟩
  have hp0 : w.heap.size < w1.heap.size := ht.1.lt
  have HB0 : Hid (BB w.heap.size (w1.alloc (.cells Try.zeroCells49 49)) w.heap.size w1.heap.size T0) := Lib.hid ⟨ht.1.only ((Only.refl (fun _ => False) _).alloc _) (fun f => f), RAt.new w1, Nat.le_refl _, by omega, by omega, Tok.new, Nul.new⟩
  have HO0 : Hid (Only (fun x => w.heap.size ≤ x) w (w1.alloc (.cells Try.zeroCells49 49))) := Lib.hid ((ho.mono (fun _ _ f => f.elim)).alloc _)
  clear ht ho
  obtain ⟨p, hp⟩ : ∃ p, p = w.heap.size := ⟨_, rfl⟩
  obtain ⟨q, hq⟩ : ∃ q, q = w1.heap.size := ⟨_, rfl⟩
  obtain ⟨w2, hw2⟩ : ∃ x, x = w1.alloc (.cells Try.zeroCells49 49) := ⟨_, rfl⟩
  have HP := Lib.hid hp
  go_upto_block 0 with fail
  simp only [← hp, ← hq, ← hw2] at HB0 HO0 hp0 ⊢
  clear hp hq hw2 hp0
  go_cut [13] from 89 to 106 (fun iv wx => ∃ (k : Int) (T : List Nd), iv = .int .i64 k ∧ Hid (BB p wx p q T) ∧ Hid (Only (fun x => p ≤ x) w wx))
  case first =>
    go_wp2_with fail
    go_loopw [13] (fun iv wr => ∃ (k : Nat) (T : List Nd), k ≤ 60 ∧ iv = .int .i64 (k : Int) ∧ Hid (BB p wr p q T) ∧ Hid (Only (fun x => p ≤ x) w wr)) (fun iv _ => 60 - (intOf iv).toNat)
    case atStart => exact ⟨0, T0, by omega, rfl, HB0, HO0⟩
    case round =>
      obtain ⟨k, T, hk, rfl, HB, HO⟩ := hrel
      by_cases h8 : k < l1
      · by_cases h20 : k < 60
        · obtain ⟨b, off, rfl, hcell⟩ := H1.out.2.resolve_left (by omega)
          obtain ⟨x0, x1, x2, x3, x4, -, d0, d1, d2, d3, d4⟩ := hcell k h8
          have hnb : ¬ p ≤ b := by
            have := World.block_lt_of_cell? w _ d0
            have := HP.out
            simp only at *
            omega
          replace d0 := HO.out.cell' d0 hnb
          replace d1 := HO.out.cell' d1 hnb
          replace d2 := HO.out.cell' d2 hnb
          replace d3 := HO.out.cell' d3 hnb
          replace d4 := HO.out.cell' d4 hnb
          clear hcell hnb
          have hk1 : (k : Int) < l1 := by omega
          have hk2 : (k : Int) < 60 := by omega
          have hk0 : (0 : Int) ≤ k := by omega
          go_wp2_with fail
          refine (do_any p p q T x0 x1 x2 x3 x4 wr HB.out).mono ?_
          rintro _ w5 ⟨rfl, ⟨T', hb⟩, ho⟩
          have HB5 := Lib.hid hb
          have HO5 : Hid (Only (fun x => p ≤ x) w w5) := Lib.hid (HO.out.trans (ho.mono (fun k _ e => e.elim (fun e => by omega) (fun e => by have := HB.out.2.2.2.1; omega))))
          clear hb ho d0 d1 d2 d3 d4
          go_wp2_with fail
          go_roundw
          case rel => exact ⟨k + 1, T', by omega, by go_num, HB5, HO5⟩
          case measure => simp [intOf]; omega
        · have hk2 : ¬ (k : Int) < 60 := by omega
          go_wp2_with fail
          go_meet
          exact ⟨_, T, rfl, HB, HO⟩
      · go_wp2_with fail
        go_meet
        exact ⟨_, T, rfl, HB, HO⟩
  case rest =>
    obtain ⟨k, T, rfl, HB, HO⟩ := hcut
    rename World => w4
    clear HB0 HO0
    have HTK := Lib.hid HB.out.2.2.2.2.2.1
    have HNU := Lib.hid HB.out.2.2.2.2.2.2
    have HU1 := Lib.hid (idsU_one T)
    have HUS := Lib.hid (idsU_succ T)
    have HUI := Lib.hid (idsU_in T)
    have HUL := Lib.hid (idsU_len T)
    have HID : Hid (idsL T = idsU T 33) := Lib.hid rfl
    go_wp2_with fail
    go_loopw [14, 15] (fun ov iv wr => ∃ (i : Nat) (dv : Value), 1 ≤ i ∧ i ≤ 33 ∧ iv = .int .i64 (i : Int) ∧ dv = ov ∧ Hid (OwnI wr dv (idsU T i)) ∧ Hid (∀ q', dv.ownBlock = some q' → w4.heap.size ≤ q') ∧ Hid (Only (fun _ => False) w4 wr)) (fun _ iv _ => 33 - (intOf iv).toNat)
    case atStart => exact ⟨1, _, by omega, by omega, rfl, rfl, Lib.hid (by rw [HU1.out]; exact OwnI.nil _), Lib.hid (fun q e => by cases e), Lib.hid (Only.refl _ _)⟩
    case round =>
      obtain ⟨i, dv, hi1, hi, rfl, rfl, HOI, HBK, HZ⟩ := hrel
      rename World => wr
      by_cases h8 : i ≤ 32
      · have hin : (i : Int) ≤ 32 := by omega
        have HH := Lib.hid (there_any q T (i : Int) wr (HB.out.2.1.only HZ.out (fun f => f)) HTK.out HNU.out)
        have HSU := Lib.hid (HUS.out i)
        by_cases hb : hasB T (i : Int) = true
        · rw [hb] at HH
          have HSV : Hid (idsU T (i + 1) = idsU T i ++ [(i : Int)]) := Lib.hid (by rw [HSU.out, if_pos hb])
          have HOW2 : Hid ((wr.alloc (.cells #[.int .i64 i] 3)).ownsRow 0 3 1 dv (idsU T i).length (iv (idsU T i))) := Lib.hid (HOI.out.only ((Only.refl (fun _ => False) wr).alloc _) (fun _ _ f => f))
          have hnl := HUL.out i
          generalize hn : (idsU T i).length = n at *
          have HN := Lib.hid hn
          clear hb hn HSU
          go_wp2_with fail
          refine HH.out.mono ?_
          rintro _ _ ⟨rfl, rfl⟩
          go_wp2_with (at_builtin; refine append_mine rfl _ _ 22 rfl 3 i1 _ 1 8 Try.underlying22 hj hy0 hy1 hy2 rfl (by decide) _ n _ rfl HOW2.out ⟨wr.heap.size, 0, none⟩ 1 1 (iv [(i : Int)]) rfl ?c1 ?c2 ?c3 ?c4 ?c5 ?_)
          case c1 => rfl
          case c2 => first | exact news_int rfl _ | (intro j u hu; exact hu)
          case c3 => exact iv_one _
          case c4 => unfold maxLen; omega
          case c5 => omega
          intro v3 w3 hown hgrow hkk
          have HON : Hid (OwnI w3 v3 (idsU T (i + 1))) := Lib.hid (by
            unfold OwnI
            rw [HSV.out, iv_append, List.length_append, HN.out]
            exact hown)
          have HBN : Hid (∀ q, v3.ownBlock = some q → w4.heap.size ≤ q) := Lib.hid (fun q hq => by
            rcases hkk q hq with e | e
            · exact HBK.out q e
            · have h5 : wr.heap.size ≤ q := by first | omega | (simp only [size_alloc] at e; omega)
              have := HZ.out.size
              omega)
          have HON2 : Hid (Only (fun _ => False) w4 w3) := Lib.hid ((HZ.out.alloc _).then (Only.of_grown hgrow) (fun q hq e => by have := HBK.out q e; omega))
          clear hown hgrow hkk HOW2
          go_wp2_with fail
          go_roundw
          case rel => exact ⟨i + 1, v3, by omega, by omega, by go_num, rfl, HON, HBN, HON2⟩
          case measure => simp [intOf]; omega
        · have hb' : hasB T (i : Int) = false := by simpa using hb
          rw [hb'] at HH
          have HSV : Hid (OwnI wr dv (idsU T (i + 1))) := Lib.hid (by rw [HSU.out, if_neg hb]; exact HOI.out)
          clear hb hb' HSU
          go_wp2_with fail
          refine HH.out.mono ?_
          rintro _ _ ⟨rfl, rfl⟩
          go_wp2_with fail
          go_roundw
          case rel => exact ⟨i + 1, dv, by omega, by omega, by go_num, rfl, HSV, HBK, HZ⟩
          case measure => simp [intOf]; omega
      · obtain rfl : i = 33 := by omega
        have hul := HUL.out 33
        obtain ⟨a5, c5, rfl, hr5, -⟩ := HOI.out.reads (fun c hc => by have := HUI.out 33 c hc; omega) (by omega)
        have HR5 := Lib.hid hr5
        have HB5 := Lib.hid (HB.out.only HZ.out)
        have HO5 : Hid (Only (fun x => p ≤ x) w wr) := Lib.hid (HO.out.trans (HZ.out.mono (fun _ _ f => f.elim)))
        have HIA := Lib.hid (ids_any p T wr HB5.out.1)
        rw [HID.out] at HIA
        clear hr5 HOI HBK HZ HB HO HU1 HUS
        generalize idsU T 33 = IL at *
        generalize hn : IL.length = n at *
        go_wp2_with fail
        refine HIA.out.mono ?_
        rintro _ w6 ⟨⟨v, rfl, a6, c6, rfl, hr6, hb6⟩, ho⟩
        rw [hn] at hr6 ⊢
        have HR6 := Lib.hid hr6
        have HB6 := Lib.hid (HB5.out.only ho)
        have HO6 : Hid (Only (fun x => p ≤ x) w w6) := Lib.hid (HO5.out.trans (ho.mono (fun _ _ f => f.elim)))
        have HR56 := Lib.hid (HR5.out.only ho (fun _ _ f => f))
        clear hr6 hb6 ho HB5 HO5 HR5 HIA
        go_wp2_with fail
        refine (same_any _ _ _ _ _ _ _ HR6.out HR56.out).mono ?_
        rintro _ w7 ⟨rfl, ho⟩
        have HB7 := Lib.hid (HB6.out.only ho)
        have HO7 : Hid (Only (fun x => p ≤ x) w w7) := Lib.hid (HO6.out.trans (ho.mono (fun _ _ f => f.elim)))
        clear ho HB6 HO6 HR6 HR56 HUI HUL HID hul
        clear hn IL
        go_wp2_with fail
        go_loopw [16] (fun iv wr => ∃ i : Nat, i ≤ 35 ∧ iv = .int .i64 (i : Int) ∧ Hid (Only (fun _ => False) w7 wr)) (fun iv _ => 35 - (intOf iv).toNat)
        case atStart => exact ⟨0, by omega, rfl, Lib.hid (Only.refl _ _)⟩
        case round =>
          obtain ⟨i, hi, rfl, HZ⟩ := hrel
          rename World => wr
          by_cases h9 : i ≤ 34
          · have hin : (i : Int) ≤ 34 := by omega
            go_upto_if 129 with fail
            go_cut [17] from 130 to 130 (fun uv wx => ∃ u : Int, uv = .int .i64 u ∧ Hid (Only (fun _ => False) w7 wx))
            case first =>
              by_cases h34 : i = 34
              · subst h34
                go_wp2_with fail
                go_meet
                exact ⟨_, rfl, HZ⟩
              · have hib : ((i : Int) == 34) = false := by simp; omega
                go_wp2_with fail
                go_meet
                exact ⟨_, rfl, HZ⟩
            case rest =>
              obtain ⟨u, rfl, HZ1⟩ := hcut
              rename World => wx
              clear HZ
              have HB8 := Lib.hid (HB7.out.only HZ1.out)
              obtain ⟨ni, np, nk, nl, nc, ge, hgo, hge, hno, hyes, HG, HX⟩ := get_ahead p T u wx HB8.out.1
              have HPA : Hid (∀ wy, TreeAt wy p T → _) := Lib.hid (fun wy hy => bigpath_any p T u wy hy HTK.out.inv)
              have HBE : Hid (∀ wy, TreeAt wy p T → _) := Lib.hid (fun wy hy => below_any p T u wy hy HTK.out.inv)
              rw [hge] at HPA HBE
              have HGO := Lib.hid hgo
              have HNO := Lib.hid hno
              have HYES := Lib.hid hyes
              have HTH : Hid (∀ wy, RAt wy q T → _) := Lib.hid (fun wy hy => there_any q T u wy hy HTK.out HNU.out)
              clear hgo hge hno hyes
              have HPL0 : ∃ PL, Hid ((if hasB T u = true then pathL T u else []) = PL) := ⟨_, Lib.hid rfl⟩
              obtain ⟨PL, HPL⟩ := HPL0
              have HBL0 : ∃ BL, Hid ((if hasB T u = true then belowL T u else []) = BL) := ⟨_, Lib.hid rfl⟩
              obtain ⟨BL, HBL⟩ := HBL0
              rw [HPL.out] at HPA
              rw [HBL.out] at HBE
              have HLN : Hid (PL.length ≤ 1000 ∧ BL.length ≤ 1000) := Lib.hid (by
                rw [← HPL.out, ← HBL.out]
                by_cases hb : hasB T u = true
                · rw [if_pos hb, if_pos hb]
                  have h1 := pathL_len T u
                  have h2 := (kindN_pos HTK.out hb).2.1
                  have h3 := belowL_len T u
                  omega
                · rw [if_neg hb, if_neg hb]; simp)
              go_wp2_with fail
              refine HG.out.mono ?_
              rintro _ w9 ⟨rfl, ho⟩
              obtain ⟨e0, e1, e2, e3, e4, ho9⟩ := HX.out w9 ho
              have HZ9 := Lib.hid (HZ1.out.trans ho9)
              have HB9 := Lib.hid (HB8.out.only ho9)
              clear ho ho9 HG HX HB8 HZ1
              obtain ⟨w10, hw10⟩ : ∃ x, x = w9.alloc (.cells #[.int .i64 ni, .int .i64 np, .int .i64 nk, .int .i64 nl, .bool nc] 33) := ⟨_, rfl⟩
              obtain ⟨g, hg⟩ : ∃ x, x = w9.heap.size := ⟨_, rfl⟩
              simp only [← hw10, ← hg] at e0 e1 e2 e3 e4 HZ9 HB9
              go_upto_region 27 with fail
              simp only [← hw10, ← hg]
              clear hw10 hg
              go_wp2_with fail
              refine (HPA.out _ HB9.out.1).mono ?_
              rintro _ w11 ⟨⟨v, rfl, a4, c4, rfl, hr4, hb4⟩, ho⟩
              have HR4 := Lib.hid hr4
              have HZ11 := Lib.hid (HZ9.out.trans ho)
              have HB11 := Lib.hid (HB9.out.only ho)
              replace e0 := ho.cell' e0 (fun f => f)
              replace e1 := ho.cell' e1 (fun f => f)
              replace e2 := ho.cell' e2 (fun f => f)
              replace e3 := ho.cell' e3 (fun f => f)
              replace e4 := ho.cell' e4 (fun f => f)
              clear hr4 hb4 ho HZ9 HB9 HPA
              go_wp2_with fail
              refine (HBE.out _ HB11.out.1).mono ?_
              rintro _ w12 ⟨⟨v, rfl, a5, c5, rfl, hr5, hb5⟩, ho⟩
              have HR5 := Lib.hid hr5
              have HR45 := Lib.hid (HR4.out.only ho (fun _ _ f => f))
              have HZ12 := Lib.hid (HZ11.out.trans ho)
              have HB12 := Lib.hid (HB11.out.only ho)
              replace e0 := ho.cell' e0 (fun f => f)
              replace e1 := ho.cell' e1 (fun f => f)
              replace e2 := ho.cell' e2 (fun f => f)
              replace e3 := ho.cell' e3 (fun f => f)
              replace e4 := ho.cell' e4 (fun f => f)
              clear hr5 hb5 ho HZ11 HB11 HBE HR4
              go_wp2_with fail
              refine (HTH.out _ HB12.out.2.1).mono ?_
              rintro _ _ ⟨rfl, rfl⟩
              by_cases hb : hasB T u = true
              · rw [hb]
                obtain ⟨rfl, kk, hkk, kk1, kk2, hgd, hi0⟩ := HYES.out hb
                have hpl := HPL.out
                have hbl := HBL.out
                rw [if_pos hb] at hpl hbl
                obtain ⟨j, rfl⟩ : ∃ j, kk = j + 1 := ⟨kk - 1, by omega⟩
                have hji : ((j + 1 : Nat) : Int) = (j : Int) + 1 := by omega
                rw [hji] at hkk
                subst hkk
                have hidk : ni = (j : Int) + 1 := by
                  have := (HTK.out.idk (j + 1) kk2).resolve_left (by rw [hgd]; exact hi0)
                  rw [hgd] at this
                  dsimp only at this
                  omega
                subst hidk
                have hins := HTK.out.ins (j + 1) (by rw [hji]; exact hb)
                rw [hgd] at hins
                have HEQ := Lib.hid (nd_eq ((j : Int) + 1) np nk nl nc hins.1 hins.2.1 hins.2.2.1 hins.2.2.2)
                have hj32 : j < 32 := by omega
                have hj2 : (j : Int) < 32 := by omega
                have hj0 : (0 : Int) ≤ j := by omega
                have hwj : IntKind.i64.wrap (j : Int) = (j : Int) := IntWalk.i64_in _ (by omega)
                have hc := HB12.out.2.1.1 j hj32
                rw [hgd] at hc
                obtain ⟨d0, d1, d2, d3⟩ := hc
                dsimp only at d0 d1 d2 d3
                have HRP : Hid (∀ wy, RAt wy q T → _) := Lib.hid (fun wy hy => rpath_any q T ((j : Int) + 1) wy hy HTK.out HNU.out)
                have HRB : Hid (∀ wy, RAt wy q T → _) := Lib.hid (fun wy hy => rbelow_any q T ((j : Int) + 1) wy hy HTK.out HNU.out)
                have hpq : PQ T ((j : Int) + 1) = PL := by unfold PQ; rw [if_pos hb, hpl]
                rw [hpq] at HRP
                rw [hbl] at HRB
                have HPI : Hid (∀ c ∈ PL, 0 ≤ c ∧ c ≤ 100) := Lib.hid (by rw [← hpq]; exact PQ_in HTK.out _)
                have HBI : Hid (∀ c ∈ BL, 0 ≤ c ∧ c ≤ 100) := Lib.hid (by rw [← hbl]; exact fun c hc => by have := belowL_in c hc; omega)
                have heq := HEQ.out
                obtain ⟨w13, hw13⟩ : ∃ x, x = w12.alloc (.cells #[.int .i64 np, .int .i64 nk, .int .i64 nl, .bool nc] 46) := ⟨_, rfl⟩
                obtain ⟨g2, hg2⟩ : ∃ x, x = w12.heap.size := ⟨_, rfl⟩
                have ho : Only (fun _ => False) w12 w13 := by rw [hw13]; exact (Only.refl _ _).alloc _
                have f0 : w13.cell? ⟨g2, 0, none⟩ = some (.int .i64 np) := by rw [hw13]; exact alloc_cell hg2 rfl
                have f1 : w13.cell? ⟨g2, 1, none⟩ = some (.int .i64 nk) := by rw [hw13]; exact alloc_cell hg2 rfl
                have f2 : w13.cell? ⟨g2, 2, none⟩ = some (.int .i64 nl) := by rw [hw13]; exact alloc_cell hg2 rfl
                have f3 : w13.cell? ⟨g2, 3, none⟩ = some (.bool nc) := by rw [hw13]; exact alloc_cell hg2 rfl
                replace e0 := ho.cell' e0 (fun f => f)
                replace e1 := ho.cell' e1 (fun f => f)
                replace e2 := ho.cell' e2 (fun f => f)
                replace e3 := ho.cell' e3 (fun f => f)
                replace e4 := ho.cell' e4 (fun f => f)
                have HB13 := Lib.hid (HB12.out.only ho)
                have HZ13 := Lib.hid (HZ12.out.trans ho)
                have HR51 := Lib.hid (HR5.out.only ho (fun _ _ f => f))
                have HR41 := Lib.hid (HR45.out.only ho (fun _ _ f => f))
                clear ho HB12 HZ12 HR5 HR45 hins hgd hi0 hb hpl hbl hpq hji HYES HNO HPL HBL HGO HTH kk1 kk2
                have hl1 := HLN.out.1
                have hl2 := HLN.out.2
                go_upto_region 33 with fail
                rw [← hw13, ← hg2]
                clear hw13 hg2 d0 d1 d2 d3
                go_wp2_with fail
                refine (HRP.out _ HB13.out.2.1).mono ?_
                rintro _ w14 ⟨⟨v, rfl, hown, -⟩, ho⟩
                obtain ⟨a7, c7, rfl, hr7, -⟩ := hown.reads HPI.out (by omega)
                have HR7 := Lib.hid hr7
                have HR42 := Lib.hid (HR41.out.only ho (fun _ _ f => f))
                have HR52 := Lib.hid (HR51.out.only ho (fun _ _ f => f))
                have HB14 := Lib.hid (HB13.out.only ho)
                have HZ14 := Lib.hid (HZ13.out.trans ho)
                clear hown hr7 ho HR41 HR51 HB13 HZ13 HRP heq HEQ e0 e1 e2 e3 e4 f0 f1 f2 f3
                go_wp2_with fail
                refine (same_any _ _ _ _ _ _ _ HR42.out HR7.out).mono ?_
                rintro _ w15 ⟨rfl, ho⟩
                have HR53 := Lib.hid (HR52.out.only ho (fun _ _ f => f))
                have HB15 := Lib.hid (HB14.out.only ho)
                have HZ15 := Lib.hid (HZ14.out.trans ho)
                clear ho HR42 HR7 HR52 HB14 HZ14
                go_wp2_with fail
                refine (HRB.out _ HB15.out.2.1).mono ?_
                rintro _ w16 ⟨⟨v, rfl, hown, -⟩, ho⟩
                obtain ⟨a8, c8, rfl, hr8, -⟩ := hown.reads HBI.out (by omega)
                have HR8 := Lib.hid hr8
                have HR54 := Lib.hid (HR53.out.only ho (fun _ _ f => f))
                have HZ16 := Lib.hid (HZ15.out.trans ho)
                clear hown hr8 ho HR53 HB15 HZ15 HRB
                go_wp2_with fail
                refine (same_any _ _ _ _ _ _ _ HR54.out HR8.out).mono ?_
                rintro _ w17 ⟨rfl, ho⟩
                have HZ17 := Lib.hid (HZ16.out.trans ho)
                clear ho HR54 HR8 HZ16
                go_wp2_with fail
                go_roundw
                case rel => exact ⟨i + 1, by omega, by go_num, HZ17⟩
                case measure => simp [intOf]; omega
              · have hb' : hasB T u = false := by simpa using hb
                rw [hb']
                obtain rfl := HNO.out hb'
                have hpl := HPL.out
                have hbl := HBL.out
                rw [if_neg hb] at hpl hbl
                subst hpl hbl
                have hgz := HGO.out
                unfold got at hgz
                rw [if_neg hb] at hgz
                injection hgz with z0 z1 z2 z3 z4
                subst z0 z1 z2 z3 z4
                have heq := nd_eq 0 0 0 0 false (by unfold InI; omega) (by unfold InI; omega) (by unfold InI; omega) (by unfold InI; omega)
                have hl0 : ([] : List Int).length = 0 := rfl
                rw [hl0]
                clear hb hb' HYES HNO HPL HBL HGO HTH HLN HR5 HR45 HB12
                go_wp2_with fail
                go_roundw
                case rel => exact ⟨i + 1, by omega, by go_num, HZ12⟩
                case measure => simp [intOf]; omega
          · obtain rfl : i = 35 := by omega
            have HEND : Hid (Only (fun _ => False) w0 wr) := Lib.hid (K19.out.trans ((HO7.out.trans (HZ.out.mono (fun _ _ f => f.elim))).mono (fun k hk hs => by have := HP.out; omega)))
            go_wp2_with fail
            go_ret
            exact ⟨rfl, HEND.out⟩
end Go.Proofs.Ytginfnceindojaa.tre
