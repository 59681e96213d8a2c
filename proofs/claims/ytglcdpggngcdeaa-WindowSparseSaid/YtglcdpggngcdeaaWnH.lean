/- WindowSparse's walk. -/
import Derived.Test.YtglcdpggngcdeaaWnG
import Derived.Lib.MinMax
namespace Go.Proofs.Ytglcdpggngcdeaa.wnd
open Go.RowKit mem rowz dskw
set_option linter.unusedVariables false

set_option maxRecDepth 100000 in
set_option maxHeartbeats 8000000 in
theorem sparse_any (most : Int) (a : Option Addr) (len cap : Nat) (ask : Int) (G : List Int) (w : World) (h : ReadsI w a len G) :
    Calls Try.prog 11 #[.int .i64 most, .slice a len cap, .int .i64 ask] w fun e w' => e = .returned (.bool true) ∧ Only (fun _ => False) w w' := by
  have H := Lib.hid h
  have hm1 := h.2.1
  unfold maxLen at hm1
  obtain ⟨i1, hj, hy0, hy1, hy2⟩ : ∃ i1, Try.prog.info? 3 = some i1 ∧ i1.zero = some (.int .i64 0) ∧ i1.size = 1 ∧ i1.bytes = 8 := by
    obtain ⟨i, h1, h2⟩ := Option.map_eq_some_iff.1 info_i64
    exact ⟨i, h1, by simpa using h2⟩
  have hz := tmod_in most 6 (by decide) (by decide)
  clear h
  generalize hzz : wrap64 ((IntKind.u64.wrap most).tmod 6) = z at hz
  obtain ⟨hz0, hz1⟩ := hz
  obtain ⟨zn, rfl⟩ : ∃ zn : Nat, z = zn := ⟨z.toNat, by omega⟩
  have HAZ := Lib.hid (tmod_in ask 120 (by decide) (by decide))
  have HW : Hid (∀ w', Only (fun q => w.heap.size ≤ q) w w' → Only (fun _ => False) w w') := Lib.hid (fun w' ho => (Only.refl _ w).then ho (fun q hq e => by omega))
  go_enter Try.func11, Try.ntmps11
  go_upto_region 2 with fail
  clear hzz
  go_wp2_with fail
  refine (wb_new (1 + (zn : Int)) false w (by omega) (by omega)).mono ?_
  rintro _ w1 ⟨rfl, hwb, ho⟩
  have HB1 : Hid (WS (fun q => w.heap.size ≤ q ∧ (.slice none 0 0 : Value).ownBlock ≠ some q) w1 w.heap.size (1 + (zn : Int)) false []) := Lib.hid (WS.mono (S := fun q => w.heap.size ≤ q) hwb (fun q _ s => ⟨s, by simp [Value.ownBlock]⟩))
  have HO1 : Hid (Only (fun q => w.heap.size ≤ q) w w1) := Lib.hid (ho.mono (fun _ _ f => f.elim))
  have hsz := ho.size
  obtain ⟨p, hp⟩ : ∃ x, x = w.heap.size := ⟨_, rfl⟩
  have HP := Lib.hid hp
  rw [← hp] at HB1 HO1 HW hsz ⊢
  clear hwb ho hp
  go_wp2_with fail
  refine (windows_any _).mono ?_
  rintro _ w2 ⟨rfl, ho⟩
  have HB2 := Lib.hid (HB1.out.quiet ho)
  have HO2 : Hid (Only (fun q => p ≤ q) w w2) := Lib.hid (HO1.out.trans (ho.mono (fun _ _ f => f.elim)))
  have hs2 := Nat.le_trans hsz ho.size
  clear ho HB1 HO1 hsz
  go_upto_block 0 with fail
  go_cut [9, 10, 11] from 34 to 65 (fun ov lv iv wx => ∃ (i : Nat) (dv : Value), i ≤ 20 ∧ iv = .int .i64 (i : Int) ∧ lv = .int .i64 (lst G i) ∧ dv = ov ∧ Hid (OwnI wx dv (numL G i)) ∧ Hid (∀ q, dv.ownBlock = some q → p ≤ q) ∧ Hid (WS (fun q => p ≤ q ∧ dv.ownBlock ≠ some q) wx p (1 + (zn : Int)) false (KN (zn + 1) (fS G) i)) ∧ Hid (Only (fun q => p ≤ q) w wx) ∧ p ≤ wx.heap.size)
  case first =>
    go_wp2_with fail
    go_loopw [9, 10, 11] (fun ov lv iv wr => ∃ (i : Nat) (dv : Value), i ≤ 20 ∧ iv = .int .i64 (i : Int) ∧ lv = .int .i64 (lst G i) ∧ dv = ov ∧ Hid (OwnI wr dv (numL G i)) ∧ Hid (∀ q, dv.ownBlock = some q → p ≤ q) ∧ Hid (WS (fun q => p ≤ q ∧ dv.ownBlock ≠ some q) wr p (1 + (zn : Int)) false (KN (zn + 1) (fS G) i)) ∧ Hid (Only (fun q => p ≤ q) w wr) ∧ p ≤ wr.heap.size) (fun _ _ iv _ => 20 - (intOf iv).toNat)
    case atStart => exact ⟨0, _, by omega, rfl, rfl, rfl, Lib.hid (OwnI.nil _), Lib.hid (fun q e => by cases e), HB2, HO2, hs2⟩
    case round =>
      obtain ⟨i, dv, hi, rfl, rfl, rfl, HI, HBK, HB, HO, hs⟩ := hrel
      rename World => wr
      by_cases h8 : i < len
      · by_cases h20 : i < 20
        · have hin : (i : Int) < len := by omega
          have hi20 : (i : Int) < 20 := by omega
          have hi0 : (0 : Int) ≤ i := by omega
          have hw8 : IntKind.u8.wrap (i : Int) = (i : Int) := by rw [IntKind.wrap_u8]; omega
          obtain ⟨b, off, rfl, hcell⟩ := H.out.2.2.2.resolve_left (by omega)
          have cx0 := hcell i h8
          have hbw : ¬ p ≤ b := by
            have := World.block_lt_of_cell? w _ cx0
            rw [HP.out]; simp only at this; omega
          have cx := HO.out.cell' cx0 hbw
          have hlb := lst_bd G i
          obtain ⟨hl1, hl2⟩ := hlb
          have hgb := gapN_bd (G.getD i 0)
          have hls : lst G (i + 1) = lst G i + 1 + gapN (G.getD i 0) := rfl
          have hgz : wrap64 ((IntKind.u64.wrap (G.getD i 0)).tmod 5) = gapN (G.getD i 0) := rfl
          have HNS := Lib.hid (numL_succ G i)
          have HNL := Lib.hid (numL_len G i)
          have HKS : Hid (keepE (KN (zn + 1) (fS G) i) false ⟨lst G (i + 1), [1], [i]⟩ = 0 ∧ keepR (KN (zn + 1) (fS G) i) (1 + (zn : Int)) false ⟨lst G (i + 1), [1], [i]⟩ = KN (zn + 1) (fS G) (i + 1)) := Lib.hid (ks_step G (zn + 1) i (by omega) (by omega))
          generalize G.getD i 0 = x at *
          generalize gapN x = gx at *
          generalize lst G i = l0 at *
          obtain ⟨hg1, hg2⟩ := hgb
          have HLS : Hid (lst G (i + 1) = l0 + 1 + gx) := Lib.hid hls
          rw [hls] at HKS HNS
          clear hcell hls hbw cx0
          go_upto_region 11 with fail
          clear hgz cx
          generalize hl9 : l0 + 1 + gx = l9 at *
          clear hl9 hl1 hl2 hg1 hg2
          have HT2 : Hid (∀ (t : TypeId), _) := Lib.hid (fun (t : TypeId) => (⟨((Only.refl (fun _ => False) wr).alloc (.cells #[.int .u8 ((1 : Nat) : Int)] t)).alloc (.cells #[.int .u8 (i : Int)] t), (one_byte (x := 1) rfl t (by omega)).only ((Only.refl (fun _ => False) (wr.alloc (.cells #[.int .u8 ((1 : Nat) : Int)] t))).alloc (.cells #[.int .u8 (i : Int)] t)) (fun _ _ f => f), one_byte (W := wr.alloc (.cells #[.int .u8 ((1 : Nat) : Int)] t)) (g := wr.heap.size + 1) (x := i) (by simp) t (by omega)⟩ : _ ∧ _ ∧ _))
          have HT := Lib.hid (HT2.out 5)
          have HKE := Lib.hid (ws_keep (HB.out.quiet HT.out.1) l9 _ 1 1 [1] _ 1 1 [i] HT.out.2.1 HT.out.2.2)
          rw [HKS.out.1, HKS.out.2] at HKE
          have HI2 := Lib.hid (HI.out.only HT.out.1 (fun _ _ f => f))
          have HSZ := HT.out.1.size
          have HO2' : Hid (Only (fun q => p ≤ q) w _) := Lib.hid (HO.out.trans (HT.out.1.mono (fun _ _ f => f.elim)))
          have HOL : Hid (∀ q, dv.ownBlock = some q → q < wr.heap.size) := Lib.hid (fun q e => HI.out.lt e)
          clear HT2 HKS
          go_wp2_with fail
          refine HKE.out.mono ?_
          rintro _ w4 ⟨rfl, hb, ho⟩
          have HB4 : Hid (WS (fun q => (p ≤ q ∧ dv.ownBlock ≠ some q) ∧ q < w4.heap.size) w4 p (1 + (zn : Int)) false (KN (zn + 1) (fS G) (i + 1))) := Lib.hid (hb.mono (fun q hq s => ⟨s.elim (fun s => s) (fun s => ⟨by omega, fun e => by have := HOL.out q e; omega⟩), hq⟩))
          have HI4 := Lib.hid (HI2.out.only ho (fun q e s => s.2 e))
          have HO4 : Hid (Only (fun q => p ≤ q) w w4) := Lib.hid (HO2'.out.trans (ho.mono (fun q _ s => s.1)))
          have hs4 : p ≤ w4.heap.size := by have := ho.size; omega
          clear hb ho HKE HT HI2 HO2' HB HI HO HOL HSZ
          have HOW2 : Hid ((w4.alloc (.cells #[.int .i64 l9] 3)).ownsRow 0 3 1 dv (numL G i).length (iv (numL G i))) := Lib.hid (HI4.out.only ((Only.refl (fun _ => False) w4).alloc _) (fun _ _ f => f))
          rw [HNL.out] at HOW2
          go_wp2_with (at_builtin; refine append_mine rfl _ _ 38 rfl 3 i1 _ 1 8 Try.underlying38 hj hy0 hy1 hy2 rfl (by decide) _ i _ rfl HOW2.out ⟨w4.heap.size, 0, none⟩ 1 1 (iv [l9]) rfl ?c1 ?c2 ?c3 ?c4 ?c5 ?_)
          case c1 => rfl
          case c2 => exact news_int rfl _
          case c3 => exact iv_one _
          case c4 => unfold maxLen; omega
          case c5 => omega
          intro v3 w3 hown hgrow hkk
          have hog : Only _ (w4.alloc (.cells #[.int .i64 l9] 3)) w3 := Only.of_grown hgrow
          have HON : Hid (OwnI w3 v3 (numL G (i + 1))) := Lib.hid (by
            unfold OwnI
            rw [HNS.out, iv_append, List.length_append, HNL.out]
            exact hown)
          have HBN : Hid (∀ q, v3.ownBlock = some q → p ≤ q) := Lib.hid (fun q hq => by
            rcases hkk q hq with e | e
            · exact HBK.out q e
            · have h5 : w4.heap.size ≤ q := by first | omega | (simp only [size_alloc] at e; omega)
              omega)
          have HBW : Hid (WS (fun q => p ≤ q ∧ v3.ownBlock ≠ some q) w3 p (1 + (zn : Int)) false (KN (zn + 1) (fS G) (i + 1))) := Lib.hid (((HB4.out.quiet ((Only.refl (fun _ => False) w4).alloc _)).only hog (fun q s e => s.1.2 e)).mono (fun q _ s => ⟨s.1.1, fun e => by
            rcases hkk q e with e2 | e2
            · exact s.1.2 e2
            · have h5 : w4.heap.size ≤ q := by first | omega | (simp only [size_alloc] at e2; omega)
              have := s.2
              omega⟩))
          have HON2 : Hid (Only (fun q => p ≤ q) w w3) := Lib.hid ((HO4.out.alloc _).then hog (fun q hq e => HBK.out q e))
          have hs3 : p ≤ w3.heap.size := by have := hog.size; simp only [size_alloc] at this; omega
          have HLV := Lib.hid HLS.out
          clear hown hgrow hkk HOW2 hog HLS
          go_wp2_with fail
          go_roundw
          case rel => exact ⟨i + 1, v3, by omega, by go_num, by rw [HLV.out], rfl, HON, HBN, HBW, HON2, hs3⟩
          case measure => simp [intOf]; omega
        · have hk2 : ¬ (i : Int) < 20 := by omega
          go_wp2_with fail
          go_meet
          exact ⟨i, dv, hi, rfl, rfl, rfl, HI, HBK, HB, HO, hs⟩
      · go_wp2_with fail
        go_meet
        exact ⟨i, dv, hi, rfl, rfl, rfl, HI, HBK, HB, HO, hs⟩
  case rest =>
    obtain ⟨n, dv, hn, rfl, rfl, rfl, HI, HBK, HB, HO, hs⟩ := hcut
    rename World => wr
    clear HB2 HO2 hs2
    have haz := HAZ.out
    generalize hzz : wrap64 ((IntKind.u64.wrap ask).tmod 120) = za at haz
    obtain ⟨ha0, ha1⟩ := haz
    have hln := numL_len G n
    obtain ⟨ia, ic, rfl, hri⟩ := HI.out.reads (numL_in G n hn) (by omega)
    have HRI := Lib.hid hri
    have HLK := Lib.hid (ks_look G (zn + 1) n za (by omega) ha0 (by omega))
    have HLA := Lib.hid (ks_last G (zn + 1) n (by omega))
    have HGT : Hid (∀ j, j < n → (numL G n).getD j 0 = lst G (j + 1)) := Lib.hid (fun j hj => numL_get G n j hj)
    have HHS : Hid (∀ k, hit G (zn + 1) n za (k + 1) = (hit G (zn + 1) n za k || decide (lst G (n - (zn + 1) + k + 1) = za))) := Lib.hid (hit_succ G (zn + 1) n za)
    have HH0 : Hid (hit G (zn + 1) n za 0 = false) := Lib.hid rfl
    have HLB : Hid (∀ k, lst G k = lst G k) := Lib.hid (fun _ => rfl)
    rw [hln] at HRI ⊢
    generalize KN (zn + 1) (fS G) n = K at *
    generalize hit G (zn + 1) n za = ht at *
    generalize numL G n = NL at *
    obtain ⟨ll, hll⟩ : ∃ x, x = lst G n := ⟨_, rfl⟩
    rw [← hll] at HLK HLA ⊢
    have qz : IntKind.i64.wrap ((n : Int) - (1 + (zn : Int))) = (n : Int) - (1 + (zn : Int)) := by rw [IntKind.wrap_i64]; omega
    have hmx : max ((n : Int) - (1 + (zn : Int))) 0 = ((n - (zn + 1) : Nat) : Int) := by omega
    have HST : Hid (n - (zn + 1) ≤ n ∧ n - (n - (zn + 1)) = min n (zn + 1)) := Lib.hid ⟨by omega, by omega⟩
    have hst9 : n - (zn + 1) ≤ n := HST.out.1
    generalize hst : n - (zn + 1) = st at *
    clear hri hln hll HI
    go_upto_region 15 with fail
    simp only [hzz]
    clear hzz
    go_upto_if 72 with fail
    go_cut [12] from 72 to 73 (fun wv wx => wv = .int .i64 (if za ≤ ll then 13 else 7) ∧ wr = wx)
    case first =>
      by_cases hle : za ≤ ll
      · go_wp2_with fail
        go_meet
        exact ⟨by rw [if_pos (by omega)], rfl⟩
      · go_wp2_with fail
        go_meet
        exact ⟨by rw [if_neg (by omega)], rfl⟩
    case rest =>
      obtain ⟨rfl, rfl⟩ := hcut
      have hW0 : (if za ≤ ll then (13 : Int) else 7) = 13 ∨ (if za ≤ ll then (13 : Int) else 7) = 7 := by
        by_cases q : za ≤ ll
        · exact .inl (if_pos q)
        · exact .inr (if_neg q)
      generalize hW : (if za ≤ ll then (13 : Int) else 7) = W0 at *
      have HW0 := Lib.hid hW0
      clear hW hW0
      obtain ⟨h2, e20, e2s, e2n⟩ : ∃ h2 : Nat → Bool, h2 st = false ∧ (∀ j, st ≤ j → h2 (j + 1) = (h2 j || decide (lst G (j + 1) = za))) ∧ h2 n = ht (min n (zn + 1)) := ⟨fun j => ht (j - st), by dsimp only; rw [Nat.sub_self]; exact HH0.out, fun j hj => by
        dsimp only
        have e : j + 1 - st = (j - st) + 1 := by omega
        rw [e, HHS.out, show st + (j - st) + 1 = j + 1 by omega], by dsimp only; rw [HST.out.2]⟩
      have HE0 := Lib.hid e20
      have HES := Lib.hid e2s
      rw [← e2n] at HLK
      clear e20 e2s e2n HHS HH0 HST hst
      clear ht
      go_upto_block 4 with fail
      clear hmx qz
      go_loopw [12, 13] (fun wv iv wx => ∃ j : Nat, st ≤ j ∧ j ≤ n ∧ iv = .int .i64 (j : Int) ∧ wv = .int .i64 (if h2 j = true then 0 else W0) ∧ wr = wx) (fun _ iv _ => n - (intOf iv).toNat)
      case atStart => exact ⟨st, Nat.le_refl _, hst9, rfl, by rw [HE0.out]; rfl, rfl⟩
      case round =>
        obtain ⟨j, hj1, hj2, rfl, rfl, rfl⟩ := hrel
        by_cases h9 : j < n
        · have hin : (j : Int) < n := by omega
          have hi0 : (0 : Int) ≤ (j : Int) := by omega
          have hi20 : (j : Int) < 20 := by omega
          obtain ⟨b, off, rfl, hcell⟩ := HRI.out.2.2.2.resolve_left (by omega)
          have cx := hcell j h9
          rw [HGT.out _ h9] at cx
          have hss := HES.out j hj1
          have HV : Hid (∀ b : Bool, decide (lst G (j + 1) = za) = b → (if h2 (j + 1) = true then (0 : Int) else W0) = if (h2 j || b) = true then 0 else W0) := Lib.hid (fun b e => by rw [hss, e])
          generalize lst G (j + 1) = y at *
          clear hss hcell
          generalize h2 j = hb at *
          by_cases hy : y = za
          · have hv := HV.out true (decide_eq_true hy)
            rw [Bool.or_true, if_pos rfl] at hv
            have HV2 := Lib.hid hv
            subst hy
            clear hv HV
            generalize (if hb = true then (0 : Int) else W0) = wq at *
            go_wp2_with fail
            go_roundw
            case rel => exact ⟨j + 1, by omega, by omega, by go_num, by rw [HV2.out], trivial⟩
            case measure => simp [intOf]; omega
          · have hv := HV.out false (decide_eq_false hy)
            rw [Bool.or_false] at hv
            have HV2 := Lib.hid hv
            have hyb : (y == za) = false := by simpa using hy
            clear hv HV hy
            generalize (if hb = true then (0 : Int) else W0) = wq at *
            go_wp2_with fail
            go_roundw
            case rel => exact ⟨j + 1, by omega, by omega, by go_num, by rw [HV2.out], trivial⟩
            case measure => simp [intOf]; omega
        · obtain rfl : j = n := by omega
          obtain ⟨hl1, hl2⟩ := HLK.out
          have hlb : Hid (lastK K = ll) := HLA
          have HT1 := Lib.hid (show One1 0 wr p 0 false K 1 wr ∨ True from .inr trivial)
          have HA1 : Hid (Only (fun _ => False) wr (wr.alloc (.cells #[.int .u8 ((1 : Nat) : Int)] 5))) := Lib.hid ((Only.refl _ _).alloc _)
          have HL := Lib.hid (ws_look (HB.out.quiet HA1.out) za _ 1 1 [1] (one_byte rfl 5 (x := 1) (by omega)))
          rw [hl1] at HL
          have HLB2 : Hid (∀ w', Only (fun _ => False) wr w' → _) := Lib.hid (fun w' (ho : Only (fun _ => False) wr w') => ws_look ((HB.out.quiet ho).quiet ((Only.refl _ w').alloc (.cells #[.int .u8 ((2 : Nat) : Int)] 5))) za _ 1 1 [2] (one_byte rfl 5 (x := 2) (by omega)))
          rw [hl2] at HLB2
          have HLC : Hid (∀ w', Only (fun _ => False) wr w' → _) := Lib.hid (fun w' (ho : Only (fun _ => False) wr w') => ws_last (HB.out.quiet ho))
          rw [HLA.out] at HLC
          clear hl1 hl2 hlb HT1 HLK HES HE0 HGT HRI
          generalize lookA K false za [1] = A1 at *
          generalize lookA K false za [2] = A2 at *
          generalize h2 j = hb at *
          clear h9
          cases hb
          · rcases HW0.out with rfl | rfl
            · simp only [Bool.false_eq_true, if_false] at HL HLB2 ⊢
              go_wp2_with fail
              refine HL.out.mono ?_
              rintro _ w4 ⟨ra, rn, rc, rfl, -, -, -, ho⟩
              have HO4 := Lib.hid (HA1.out.trans ho)
              clear ho HL
              have HL2 := Lib.hid (HLB2.out w4 HO4.out)
              go_wp2_with fail
              refine HL2.out.mono ?_
              rintro _ w5 ⟨ra2, rn2, rc2, rfl, -, -, -, ho⟩
              have HO5 := Lib.hid ((HO4.out.alloc (.cells #[.int .u8 ((2 : Nat) : Int)] 5)).trans ho)
              clear ho HL2 HLB2
              have HL3 := Lib.hid (HLC.out w5 HO5.out)
              go_wp2_with fail
              refine HL3.out.mono ?_
              rintro _ w6 ⟨rfl, ho⟩
              have HO6 := Lib.hid (HW.out _ (HO.out.trans ((HO5.out.trans ho).mono (fun _ _ f => f.elim))))
              clear ho HL3
              go_wp2_with fail
              go_ret
              exact ⟨rfl, HO6.out⟩
            · simp only [Bool.false_eq_true, if_false] at HL HLB2 ⊢
              go_wp2_with fail
              refine HL.out.mono ?_
              rintro _ w4 ⟨ra, rn, rc, rfl, -, -, -, ho⟩
              have HO4 := Lib.hid (HA1.out.trans ho)
              clear ho HL
              have HL2 := Lib.hid (HLB2.out w4 HO4.out)
              go_wp2_with fail
              refine HL2.out.mono ?_
              rintro _ w5 ⟨ra2, rn2, rc2, rfl, -, -, -, ho⟩
              have HO5 := Lib.hid ((HO4.out.alloc (.cells #[.int .u8 ((2 : Nat) : Int)] 5)).trans ho)
              clear ho HL2 HLB2
              have HL3 := Lib.hid (HLC.out w5 HO5.out)
              go_wp2_with fail
              refine HL3.out.mono ?_
              rintro _ w6 ⟨rfl, ho⟩
              have HO6 := Lib.hid (HW.out _ (HO.out.trans ((HO5.out.trans ho).mono (fun _ _ f => f.elim))))
              clear ho HL3
              go_wp2_with fail
              go_ret
              exact ⟨rfl, HO6.out⟩
          · simp only [if_true] at HL HLB2 ⊢
            go_wp2_with fail
            refine HL.out.mono ?_
            rintro _ w4 ⟨ra, rn, rc, rfl, -, -, -, ho⟩
            have HO4 := Lib.hid (HA1.out.trans ho)
            clear ho HL
            have HL2 := Lib.hid (HLB2.out w4 HO4.out)
            go_wp2_with fail
            refine HL2.out.mono ?_
            rintro _ w5 ⟨ra2, rn2, rc2, rfl, -, -, -, ho⟩
            have HO5 := Lib.hid ((HO4.out.alloc (.cells #[.int .u8 ((2 : Nat) : Int)] 5)).trans ho)
            clear ho HL2 HLB2
            have HL3 := Lib.hid (HLC.out w5 HO5.out)
            go_wp2_with fail
            refine HL3.out.mono ?_
            rintro _ w6 ⟨rfl, ho⟩
            have HO6 := Lib.hid (HW.out _ (HO.out.trans ((HO5.out.trans ho).mono (fun _ _ f => f.elim))))
            clear ho HL3
            go_wp2_with fail
            go_ret
            exact ⟨rfl, HO6.out⟩
end Go.Proofs.Ytglcdpggngcdeaa.wnd
