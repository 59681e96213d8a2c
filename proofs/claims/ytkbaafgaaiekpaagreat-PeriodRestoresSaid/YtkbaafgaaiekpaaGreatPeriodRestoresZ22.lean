/- Several texts together: FuF. -/
import Derived.Test.YtkbaafgaaiekpaaGreatPeriodRestoresZ1
import Derived.Test.YtkbaafgaaiekpaaGreatPeriodRestoresZ20
import Derived.Test.YtkbaafgaaiekpaaGreatPeriodRestoresZ21
open List (getElem_toArray getElem_cons_zero getElem_cons_succ setIfInBounds_toArray set_cons_zero set_cons_succ)
open Go.Lib (hid)
namespace Go.Proofs.YtkbaafgaaiekpaaGreat.fnd
open Go.RowKit mem tre
set_option linter.unusedVariables false
def nd (A : List Ac) (n : Int) : Ac := A.getD n.toNat zA
def shB (a : Ac) (dh du : Int) : Ac := ⟨a.t, a.c, a.e, a.u + du, a.h + dh⟩
def shT (A : List Ac) (l : List Int) (dh du : Int) : List Ac := l.foldl (fun A n => A.set n.toNat (shB (nd A n) dh du)) A
def badB (A : List Ac) (dh du : Int) (l : List Int) : Bool := l.any fun n => decide ((nd A n).h + dh < 0) || decide ((nd A n).u + du < 0)
def shE (A : List Ac) (l : List Int) (x dh du : Int) : Int := if PathOk l ∧ AmtOk x then (if badB A dh du l = true then 20 else 0) else 1
def shA (A : List Ac) (l : List Int) (x dh du : Int) : List Ac := if shE A l x dh du = 0 then shT A l dh du else A
theorem shT_len : ∀ (l : List Int) (A : List Ac) (dh du : Int), (shT A l dh du).length = A.length := by
  intro l
  induction l with
  | nil => intro A dh du; rfl
  | cons n r ih => intro A dh du; show (shT (A.set n.toNat _) r dh du).length = _; rw [ih]; simp
theorem shT_other (k : Nat) : ∀ (l : List Int) (A : List Ac) (dh du : Int), (∀ n ∈ l, n.toNat ≠ k) → (shT A l dh du).getD k zA = A.getD k zA := by
  intro l
  induction l with
  | nil => intro A dh du _; rfl
  | cons n r ih =>
    intro A dh du h; show (shT (A.set n.toNat _) r dh du).getD k zA = _; rw [ih _ _ _ (fun m hm => h m (List.mem_cons_of_mem _ hm))]; have hn := h n List.mem_cons_self; simp [List.getD, hn]
theorem shT_take (A : List Ac) (l : List Int) (dh du : Int) (i : Nat) (h : i < l.length) : shT A (l.take (i + 1)) dh du = (shT A (l.take i) dh du).set (l.getD i 0).toNat (shB (nd (shT A (l.take i) dh du) (l.getD i 0)) dh du) := by
  have e : l.getD i 0 = l[i] := (by simp [List.getD, h]); rw [List.take_succ_eq_append_getElem h, e]; unfold shT; rw [List.foldl_append]
  rfl
theorem drop_at (l : List Int) (i : Nat) (h : i < l.length) : l.drop i = l.getD i 0 :: l.drop (i + 1) := by
  have e : l.getD i 0 = l[i] := (by simp [List.getD, h]); rw [e, List.drop_eq_getElem_cons h]
theorem path_toNat {l : List Int} (h : PathOk l) (i : Nat) (hi : i < l.length) : ∃ k : Nat, l.getD i 0 = k ∧ 1 ≤ k ∧ k < 33 ∧ ∀ n ∈ l.take i, n.toNat ≠ k := by
  obtain ⟨⟨h1, h2⟩, h3⟩ := h.2 i hi; refine ⟨(l.getD i 0).toNat, by omega, by omega, by omega, fun n hn e => ?_⟩; obtain ⟨j, hj, hj2⟩ := List.mem_iff_getElem.1 hn; rw [List.length_take] at hj; rw [List.getElem_take] at hj2; have e2 : l.getD j 0 = n := (by rw [← hj2]; simp [List.getD, show j < l.length by omega]); obtain ⟨⟨h4, h5⟩, _⟩ := h.2 j (by omega); rw [e2] at h4 h5; have : n = l.getD i 0 := (by omega); rw [this] at hn; rw [← List.contains_iff_mem] at hn; rw [h3] at hn; cases hn
theorem shT_at {A : List Ac} {l : List Int} (h : PathOk l) (i : Nat) (hi : i < l.length) (dh du : Int) : nd (shT A (l.take i) dh du) (l.getD i 0) = nd A (l.getD i 0) := by
  obtain ⟨k, hk, _, _, hn⟩ := path_toNat h i hi; unfold nd; rw [hk, Int.toNat_natCast]; exact shT_other k _ _ _ _ hn
theorem nd_nat (A : List Ac) (k : Nat) : nd A (k : Int) = A.getD k zA := by unfold nd; rw [Int.toNat_natCast]
set_option maxRecDepth 100000 in
set_option maxHeartbeats 9000000 in
theorem shift_any (p : Nat) (A : List Ac) (a : Option Addr) (n c : Nat) (l : List Int) (x dh du : Int) (w : World) (h : BkAt w p A) (hA : Bok A) (hr : ReadsI w a n l) (hc : n ≤ c) (hpa : ∀ y, a = some y → y.block ≠ p) (b1 : AmtOk x → -9007199254740992 ≤ dh ∧ dh ≤ 9007199254740992) (b2 : AmtOk x → -9007199254740992 ≤ du ∧ du ≤ 9007199254740992) : Calls Tryz.prog 80 #[.pointer (some ⟨p, 0, none⟩), .slice a n c, .int .i64 x, .int .i64 dh, .int .i64 du] w (FDid p (shA A l x dh du) (shE A l x dh du) w) := by
  have HB := hid h; have HA := hid hA; have HR := hid hr; have HPA := hid hpa; have HIS := hid (ispath_any a n c l w hr hc); have hm := hr.2.1; unfold maxLen at hm; have HLN := hid hr.1; clear h hA hr hpa; by_cases hp : PathOk l
  · have HDP : Hid (decide (PathOk l) = true) := hid (decide_eq_true hp); by_cases hx : AmtOk x
    · have HE0 : Hid (shE A l x dh du = if badB A dh du l = true then 20 else 0) := hid (by unfold shE; rw [if_pos ⟨hp, hx⟩])
      have HT0 : Hid (shA A l x dh du = if shE A l x dh du = 0 then shT A l dh du else A) := hid rfl
      have HPK : Hid (∀ i, i < n → ∃ k : Nat, l.getD i 0 = k ∧ 1 ≤ k ∧ k < 33) := hid (fun i hi => by obtain ⟨k, q1, q2, q3, _⟩ := path_toNat hp i (by rw [HLN.out]; exact hi); exact ⟨k, q1, q2, q3⟩); have HSA : Hid (∀ i, i < n → nd (shT A (l.take i) dh du) (l.getD i 0) = nd A (l.getD i 0)) := hid (fun i hi => shT_at hp i (by rw [HLN.out]; exact hi) dh du); have HSS : Hid (∀ i, i < n → shT A (l.take (i + 1)) dh du = (shT A (l.take i) dh du).set (l.getD i 0).toNat (shB (nd (shT A (l.take i) dh du) (l.getD i 0)) dh du)) := hid (fun i hi => shT_take A l dh du i (by rw [HLN.out]; exact hi)); have HDR : Hid (∀ i, i < n → badB A dh du (l.drop i) = ((decide ((nd A (l.getD i 0)).h + dh < 0) || decide ((nd A (l.getD i 0)).u + du < 0)) || badB A dh du (l.drop (i + 1)))) := hid (fun i hi => by rw [drop_at l i (by rw [HLN.out]; exact hi)]; rfl); have HND : Hid (∀ i, Parts (nd A i)) := hid (fun i => (HA.out.ok _).1); have HSL : Hid (∀ i, (shT A (l.take i) dh du).length = 33) := hid (fun i => (shT_len _ _ _ _).trans HA.out.len); have HF0 : Hid (shT A (l.take 0) dh du = A) := hid rfl; have HFN : Hid (shT A (l.take n) dh du = shT A l dh du) := hid (by rw [List.take_of_length_le (by rw [HLN.out]; exact Nat.le_refl _)]); have HBN : Hid (badB A dh du (l.drop n) = false) := hid (by rw [List.drop_eq_nil_of_le (by rw [HLN.out]; exact Nat.le_refl _)]; rfl); rw [HDP.out] at HIS; obtain ⟨b11, b12⟩ := b1 hx; obtain ⟨b21, b22⟩ := b2 hx; obtain ⟨x1, x2⟩ := hx; clear hp HDP; generalize shE A l x dh du = E at *; generalize shA A l x dh du = A' at *; go_enter Tryz.func80, Tryz.ntmps80
      (go_wp2_with fail); refine (HIS.out).mono ?_; rintro _ w1 ⟨rfl, ho⟩; have HO1 := hid ho; have HR1 := hid (HR.out.only ho (fun _ _ f => f)); have HB1 := hid (HB.out.only ho (fun f => f)); clear ho; (go_wp2_with fail); refine (isAmt_yes _ _ x1 x2).mono ?_; rintro _ _ ⟨rfl, rfl⟩; go_wp2_with fail
      go_loopw [30] (fun iv wr => ∃ i : Nat, i ≤ n ∧ iv = .int .i64 (i : Int) ∧ Hid (badB A dh du l = badB A dh du (l.drop i)) ∧ Hid (Only (fun _ => False) w1 wr)) (fun iv _ => n - (intOf iv).toNat)
      case atStart => exact ⟨0, by omega, rfl, hid rfl, hid (Only.refl _ _)⟩
      case round =>
        obtain ⟨i, hi, rfl, HD, HO⟩ := hrel; rename World => wr
        by_cases h8 : i < n
        · obtain ⟨b, off, rfl, hcell⟩ := HR1.out.2.2.2.resolve_left (by omega); have cx := HO.out.cell' (hcell i h8) (fun f => f); have hi0 : (0 : Int) ≤ i := (by omega); have hi1 : (i : Int) < n := (by omega); obtain ⟨k, hk, k1, k2⟩ := HPK.out i h8; have hdd := HDR.out i h8; have hpt := HND.out (l.getD i 0); rw [hk, nd_nat] at hdd hpt; rw [hk] at cx; have hk2 : (k : Int) < 33 := (by omega); have hk0 : (0 : Int) ≤ k := (by omega); obtain ⟨c0, c1, c2, c3, c4⟩ := (HB1.out.only HO.out (fun f => f)).1 k k2; generalize A.getD k zA = ac at *; obtain ⟨at_, ac, ae, au, ah⟩ := ac; dsimp only at c0 c1 c2 c3 c4 hdd; obtain ⟨-, -, -, ⟨u1, u2⟩, ⟨g1, g2⟩⟩ := hpt; dsimp only at u1 u2 g1 g2; have q1 : IntKind.i64.wrap (ah + dh) = ah + dh := w64 _ (by omega) (by omega); have q2 : IntKind.i64.wrap (au + du) = au + du := w64 _ (by omega) (by omega); have HDD := hid (HD.out.trans hdd); obtain ⟨e0, e1, e2, e3, e4, ho9⟩ := node_box 58 (.int .i64 at_) (.int .i64 ac) (.int .i64 ae) (.int .i64 au) (.int .i64 ah) (Only.refl (fun _ => False) wr); have HO9 := hid (HO.out.trans ho9); clear hcell hdd hk ho9 u1 u2 g1 g2; by_cases hb1 : ah + dh < 0
          · have HFA : Hid (E = 20 ∧ A' = A) := hid (by
              have hbt : badB A dh du l = true := (by rw [HDD.out]; simp [hb1]); have e : E = 20 := (by rw [HE0.out, if_pos hbt]); exact ⟨e, by rw [HT0.out, e]; rfl⟩)
            (go_wp2_with fail); go_ret
            exact ⟨by rw [HFA.out.1]; rfl, by rw [HFA.out.2]; exact HB1.out.only HO9.out (fun f => f), Only.p p (HO1.out.trans HO9.out)⟩
          · by_cases hb2 : au + du < 0
            · have HFA : Hid (E = 20 ∧ A' = A) := hid (by
                have hbt : badB A dh du l = true := (by rw [HDD.out]; simp [hb2]); have e : E = 20 := (by rw [HE0.out, if_pos hbt]); exact ⟨e, by rw [HT0.out, e]; rfl⟩)
              (go_wp2_with fail); go_ret
              exact ⟨by rw [HFA.out.1]; rfl, by rw [HFA.out.2]; exact HB1.out.only HO9.out (fun f => f), Only.p p (HO1.out.trans HO9.out)⟩
            · have HD2 : Hid (badB A dh du l = badB A dh du (l.drop (i + 1))) := hid (by rw [HDD.out]; simp [hb1, hb2]); (go_wp2_with fail); go_roundw
              case rel => exact ⟨i + 1, by omega, by go_num, HD2, HO9⟩
              case measure => simp [intOf]; omega
        · obtain rfl : i = n := (by omega); have HFA : Hid (E = 0 ∧ A' = shT A l dh du) := hid (by
            have e : E = 0 := (by rw [HE0.out, HD.out, HBN.out]; rfl); exact ⟨e, by rw [HT0.out, if_pos e]⟩)
          have HB2 := hid (HB1.out.only HO.out (fun f => f)); have HR2 := hid (HR1.out.only HO.out (fun _ _ f => f)); have HO2 := hid (HO1.out.trans HO.out); rename World => w2
          clear HDR HD HB1 HR1 HO1 HO HBN; go_wp2_with fail
          go_loopw [55] (fun iv wr => ∃ j : Nat, j ≤ i ∧ iv = .int .i64 (j : Int) ∧ Hid (BkAt wr p (shT A (l.take j) dh du)) ∧ Hid (Only (fun q => q = p) w2 wr)) (fun iv _ => i - (intOf iv).toNat)
          case atStart => exact ⟨0, by omega, rfl, hid (by rw [HF0.out]; exact HB2.out), hid (Only.refl _ _)⟩
          case round =>
            obtain ⟨j, hj, rfl, HBJ, HO⟩ := hrel; rename World => wr
            by_cases h9 : j < i
            · obtain ⟨b, off, rfl, hcell⟩ := HR2.out.2.2.2.resolve_left (by omega); have hbp : ¬ b = p := HPA.out ⟨b, off, none⟩ rfl; have cx := HO.out.cell' (hcell j h9) hbp; have hj0 : (0 : Int) ≤ j := (by omega); have hj1 : (j : Int) < i := (by omega); obtain ⟨k, hk, k1, k2⟩ := HPK.out j h9; have hpt := HND.out (l.getD j 0); have hat := HSA.out j h9; have hss := HSS.out j h9; have hsl := HSL.out j; rw [hat] at hss; rw [hk, nd_nat] at hpt; rw [hk, nd_nat, nd_nat] at hat; rw [hk, nd_nat, Int.toNat_natCast] at hss; rw [hk] at cx; have hk2 : (k : Int) < 33 := (by omega); have hk0 : (0 : Int) ≤ k := (by omega); have HSS2 := hid hss; have hbj := HBJ.out; generalize shT A (l.take j) dh du = AJ at *; obtain ⟨c0, c1, c2, c3, c4⟩ := hbj.1 k k2; rw [hat] at c0 c1 c2 c3 c4; generalize A.getD k zA = ac at *; obtain ⟨at_, ac, ae, au, ah⟩ := ac; dsimp only at c0 c1 c2 c3 c4; obtain ⟨-, -, -, ⟨u1, u2⟩, ⟨g1, g2⟩⟩ := hpt; dsimp only at u1 u2 g1 g2; have q1 : IntKind.i64.wrap (ah + dh) = ah + dh := w64 _ (by omega) (by omega); have q2 : IntKind.i64.wrap (au + du) = au + du := w64 _ (by omega) (by omega); have HAT := hid hat; have HSLJ := hid hsl; have HBJ1 : Hid (∀ wy, Only (fun _ => False) wr wy → BkAt (wy.setCell ⟨p, k * 5 + 4, none⟩ (.int .i64 (ah + dh))) p (AJ.set k ⟨at_, ac, ae, au, ah + dh⟩)) := hid (fun wy ho => (HBJ.out.only ho (fun f => f)).store HSLJ.out k 4 _ _ k2 (by omega) (by rw [HAT.out]; rfl)); have HBJ2 : Hid (∀ wy, BkAt wy p (AJ.set k ⟨at_, ac, ae, au, ah + dh⟩) → BkAt (wy.setCell ⟨p, k * 5 + 3, none⟩ (.int .i64 (au + du))) p (shT A (l.take (j + 1)) dh du)) := hid (fun wy hy => by
                have := hy.store (by simpa using HSLJ.out) k 3 (.int .i64 (au + du)) ⟨at_, ac, ae, au + du, ah + dh⟩ k2 (by omega) (by rw [getA_set _ _ _ _ (by rw [HSLJ.out]; exact k2), if_pos rfl]; rfl); rw [List.set_set] at this; rw [HSS2.out]; exact this)
              have HFZ : Hid (∀ wy, Only (fun _ => False) wr wy → wy.frozen? ⟨p, k * 5 + 4, none⟩ = false) := hid (fun wy ho => (HBJ.out.only ho (fun f => f)).2 _ (by omega)); clear hcell hk hat hss hsl hbj u1 u2 g1 g2; (go_upto_region 13 with fail); refine wp_region_noPanic ?_; refine late.region (fun w' => ∀ q, w'.cell? q = wr.cell? q) (fun j => [13].contains j) (by kernel_rfl) (fun q => by simp) (fun hHeld => ?_); obtain ⟨z0, hz0⟩ : ∃ x, x = wr.drew := ⟨_, rfl⟩; rw [← hz0] at hHeld ⊢; have hou : Only (fun _ => False) wr z0 := (by rw [hz0]; exact (Only.refl _ _).drew); have hc4 := hou.cell' c4 (fun f => f); have f4 := HFZ.out _ hou; have HS6 := hid (HBJ1.out _ hou); have HO6 := hid ((Only.p p hou).trans (Only.set (fun q => q = p) z0 p (k * 5 + 4) (.int .i64 (ah + dh)) rfl)); have hc3 : (z0.setCell ⟨p, k * 5 + 4, none⟩ (.int .i64 (ah + dh))).cell? ⟨p, k * 5 + 3, none⟩ = some (.int .i64 au) := (by rw [cell_other (off_ne (by omega))]; exact hou.cell' c3 (fun f => f)); have HC6 := hid hc3; clear hc3; clear hou hz0; refine sho.lt 0 [2, 3, 4, 5, 6, 8, 9, 10, 11, 12, 13] ?_; refine sho.lt 1 [4, 5, 6, 8, 11, 12, 13] ?_; refine sho.lt 2 [3, 4, 5, 6, 8, 11, 12, 13] ?_; refine sho.lt 3 [4, 5, 6, 8, 11, 12, 13] ?_; refine sho.lt 4 [5, 6, 8, 11, 12, 13] ?_; refine sho.lt 5 [6, 8, 11, 12, 13] ?_; refine sho.lt 6 [8, 11, 12, 13] ?_; refine sho.lt 7 [8, 11, 12, 13] ?_; refine sho.lt 8 [11, 12, 13] ?_; refine sho.lt 9 [10, 11, 12, 13] ?_; refine sho.lt 10 [11, 12, 13] ?_; refine sho.lt 11 [12, 13] ?_; refine sho.lt 12 [13] ?_; refine late.ready (rs := [13]) (by kernel_rfl) (by simp) ?_; refine late.Each.cons rfl (fun K hK => ?_) late.Each.nil; clear hHeld; (try simp only [getElem_toArray, getElem_cons_zero, getElem_cons_succ]); (go_simp); refine hK.out _ _ (fun h => by cases h) (fun _ => ?_); clear hK K; (try simp only [getElem_toArray, getElem_cons_zero, getElem_cons_succ, Act.put, setIfInBounds_toArray, set_cons_zero, set_cons_succ]); refine late.done (by kernel_rfl) ?_ _; refine NoPanic.normal ?_; obtain ⟨w6, hw6⟩ : ∃ x, x = z0.setCell ⟨p, k * 5 + 4, none⟩ (.int .i64 (ah + dh)) := ⟨_, rfl⟩; rw [← hw6] at HS6 HO6 HC6 ⊢; have hc3 := HC6.out; have HD6 : Hid (BkAt w6 p (AJ.set k ⟨at_, ac, ae, au, ah + dh⟩) ∧ (∀ m v, m = 3 → v = .int .i64 au → w6.cell? ⟨p, k * 5 + 3, none⟩ = some v) ∧ Only (fun q => q = p) wr w6) := hid ⟨HS6.out, fun m v _ e => by rw [e]; exact HC6.out, HO6.out⟩; have hcx : w6.cell? ⟨b, off + j, none⟩ = some (.int .i64 (k : Int)) := HO6.out.cell' cx hbp; clear hw6 c0 c1 c2 c3 c4 hc4 f4 cx; (go_upto_region 14 with fail); refine wp_region_noPanic ?_; refine late.region (fun w' => ∀ q, w'.cell? q = w6.cell? q) (fun j => [13].contains j) (by kernel_rfl) (fun q => by simp) (fun hHeld => ?_); obtain ⟨z0, hz0⟩ : ∃ x, x = w6.drew := ⟨_, rfl⟩; rw [← hz0] at hHeld ⊢; have hou : Only (fun _ => False) w6 z0 := (by rw [hz0]; exact (Only.refl _ _).drew); have hc3' := hou.cell' hc3 (fun f => f); have f3 : z0.frozen? ⟨p, k * 5 + 3, none⟩ = false := (HD6.out.1.only hou (fun f => f)).2 _ (by omega); have HS9 := hid (HBJ2.out _ (HD6.out.1.only hou (fun f => f))); have HO9 := hid ((HD6.out.2.2.trans (Only.p p hou)).trans (Only.set (fun q => q = p) z0 p (k * 5 + 3) (.int .i64 (au + du)) rfl)); clear hou hz0; refine sho.lt 0 [2, 3, 4, 5, 6, 8, 9, 10, 11, 12, 13] ?_; refine sho.lt 1 [4, 5, 6, 8, 11, 12, 13] ?_; refine sho.lt 2 [3, 4, 5, 6, 8, 11, 12, 13] ?_; refine sho.lt 3 [4, 5, 6, 8, 11, 12, 13] ?_; refine sho.lt 4 [5, 6, 8, 11, 12, 13] ?_; refine sho.lt 5 [6, 8, 11, 12, 13] ?_; refine sho.lt 6 [8, 11, 12, 13] ?_; refine sho.lt 7 [8, 11, 12, 13] ?_; refine sho.lt 8 [11, 12, 13] ?_; refine sho.lt 9 [10, 11, 12, 13] ?_; refine sho.lt 10 [11, 12, 13] ?_; refine sho.lt 11 [12, 13] ?_; refine sho.lt 12 [13] ?_; refine late.ready (rs := [13]) (by kernel_rfl) (by simp) ?_; refine late.Each.cons rfl (fun K hK => ?_) late.Each.nil; clear hHeld; (try simp only [getElem_toArray, getElem_cons_zero, getElem_cons_succ]); (go_simp); refine hK.out _ _ (fun h => by cases h) (fun _ => ?_); clear hK K; (try simp only [getElem_toArray, getElem_cons_zero, getElem_cons_succ, Act.put, setIfInBounds_toArray, set_cons_zero, set_cons_succ]); refine late.done (by kernel_rfl) ?_ _; refine NoPanic.normal ?_; (go_wp2_with fail); go_roundw
              case rel => exact ⟨j + 1, by omega, by go_num, HS9, hid (HO.out.trans HO9.out)⟩
              case measure => simp [intOf]; omega
            · obtain rfl : j = i := (by omega); have HEN : Hid (BkAt wr p A' ∧ Only (fun q => q = p) w wr) := hid ⟨by rw [HFA.out.2, ← HFN.out]; exact HBJ.out, (Only.p p HO2.out).trans HO.out⟩; (go_wp2_with fail); go_ret
              exact ⟨by rw [HFA.out.1]; rfl, HEN.out⟩
    · rw [HDP.out] at HIS; have hE : shE A l x dh du = 1 := (by unfold shE; rw [if_neg (fun q => hx q.2)]); have hT : shA A l x dh du = A := (by unfold shA; rw [hE]; rfl); rw [hE, hT]; clear hE hT; have hx' : ¬ (1 ≤ x ∧ x ≤ 9007199254740992) := hx; clear hx hp HDP; go_enter Tryz.func80, Tryz.ntmps80
      (go_wp2_with fail); refine (HIS.out).mono ?_; rintro _ w1 ⟨rfl, ho⟩; have HO := hid ho; clear ho; (go_wp2_with fail); refine (isAmt_no _ _ hx').mono ?_; rintro _ _ ⟨rfl, rfl⟩; (go_wp2_with fail); go_ret
      exact ⟨rfl, HB.out.only HO.out (fun f => f), Only.p p HO.out⟩
  · have HDP : Hid (decide (PathOk l) = false) := hid (decide_eq_false hp); rw [HDP.out] at HIS; have hE : shE A l x dh du = 1 := (by unfold shE; rw [if_neg (fun q => hp q.1)]); have hT : shA A l x dh du = A := (by unfold shA; rw [hE]; rfl); rw [hE, hT]; clear hE hT; clear hp HDP; go_enter Tryz.func80, Tryz.ntmps80
    (go_wp2_with fail); refine (HIS.out).mono ?_; rintro _ w1 ⟨rfl, ho⟩; have HO := hid ho; clear ho; (go_wp2_with fail); go_ret
    exact ⟨rfl, HB.out.only HO.out (fun f => f), Only.p p HO.out⟩
theorem shE_no {A : List Ac} {l : List Int} {x : Int} (h : ¬ AmtOk x) (dh du : Int) : shE A l x dh du = 1 ∧ shA A l x dh du = A := by
  have e : shE A l x dh du = 1 := (by unfold shE; rw [if_neg (fun q => h q.2)]); exact ⟨e, by unfold shA; rw [e]; rfl⟩
set_option maxRecDepth 100000 in
set_option maxHeartbeats 9000000 in
theorem release_any (p : Nat) (A : List Ac) (a : Option Addr) (n c : Nat) (l : List Int) (x : Int) (w : World) (h : BkAt w p A) (hA : Bok A) (hr : ReadsI w a n l) (hc : n ≤ c) (hpa : ∀ y, a = some y → y.block ≠ p) : Calls Tryz.prog 43 #[.pointer (some ⟨p, 0, none⟩), .slice a n c, .int .i64 x] w (FDid p (shA A l x (-x) (0)) (shE A l x (-x) (0)) w) := by
  have HS : Hid (∀ y, IntKind.i64.wrap (-x) = y → Calls Tryz.prog 80 #[.pointer (some ⟨p, 0, none⟩), .slice a n c, .int .i64 x, .int .i64 (y), .int .i64 (0)] w (FDid p (shA A l x (-x) (0)) (shE A l x (-x) (0)) w)) := hid (fun y hy => by
    have hyx : AmtOk x → y = -x := fun hx => (by rw [← hy]; obtain ⟨x1, x2⟩ := hx; exact w64 _ (by omega) (by omega)); have hs := shift_any p A a n c l x (y) (0) w h hA hr hc hpa (fun hx => by have := hyx hx; obtain ⟨x1, x2⟩ := hx; omega) (fun hx => by have := hyx hx; obtain ⟨x1, x2⟩ := hx; omega); by_cases hx : AmtOk x
    · have e := hyx hx; rw [e] at hs ⊢; exact hs
    · rw [(shE_no hx _ _).1, (shE_no hx _ _).2] at hs ⊢; exact hs)
  obtain ⟨y, hy⟩ : ∃ y, IntKind.i64.wrap (-x) = y := ⟨_, rfl⟩; have HS2 := hid (HS.out y hy); clear h hA hr hpa HS; generalize shA A l x (-x) (0) = A' at *; generalize shE A l x (-x) (0) = E at *; go_enter Tryz.func43, Tryz.ntmps43
  (go_wp2_with fail); refine (HS2.out).mono ?_; rintro _ w1 ⟨rfl, hb, ho⟩; have HB := hid hb; have HO := hid ho; clear hb ho; (go_wp2_with fail); go_ret
  exact ⟨rfl, HB.out, HO.out⟩
set_option maxRecDepth 100000 in
set_option maxHeartbeats 9000000 in
theorem commit_any (p : Nat) (A : List Ac) (a : Option Addr) (n c : Nat) (l : List Int) (x : Int) (w : World) (h : BkAt w p A) (hA : Bok A) (hr : ReadsI w a n l) (hc : n ≤ c) (hpa : ∀ y, a = some y → y.block ≠ p) : Calls Tryz.prog 45 #[.pointer (some ⟨p, 0, none⟩), .slice a n c, .int .i64 x] w (FDid p (shA A l x (-x) (x)) (shE A l x (-x) (x)) w) := by
  have HS : Hid (∀ y, IntKind.i64.wrap (-x) = y → Calls Tryz.prog 80 #[.pointer (some ⟨p, 0, none⟩), .slice a n c, .int .i64 x, .int .i64 (y), .int .i64 (x)] w (FDid p (shA A l x (-x) (x)) (shE A l x (-x) (x)) w)) := hid (fun y hy => by
    have hyx : AmtOk x → y = -x := fun hx => (by rw [← hy]; obtain ⟨x1, x2⟩ := hx; exact w64 _ (by omega) (by omega)); have hs := shift_any p A a n c l x (y) (x) w h hA hr hc hpa (fun hx => by have := hyx hx; obtain ⟨x1, x2⟩ := hx; omega) (fun hx => by have := hyx hx; obtain ⟨x1, x2⟩ := hx; omega); by_cases hx : AmtOk x
    · have e := hyx hx; rw [e] at hs ⊢; exact hs
    · rw [(shE_no hx _ _).1, (shE_no hx _ _).2] at hs ⊢; exact hs)
  obtain ⟨y, hy⟩ : ∃ y, IntKind.i64.wrap (-x) = y := ⟨_, rfl⟩; have HS2 := hid (HS.out y hy); clear h hA hr hpa HS; generalize shA A l x (-x) (x) = A' at *; generalize shE A l x (-x) (x) = E at *; go_enter Tryz.func45, Tryz.ntmps45
  (go_wp2_with fail); refine (HS2.out).mono ?_; rintro _ w1 ⟨rfl, hb, ho⟩; have HB := hid hb; have HO := hid ho; clear hb ho; (go_wp2_with fail); go_ret
  exact ⟨rfl, HB.out, HO.out⟩
set_option maxRecDepth 100000 in
set_option maxHeartbeats 9000000 in
theorem refund_any (p : Nat) (A : List Ac) (a : Option Addr) (n c : Nat) (l : List Int) (x : Int) (w : World) (h : BkAt w p A) (hA : Bok A) (hr : ReadsI w a n l) (hc : n ≤ c) (hpa : ∀ y, a = some y → y.block ≠ p) : Calls Tryz.prog 47 #[.pointer (some ⟨p, 0, none⟩), .slice a n c, .int .i64 x] w (FDid p (shA A l x (0) (-x)) (shE A l x (0) (-x)) w) := by
  have HS : Hid (∀ y, IntKind.i64.wrap (-x) = y → Calls Tryz.prog 80 #[.pointer (some ⟨p, 0, none⟩), .slice a n c, .int .i64 x, .int .i64 (0), .int .i64 (y)] w (FDid p (shA A l x (0) (-x)) (shE A l x (0) (-x)) w)) := hid (fun y hy => by
    have hyx : AmtOk x → y = -x := fun hx => (by rw [← hy]; obtain ⟨x1, x2⟩ := hx; exact w64 _ (by omega) (by omega)); have hs := shift_any p A a n c l x (0) (y) w h hA hr hc hpa (fun hx => by have := hyx hx; obtain ⟨x1, x2⟩ := hx; omega) (fun hx => by have := hyx hx; obtain ⟨x1, x2⟩ := hx; omega); by_cases hx : AmtOk x
    · have e := hyx hx; rw [e] at hs ⊢; exact hs
    · rw [(shE_no hx _ _).1, (shE_no hx _ _).2] at hs ⊢; exact hs)
  obtain ⟨y, hy⟩ : ∃ y, IntKind.i64.wrap (-x) = y := ⟨_, rfl⟩; have HS2 := hid (HS.out y hy); clear h hA hr hpa HS; generalize shA A l x (0) (-x) = A' at *; generalize shE A l x (0) (-x) = E at *; go_enter Tryz.func47, Tryz.ntmps47
  (go_wp2_with fail); refine (HS2.out).mono ?_; rintro _ w1 ⟨rfl, hb, ho⟩; have HB := hid hb; have HO := hid ho; clear hb ho; (go_wp2_with fail); go_ret
  exact ⟨rfl, HB.out, HO.out⟩
end Go.Proofs.YtkbaafgaaiekpaaGreat.fnd
