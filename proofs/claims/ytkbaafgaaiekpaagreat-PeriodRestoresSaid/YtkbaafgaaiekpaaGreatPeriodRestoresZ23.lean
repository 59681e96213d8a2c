/- Several texts together: FuH, FuI, FuJ, PuA. -/
import Derived.Test.YtkbaafgaaiekpaaGreatPeriodRestoresZ1
import Derived.Test.YtkbaafgaaiekpaaGreatPeriodRestoresZ12
import Derived.Test.YtkbaafgaaiekpaaGreatPeriodRestoresZ18
import Derived.Test.YtkbaafgaaiekpaaGreatPeriodRestoresZ22
import Derived.Deep.RegionHeld3
import Derived.Lib.MinMax
open List (getElem_toArray getElem_cons_zero getElem_cons_succ setIfInBounds_toArray set_cons_zero set_cons_succ)
open Go.Lib (hid)
namespace Go.Proofs.YtkbaafgaaiekpaaGreat.fnd
open Go.RowKit mem tre
set_option linter.unusedVariables false
def holdR (A : List Ac) (x : Int) : List Int → List Int → Int
  | n :: l, m :: ls => if left (nd A n) < x then 9 else if 0 ≤ m ∧ m < (nd A n).u + (nd A n).h + x then 18 else holdR A x l ls
  | _, _ => 0
def holdE (A : List Ac) (l ls : List Int) (x : Int) : Int := if (PathOk l ∧ ls.length = l.length ∧ LOk ls ls.length) ∧ AmtOk x then holdR A x l ls else 1
def holdA (A : List Ac) (l ls : List Int) (x : Int) : List Ac := if holdE A l ls x = 0 then shT A l x 0 else A
theorem hold_bad {A : List Ac} (h : Bok A) {x : Int} (hx : AmtOk x) (l : List Int) : badB A x 0 l = false := by
  unfold badB; rw [List.any_eq_false]; intro n _; have hp := (h.ok n.toNat).1; have h1 : 0 ≤ (nd A n).h := hp.2.2.2.2.1; have h2 : 0 ≤ (nd A n).u := hp.2.2.2.1.1; obtain ⟨x1, _⟩ := hx; simp only [Bool.or_eq_true, decide_eq_true_iff, not_or]; omega
theorem hold_sh {A : List Ac} (h : Bok A) {l : List Int} {x : Int} (hp : PathOk l) (hx : AmtOk x) : shE A l x x 0 = 0 ∧ shA A l x x 0 = shT A l x 0 := by
  have e : shE A l x x 0 = 0 := (by unfold shE; rw [if_pos ⟨hp, hx⟩, hold_bad h hx]; rfl); exact ⟨e, by unfold shA; rw [if_pos e]⟩
set_option maxRecDepth 100000 in
set_option maxHeartbeats 9000000 in
theorem hold_any (p : Nat) (A : List Ac) (a : Option Addr) (n c : Nat) (l : List Int) (a2 : Option Addr) (m c2 : Nat) (ls : List Int) (x : Int) (w : World) (h : BkAt w p A) (hA : Bok A) (hr : ReadsI w a n l) (hc : n ≤ c) (hr2 : ReadsI w a2 m ls) (hpa : ∀ y, a = some y → y.block ≠ p) : Calls Tryz.prog 41 #[.pointer (some ⟨p, 0, none⟩), .slice a n c, .slice a2 m c2, .int .i64 x] w (FDid p (holdA A l ls x) (holdE A l ls x) w) := by
  have HB := hid h; have HA := hid hA; have HR := hid hr; have HR2 := hid hr2; have HPA := hid hpa; have hm := hr.2.1; have hm2 := hr2.2.1; unfold maxLen at hm hm2; have HLN := hid hr.1; have HLN2 := hid hr2.1; have HIS := hid (ispath_any a n c l w hr hc); have HLI0 : Hid (∀ wy, Only (fun _ => False) w wy → _) := hid (fun wy ho => arelim_any a2 m c2 ls a n c wy (hr2.only ho (fun _ _ f => f)) hr.2.1); clear h hA hr hr2 hpa; by_cases hp : PathOk l
  · have HDP : Hid (decide (PathOk l) = true) := hid (decide_eq_true hp); by_cases hlm : m = n ∧ LOk ls m
    · have HDL : Hid (decide (m = n ∧ LOk ls m) = true) := hid (decide_eq_true hlm); obtain ⟨rfl, hlo⟩ := hlm; by_cases hx : AmtOk x
      · have HE0 : Hid (holdE A l ls x = holdR A x l ls) := hid (by unfold holdE; rw [if_pos ⟨⟨hp, by rw [HLN.out, HLN2.out], by rw [HLN2.out]; exact hlo⟩, hx⟩]); have HT0 : Hid (holdA A l ls x = if holdE A l ls x = 0 then shT A l x 0 else A) := hid rfl
        have HPK : Hid (∀ i, i < m → ∃ k : Nat, l.getD i 0 = k ∧ 1 ≤ k ∧ k < 33) := hid (fun i hi => by obtain ⟨k, q1, q2, q3, _⟩ := path_toNat hp i (by rw [HLN.out]; exact hi); exact ⟨k, q1, q2, q3⟩); have HDR : Hid (∀ i, i < m → holdR A x (l.drop i) (ls.drop i) = if left (nd A (l.getD i 0)) < x then 9 else if 0 ≤ ls.getD i 0 ∧ ls.getD i 0 < (nd A (l.getD i 0)).u + (nd A (l.getD i 0)).h + x then 18 else holdR A x (l.drop (i + 1)) (ls.drop (i + 1))) := hid (fun i hi => by rw [drop_at l i (by rw [HLN.out]; exact hi), drop_at ls i (by rw [HLN2.out]; exact hi)]; rfl)
        have HND : Hid (∀ i, Parts (nd A i)) := hid (fun i => (HA.out.ok _).1); have HBN : Hid (holdR A x (l.drop m) (ls.drop m) = 0) := hid (by rw [List.drop_eq_nil_of_le (by rw [HLN.out]; exact Nat.le_refl _)]; rfl); have HLI : Hid (∀ i, i < m → LimIn (ls.getD i 0)) := hid hlo; have HSH := hid (hold_sh HA.out hp hx); obtain ⟨x1, x2⟩ := hx; rw [HDP.out] at HIS; rw [HDL.out] at HLI0; clear hp HDP HDL hlo; generalize holdE A l ls x = E at *; generalize holdA A l ls x = A' at *; go_enter Tryz.func41, Tryz.ntmps41
        (go_wp2_with fail); refine (HIS.out).mono ?_; rintro _ w1 ⟨rfl, ho⟩; have HO := hid ho; clear ho; (go_wp2_with fail); refine (HLI0.out _ HO.out).mono ?_; rintro _ w2 ⟨rfl, ho⟩; replace HO := hid (HO.out.trans ho); clear ho HLI0; (go_wp2_with fail); refine (isAmt_yes _ _ x1 x2).mono ?_; rintro _ _ ⟨rfl, rfl⟩; have HO1 := hid HO.out; have HR1 := hid (HR.out.only HO.out (fun _ _ f => f)); have HR21 := hid (HR2.out.only HO.out (fun _ _ f => f)); have HB1 := hid (HB.out.only HO.out (fun f => f)); clear HO HR HR2 HB; rename World => w1
        go_wp2_with fail
        go_loopw [32] (fun iv wr => ∃ i : Nat, i ≤ m ∧ iv = .int .i64 (i : Int) ∧ Hid (holdR A x l ls = holdR A x (l.drop i) (ls.drop i)) ∧ Hid (Only (fun _ => False) w1 wr)) (fun iv _ => m - (intOf iv).toNat)
        case atStart => exact ⟨0, by omega, rfl, hid rfl, hid (Only.refl _ _)⟩
        case round =>
          obtain ⟨i, hi, rfl, HD, HO⟩ := hrel; rename World => wr
          by_cases h8 : i < m
          · obtain ⟨b, off, rfl, hcell⟩ := HR1.out.2.2.2.resolve_left (by omega); obtain ⟨b2, off2, rfl, hcell2⟩ := HR21.out.2.2.2.resolve_left (by omega); have cx := HO.out.cell' (hcell i h8) (fun f => f); have cm := HO.out.cell' (hcell2 i h8) (fun f => f); have hi0 : (0 : Int) ≤ i := (by omega); have hi1 : (i : Int) < m := (by omega); obtain ⟨k, hk, k1, k2⟩ := HPK.out i h8; have hdd := HDR.out i h8; have hpt := HND.out (l.getD i 0); obtain ⟨l1, l2⟩ := HLI.out i h8; rw [hk, nd_nat] at hdd hpt; rw [hk] at cx; have hk2 : (k : Int) < 33 := (by omega); have hk0 : (0 : Int) ≤ k := (by omega); obtain ⟨c0, c1, c2, c3, c4⟩ := (HB1.out.only HO.out (fun f => f)).1 k k2; have HAV : Hid (∀ w1, _) := hid (fun w1 => avail_any (A.getD k zA) w1 hpt); generalize A.getD k zA = ac at *; obtain ⟨at_, ac, ae, au, ah⟩ := ac; unfold aggA at HAV; dsimp only at c0 c1 c2 c3 c4 hdd HAV; obtain ⟨-, -, -, ⟨u1, u2⟩, ⟨g1, g2⟩⟩ := hpt; dsimp only at u1 u2 g1 g2; have q1 : IntKind.i64.wrap (au + ah) = au + ah := w64 _ (by omega) (by omega); have q2 : IntKind.i64.wrap (au + ah + x) = au + ah + x := w64 _ (by omega) (by omega); generalize ls.getD i 0 = lim at *; generalize left ⟨at_, ac, ae, au, ah⟩ = lf at *; have HDD := hid (HD.out.trans hdd); clear hcell hcell2 hdd hk u1 u2 g1 g2; obtain ⟨e0, e1, e2, e3, e4, ho9⟩ := node_box 58 (.int .i64 at_) (.int .i64 ac) (.int .i64 ae) (.int .i64 au) (.int .i64 ah) (Only.refl (fun _ => False) wr); obtain ⟨w8, hw8⟩ : ∃ zz, zz = wr.alloc (.cells #[.int .i64 at_, .int .i64 ac, .int .i64 ae, .int .i64 au, .int .i64 ah] 58) := ⟨_, rfl⟩; obtain ⟨g, hg⟩ : ∃ zz, zz = wr.heap.size := ⟨_, rfl⟩; simp only [← hw8, ← hg] at e0 e1 e2 e3 e4 ho9; (go_upto_region 7 with fail); simp only [← hw8, ← hg]; clear hw8 hg; (go_wp2_with fail); refine (HAV.out _).mono ?_; rintro _ w9 ⟨rfl, ho⟩; have HO9 := hid (HO.out.trans (ho9.trans ho)); replace e3 := ho.cell' e3 (fun f => f); replace e4 := ho.cell' e4 (fun f => f); replace cm := (ho9.trans ho).cell' cm (fun f => f); clear ho ho9 HAV e0 e1 e2 cx c0 c1 c2 c3 c4; by_cases hlt : lf < x
            · have HFA : Hid (E = 9 ∧ A' = A) := hid (by
                have e : E = 9 := (by rw [HE0.out, HDD.out, if_pos hlt]); exact ⟨e, by rw [HT0.out, e]; rfl⟩)
              (go_wp2_with fail); go_ret
              exact ⟨by rw [HFA.out.1]; rfl, by rw [HFA.out.2]; exact HB1.out.only HO9.out (fun f => f), Only.p p (HO1.out.trans HO9.out)⟩
            · have HLT := hid hlt; (go_upto_region 9 with fail); by_cases hm0 : 0 ≤ lim
              · have hbm : (lim != -1) = true := (by simp; omega); by_cases hgt : lim < au + ah + x
                · have HFA : Hid (E = 18 ∧ A' = A) := hid (by
                    have e : E = 18 := by rw [HE0.out, HDD.out, if_neg (show ¬ lf < x from by have := HLT.out; omega), if_pos ⟨hm0, hgt⟩]
                    exact ⟨e, by rw [HT0.out, e]; rfl⟩)
                  refine wp_region_noPanic ?_; refine late.region (fun w' => ∀ q, w'.cell? q = w9.cell? q) (fun j => [].contains j) (by kernel_rfl) (fun q => by simp) (fun hHeld => ?_); refine sho.lt 0 [2, 3, 4, 5, 6, 7, 8, 9, 10, 11, 12, 13, 14, 15, 16, 17, 18] ?_; refine sho.lt 1 [2, 3, 4, 5, 6, 7, 8, 9, 10, 11, 12, 13, 14, 15, 16, 17, 18] ?_; refine sho.lt 2 [3, 4, 5, 6, 7, 8, 9, 10, 11, 12, 13, 14, 15, 16, 17, 18] ?_; refine sho.lt 3 [4, 5, 6, 7, 8, 9, 10, 11, 12, 13, 14, 15, 16, 17, 18] ?_; refine sho.lt 4 [5, 6, 7, 8, 9, 10, 11, 12, 13, 14, 15, 16, 17, 18] ?_; refine sho.lt 5 [6, 7, 8, 9, 10, 11, 12, 13, 14, 15, 16, 17, 18] ?_; refine sho.lt 6 [7, 10, 12, 17, 18] ?_; refine sho.lt 7 [10, 12, 17, 18] ?_; refine sho.lt 8 [9, 10, 12, 17, 18] ?_; refine sho.lt 9 [10, 12, 17, 18] ?_; refine sho.lt 10 [12, 17, 18] ?_; refine sho.lt 11 [12, 17, 18] ?_; refine sho.lt 12 [17, 18] ?_; refine sho.lt 13 [15, 16, 17, 18] ?_; refine sho.lt 14 [15, 16, 17, 18] ?_; refine sho.lt 15 [16, 17, 18] ?_; refine sho.lt 16 [17, 18] ?_; refine sho.lt 17 [18] ?_; refine sho.lt 18 [] ?_; refine late.done (by kernel_rfl) ?_ _; refine NoPanic.normal ?_; have HOD := hid HO9.out.drew; (go_wp2_with fail); go_ret
                  exact ⟨by rw [HFA.out.1]; rfl, by rw [HFA.out.2]; exact HB1.out.only HOD.out (fun f => f), Only.p p (HO1.out.trans HOD.out)⟩
                · have HD2 : Hid (holdR A x l ls = holdR A x (l.drop (i + 1)) (ls.drop (i + 1))) := hid (by rw [HDD.out, if_neg (show ¬ lf < x from by have := HLT.out; omega), if_neg (fun q => hgt q.2)])
                  refine wp_region_noPanic ?_; refine late.region (fun w' => ∀ q, w'.cell? q = w9.cell? q) (fun j => [].contains j) (by kernel_rfl) (fun q => by simp) (fun hHeld => ?_); refine sho.lt 0 [2, 3, 4, 5, 6, 7, 8, 9, 10, 11, 12, 13, 14, 15, 16, 17, 18] ?_; refine sho.lt 1 [2, 3, 4, 5, 6, 7, 8, 9, 10, 11, 12, 13, 14, 15, 16, 17, 18] ?_; refine sho.lt 2 [3, 4, 5, 6, 7, 8, 9, 10, 11, 12, 13, 14, 15, 16, 17, 18] ?_; refine sho.lt 3 [4, 5, 6, 7, 8, 9, 10, 11, 12, 13, 14, 15, 16, 17, 18] ?_; refine sho.lt 4 [5, 6, 7, 8, 9, 10, 11, 12, 13, 14, 15, 16, 17, 18] ?_; refine sho.lt 5 [6, 7, 8, 9, 10, 11, 12, 13, 14, 15, 16, 17, 18] ?_; refine sho.lt 6 [7, 10, 12, 17, 18] ?_; refine sho.lt 7 [10, 12, 17, 18] ?_; refine sho.lt 8 [9, 10, 12, 17, 18] ?_; refine sho.lt 9 [10, 12, 17, 18] ?_; refine sho.lt 10 [12, 17, 18] ?_; refine sho.lt 11 [12, 17, 18] ?_; refine sho.lt 12 [17, 18] ?_; refine sho.lt 13 [15, 16, 17, 18] ?_; refine sho.lt 14 [15, 16, 17, 18] ?_; refine sho.lt 15 [16, 17, 18] ?_; refine sho.lt 16 [17, 18] ?_; refine sho.lt 17 [18] ?_; refine sho.lt 18 [] ?_; refine late.done (by kernel_rfl) ?_ _; refine NoPanic.normal ?_; have HOD := hid HO9.out.drew; (go_wp2_with fail); go_roundw
                  case rel => exact ⟨i + 1, by omega, by go_num, HD2, HOD⟩
                  case measure => simp [intOf]; omega
              · have HD2 : Hid (holdR A x l ls = holdR A x (l.drop (i + 1)) (ls.drop (i + 1))) := hid (by rw [HDD.out, if_neg (show ¬ lf < x from by have := HLT.out; omega), if_neg (fun q => hm0 q.1)])
                obtain rfl : lim = -1 := (by omega); refine wp_region_noPanic ?_; refine late.region (fun w' => ∀ q, w'.cell? q = w9.cell? q) (fun j => [].contains j) (by kernel_rfl) (fun q => by simp) (fun hHeld => ?_); refine sho.lt 0 [2, 3, 4, 5, 6, 7, 8, 9, 10, 11, 12, 13, 14, 15, 16, 17, 18] ?_; refine sho.lt 1 [2, 3, 4, 5, 6, 7, 8, 9, 10, 11, 12, 13, 14, 15, 16, 17, 18] ?_; refine sho.lt 2 [3, 4, 5, 6, 7, 8, 9, 10, 11, 12, 13, 14, 15, 16, 17, 18] ?_; refine sho.lt 3 [4, 5, 6, 7, 8, 9, 10, 11, 12, 13, 14, 15, 16, 17, 18] ?_; refine sho.lt 4 [5, 6, 7, 8, 9, 10, 11, 12, 13, 14, 15, 16, 17, 18] ?_; refine sho.lt 5 [6, 7, 8, 9, 10, 11, 12, 13, 14, 15, 16, 17, 18] ?_; refine late.take (i := 6) [7, 10, 12, 17, 18] (v := undef) rfl (by kernel_rfl) (by kernel_rfl) (by kernel_rfl) (by kernel_rfl) (fun _ _ _ h => h) (Or.inr ⟨rfl, rfl⟩) (by assumption) ?_; (try simp only [getElem_toArray, getElem_cons_zero, getElem_cons_succ, Act.put, setIfInBounds_toArray, set_cons_zero, set_cons_succ]); refine late.take (i := 7) [10, 12, 17, 18] (v := undef) rfl (by kernel_rfl) (by kernel_rfl) (by kernel_rfl) (by kernel_rfl) (fun _ _ _ h => h) (Or.inr ⟨rfl, rfl⟩) (by assumption) ?_; (try simp only [getElem_toArray, getElem_cons_zero, getElem_cons_succ, Act.put, setIfInBounds_toArray, set_cons_zero, set_cons_succ]); refine late.take (i := 8) [9, 10, 12, 17, 18] (v := undef) rfl (by kernel_rfl) (by kernel_rfl) (by kernel_rfl) (by kernel_rfl) (fun _ _ _ h => h) (Or.inr ⟨rfl, rfl⟩) (by assumption) ?_; (try simp only [getElem_toArray, getElem_cons_zero, getElem_cons_succ, Act.put, setIfInBounds_toArray, set_cons_zero, set_cons_succ]); refine late.take (i := 9) [10, 12, 17, 18] (v := undef) rfl (by kernel_rfl) (by kernel_rfl) (by kernel_rfl) (by kernel_rfl) (fun _ _ _ h => h) (Or.inr ⟨rfl, rfl⟩) (by assumption) ?_; (try simp only [getElem_toArray, getElem_cons_zero, getElem_cons_succ, Act.put, setIfInBounds_toArray, set_cons_zero, set_cons_succ]); refine late.take (i := 10) [12, 17, 18] (v := undef) rfl (by kernel_rfl) (by kernel_rfl) (by kernel_rfl) (by kernel_rfl) (fun _ _ _ h => h) (Or.inr ⟨rfl, rfl⟩) (by assumption) ?_; (try simp only [getElem_toArray, getElem_cons_zero, getElem_cons_succ, Act.put, setIfInBounds_toArray, set_cons_zero, set_cons_succ]); refine late.take (i := 11) [12, 17, 18] (v := undef) rfl (by kernel_rfl) (by kernel_rfl) (by kernel_rfl) (by kernel_rfl) (fun _ _ _ h => h) (Or.inr ⟨rfl, rfl⟩) (by assumption) ?_; (try simp only [getElem_toArray, getElem_cons_zero, getElem_cons_succ, Act.put, setIfInBounds_toArray, set_cons_zero, set_cons_succ]); refine late.take (i := 12) [17, 18] (v := undef) rfl (by kernel_rfl) (by kernel_rfl) (by kernel_rfl) (by kernel_rfl) (fun _ _ _ h => h) (Or.inr ⟨rfl, rfl⟩) (by assumption) ?_; (try simp only [getElem_toArray, getElem_cons_zero, getElem_cons_succ, Act.put, setIfInBounds_toArray, set_cons_zero, set_cons_succ]); refine late.take (i := 13) [15, 16, 17, 18] (v := undef) rfl (by kernel_rfl) (by kernel_rfl) (by kernel_rfl) (by kernel_rfl) (fun _ _ _ h => h) (Or.inr ⟨rfl, rfl⟩) (by assumption) ?_; (try simp only [getElem_toArray, getElem_cons_zero, getElem_cons_succ, Act.put, setIfInBounds_toArray, set_cons_zero, set_cons_succ]); refine late.take (i := 14) [15, 16, 17, 18] (v := undef) rfl (by kernel_rfl) (by kernel_rfl) (by kernel_rfl) (by kernel_rfl) (fun _ _ _ h => h) (Or.inr ⟨rfl, rfl⟩) (by assumption) ?_; (try simp only [getElem_toArray, getElem_cons_zero, getElem_cons_succ, Act.put, setIfInBounds_toArray, set_cons_zero, set_cons_succ]); refine late.take (i := 15) [16, 17, 18] (v := undef) rfl (by kernel_rfl) (by kernel_rfl) (by kernel_rfl) (by kernel_rfl) (fun _ _ _ h => h) (Or.inr ⟨rfl, rfl⟩) (by assumption) ?_; (try simp only [getElem_toArray, getElem_cons_zero, getElem_cons_succ, Act.put, setIfInBounds_toArray, set_cons_zero, set_cons_succ]); refine late.take (i := 16) [17, 18] (v := undef) rfl (by kernel_rfl) (by kernel_rfl) (by kernel_rfl) (by kernel_rfl) (fun _ _ _ h => h) (Or.inr ⟨rfl, rfl⟩) (by assumption) ?_; (try simp only [getElem_toArray, getElem_cons_zero, getElem_cons_succ, Act.put, setIfInBounds_toArray, set_cons_zero, set_cons_succ]); refine late.take (i := 17) [18] (v := undef) rfl (by kernel_rfl) (by kernel_rfl) (by kernel_rfl) (by kernel_rfl) (fun _ _ _ h => h) (Or.inr ⟨rfl, rfl⟩) (by assumption) ?_; (try simp only [getElem_toArray, getElem_cons_zero, getElem_cons_succ, Act.put, setIfInBounds_toArray, set_cons_zero, set_cons_succ]); refine sho.lt 18 [] ?_; refine late.done (by kernel_rfl) ?_ _; refine NoPanic.normal ?_; have HOD := hid HO9.out.drew; (go_wp2_with fail); go_roundw
                case rel => exact ⟨i + 1, by omega, by go_num, HD2, HOD⟩
                case measure => simp [intOf]; omega
          · obtain rfl : i = m := (by omega); have HFA : Hid (E = 0 ∧ A' = shT A l x 0) := hid (by
              have e : E = 0 := (by rw [HE0.out, HD.out, HBN.out]); exact ⟨e, by rw [HT0.out, if_pos e]⟩)
            have hs := shift_any p A a i c l x x 0 wr (HB1.out.only HO.out (fun f => f)) HA.out (HR1.out.only HO.out (fun _ _ f => f)) hc HPA.out (fun _ => by omega) (fun _ => by omega); rw [HSH.out.1, HSH.out.2] at hs; have HS := hid hs; clear hs; (go_wp2_with fail); refine HS.out.mono ?_; rintro _ w7 ⟨rfl, hb, ho⟩; have HE9 : Hid (BkAt w7 p A' ∧ Only (fun q => q = p) w w7) := hid ⟨by rw [HFA.out.2]; exact hb, (Only.p p (HO1.out.trans HO.out)).trans ho⟩; clear hb ho; (go_wp2_with fail); go_ret
            exact ⟨by rw [HFA.out.1]; rfl, HE9.out⟩
      · rw [HDP.out] at HIS; rw [HDL.out] at HLI0; have hE : holdE A l ls x = 1 := (by unfold holdE; rw [if_neg (fun q => hx q.2)]); have hT : holdA A l ls x = A := (by unfold holdA; rw [hE]; rfl); rw [hE, hT]; clear hE hT; have hx' : ¬ (1 ≤ x ∧ x ≤ 9007199254740992) := hx; clear hx hp HDP HDL hlo; go_enter Tryz.func41, Tryz.ntmps41
        (go_wp2_with fail); refine (HIS.out).mono ?_; rintro _ w1 ⟨rfl, ho⟩; have HO := hid ho; clear ho; (go_wp2_with fail); refine (HLI0.out _ HO.out).mono ?_; rintro _ w2 ⟨rfl, ho⟩; replace HO := hid (HO.out.trans ho); clear ho HLI0; (go_wp2_with fail); refine (isAmt_no _ _ hx').mono ?_; rintro _ _ ⟨rfl, rfl⟩; (go_wp2_with fail); go_ret
        exact ⟨rfl, HB.out.only HO.out (fun f => f), Only.p p HO.out⟩
    · have HDL : Hid (decide (m = n ∧ LOk ls m) = false) := hid (decide_eq_false hlm); rw [HDP.out] at HIS; rw [HDL.out] at HLI0; have hE : holdE A l ls x = 1 := (by unfold holdE; rw [if_neg (fun q => hlm ⟨by rw [HLN.out, HLN2.out] at q; exact q.1.2.1, by rw [HLN2.out] at q; exact q.1.2.2⟩)]); have hT : holdA A l ls x = A := (by unfold holdA; rw [hE]; rfl); rw [hE, hT]; clear hE hT; clear hp HDP HDL hlm; go_enter Tryz.func41, Tryz.ntmps41
      (go_wp2_with fail); refine (HIS.out).mono ?_; rintro _ w1 ⟨rfl, ho⟩; have HO := hid ho; clear ho; (go_wp2_with fail); refine (HLI0.out _ HO.out).mono ?_; rintro _ w2 ⟨rfl, ho⟩; replace HO := hid (HO.out.trans ho); clear ho HLI0; (go_wp2_with fail); go_ret
      exact ⟨rfl, HB.out.only HO.out (fun f => f), Only.p p HO.out⟩
  · have HDP : Hid (decide (PathOk l) = false) := hid (decide_eq_false hp); rw [HDP.out] at HIS; have hE : holdE A l ls x = 1 := (by unfold holdE; rw [if_neg (fun q => hp q.1.1)]); have hT : holdA A l ls x = A := (by unfold holdA; rw [hE]; rfl); rw [hE, hT]; clear hE hT; clear hp HDP HLI0; go_enter Tryz.func41, Tryz.ntmps41
    (go_wp2_with fail); refine (HIS.out).mono ?_; rintro _ w1 ⟨rfl, ho⟩; have HO := hid ho; clear ho; (go_wp2_with fail); go_ret
    exact ⟨rfl, HB.out.only HO.out (fun f => f), Only.p p HO.out⟩
def RoomOk (l ls : List Int) : Prop := PathOk l ∧ ls.length = l.length ∧ LOk ls ls.length
instance (l ls : List Int) : Decidable (RoomOk l ls) := inferInstanceAs (Decidable (_ ∧ _ ∧ _))
theorem bzero : Tryz.zeroCells119.toList = av A0 := by kernel_rfl
theorem BkAt.fresh {cs : Array Value} (hc : cs.toList = av A0) (w : World) (t : TypeId) : BkAt (w.alloc (.cells cs t)) w.heap.size A0 := by
  refine ⟨fun k hk => AcAt.iff.2 fun c hcc => ?_, fun j hj => alloc_froz _ _ _ _ _ rfl⟩; rw [Go.Joins.cell_of_block (cs := cs) (t := t) (fr := (0, 0)) (by rw [heap_alloc, if_pos rfl])]; rw [← av_get A0 k c (by simpa [A0] using hk) hcc, ← hc, Array.getElem?_toList]
theorem bnew_any (w : World) : Calls Tryz.prog 49 #[] w fun e w' => e = .returned (.pointer (some ⟨w.heap.size, 0, none⟩)) ∧ BkAt w' w.heap.size A0 ∧ Only (fun _ => False) w w' := by
  have H : Hid (BkAt (w.alloc (.cells Tryz.zeroCells119 119)) w.heap.size A0) := hid (BkAt.fresh bzero w _); have HO : Hid (∀ o, Only (fun _ => False) w (w.alloc o)) := hid (fun o => (Only.refl _ _).alloc o); go_enter Tryz.func49, Tryz.ntmps49
  (go_wp2_with fail); go_ret
  exact ⟨rfl, H.out, HO.out _⟩
theorem Right.left_M {a : Ac} (h : Right a) : left a ≤ 9007199254740992 := by
  obtain ⟨⟨⟨a1, a2⟩, ⟨b1, b2⟩, ⟨c1, c2⟩, ⟨d1, d2⟩, ⟨g1, g2⟩⟩, hs, hl⟩ := h; unfold left; omega
theorem Bok.shT {dh du : Int} (hd : dh + du ≤ 0) : ∀ (l : List Int) (A : List Ac), Bok A → (∀ i, i < l.length → NodeOk (l.getD i 0)) → l.Nodup → badB A dh du l = false → Bok (shT A l dh du) := by
  intro l
  induction l with
  | nil => intro A h _ _ _; exact h
  | cons n r ih =>
    intro A h hn hnd hb; obtain ⟨n1, n2⟩ : NodeOk n := hn 0 (by simp); unfold badB at hb; rw [List.any_cons, Bool.or_eq_false_iff] at hb; obtain ⟨hb1, hb2⟩ := hb; have hr := h.ok n.toNat; have hr' : Right (nd A n) := hr; rw [List.nodup_cons] at hnd; have hok : Bok (A.set n.toNat (shB (nd A n) dh du)) := by
      refine h.set (by omega) (by omega) ?_; simp only [Bool.or_eq_false_iff, decide_eq_false_iff_not] at hb1; generalize nd A n = a at *; obtain ⟨at_, ac, ae, au, ah⟩ := a; obtain ⟨⟨⟨a1, a2⟩, ⟨b1, b2⟩, ⟨c1, c2⟩, ⟨d1, d2⟩, ⟨g1, g2⟩⟩, hs, hl⟩ := hr'; unfold left at hl; dsimp only at a1 a2 b1 b2 c1 c2 d1 d2 g1 g2 hs hl hb1; unfold shB; dsimp only; refine ⟨⟨⟨a1, a2⟩, ⟨b1, b2⟩, ⟨c1, c2⟩, ⟨?_, ?_⟩, ⟨?_, ?_⟩⟩, hs, ?_⟩
      all_goals first | (show 0 ≤ left _; unfold left; dsimp only; omega) | (dsimp only; omega)
    refine ih _ hok (fun i hi => hn (i + 1) (by simpa using hi)) hnd.2 ?_; rw [← hb2]; unfold badB; have hcong : ∀ m ∈ r, ((decide ((nd (A.set n.toNat (shB (nd A n) dh du)) m).h + dh < 0) || decide ((nd (A.set n.toNat (shB (nd A n) dh du)) m).u + du < 0)) = (decide ((nd A m).h + dh < 0) || decide ((nd A m).u + du < 0))) := by
      intro m hm; have hne : m.toNat ≠ n.toNat := by
        intro e; obtain ⟨j, hj, hj2⟩ := List.mem_iff_getElem.1 hm; have hmn := hn (j + 1) (by simpa using hj); have e2 : (n :: r).getD (j + 1) 0 = m := (by rw [← hj2]; simp [List.getD, hj]); rw [e2] at hmn; obtain ⟨m1, m2⟩ := hmn; have : m = n := (by omega); rw [this] at hm; exact hnd.1 hm
      have e3 : nd (A.set n.toNat (shB (nd A n) dh du)) m = nd A m := (by unfold nd; simp [List.getD, Ne.symm hne]); rw [e3]
    rw [Bool.eq_iff_iff, List.any_eq_true, List.any_eq_true]; exact ⟨fun ⟨m, hm, q⟩ => ⟨m, hm, by rw [← hcong m hm]; exact q⟩, fun ⟨m, hm, q⟩ => ⟨m, hm, by rw [hcong m hm]; exact q⟩⟩
theorem PathOk.nodup {l : List Int} (h : PathOk l) : l.Nodup := by
  unfold List.Nodup; rw [List.pairwise_iff_getElem]; intro i j hi hj hij e3; have h2 := (h.2 j hj).2; have e1 : l.getD j 0 = l[j] := (by simp [List.getD, hj]); have : l.getD j 0 ∈ l.take j := by
    rw [e1, ← e3]; have hit : i < (l.take j).length := (by rw [List.length_take]; omega); have : l[i] = (l.take j)[i] := (by rw [List.getElem_take]); rw [this]; exact List.getElem_mem _
  rw [← List.contains_iff_mem, h2] at this; cases this
theorem Bok.shA {A : List Ac} (h : Bok A) (l : List Int) (x : Int) {dh du : Int} (hd : AmtOk x → dh + du ≤ 0) : Bok (shA A l x dh du) := by
  unfold fnd.shA; by_cases e : shE A l x dh du = 0
  · rw [if_pos e]; unfold shE at e; by_cases q : PathOk l ∧ AmtOk x
    · rw [if_pos q] at e; have hb : badB A dh du l = false := by
        by_cases hb : badB A dh du l = true
        · rw [if_pos hb] at e; simp at e
        · simpa using hb
      exact Bok.shT (hd q.2) l A h (fun i hi => (q.1.2 i hi).1) q.1.nodup hb
    · rw [if_neg q] at e; simp at e
  · rw [if_neg e]; exact h
theorem holdR_ok {A : List Ac} {x : Int} : ∀ (l ls : List Int), l.length = ls.length → holdR A x l ls = 0 → ∀ n ∈ l, x ≤ left (nd A n) := by
  intro l
  induction l with
  | nil => intro ls _ _ n hn; cases hn
  | cons n r ih =>
    intro ls hl he m hm; cases ls with
    | nil => simp at hl
    | cons k rs =>
      unfold holdR at he; by_cases h1 : left (nd A n) < x
      · rw [if_pos h1] at he; simp at he
      · rw [if_neg h1] at he; split at he
        · simp at he
        · rcases List.mem_cons.1 hm with rfl | hm
          · omega
          · exact ih rs (by simpa using hl) he m hm
theorem Bok.shH {x : Int} (hx : 1 ≤ x) : ∀ (l : List Int) (A : List Ac), Bok A → (∀ i, i < l.length → NodeOk (l.getD i 0)) → l.Nodup → (∀ n ∈ l, x ≤ left (nd A n)) → Bok (fnd.shT A l x 0) := by
  intro l
  induction l with
  | nil => intro A h _ _ _; exact h
  | cons n r ih =>
    intro A h hn hnd hb; obtain ⟨n1, n2⟩ : NodeOk n := hn 0 (by simp); have hr' : Right (nd A n) := h.ok n.toNat; have hb1 := hb n List.mem_cons_self; rw [List.nodup_cons] at hnd; have hok : Bok (A.set n.toNat (shB (nd A n) x 0)) := by
      refine h.set (by omega) (by omega) ?_; generalize nd A n = a at *; obtain ⟨at_, ac, ae, au, ah⟩ := a; obtain ⟨⟨⟨a1, a2⟩, ⟨b1, b2⟩, ⟨c1, c2⟩, ⟨d1, d2⟩, ⟨g1, g2⟩⟩, hs, hl⟩ := hr'; unfold left at hl hb1; dsimp only at a1 a2 b1 b2 c1 c2 d1 d2 g1 g2 hs hl hb1; unfold shB; dsimp only; refine ⟨⟨⟨a1, a2⟩, ⟨b1, b2⟩, ⟨c1, c2⟩, ⟨?_, ?_⟩, ⟨?_, ?_⟩⟩, hs, ?_⟩
      all_goals first | (show 0 ≤ left _; unfold left; dsimp only; omega) | (dsimp only; omega)
    refine ih _ hok (fun i hi => hn (i + 1) (by simpa using hi)) hnd.2 (fun m hm => ?_); have hne : m.toNat ≠ n.toNat := by
      intro e; obtain ⟨j, hj, hj2⟩ := List.mem_iff_getElem.1 hm; have hmn := hn (j + 1) (by simpa using hj); have e2 : (n :: r).getD (j + 1) 0 = m := (by rw [← hj2]; simp [List.getD, hj]); rw [e2] at hmn; obtain ⟨m1, m2⟩ := hmn; have : m = n := (by omega); rw [this] at hm; exact hnd.1 hm
    have e3 : nd (A.set n.toNat (shB (nd A n) x 0)) m = nd A m := (by unfold nd; simp [List.getD, Ne.symm hne]); rw [e3]; exact hb m (List.mem_cons_of_mem _ hm)
theorem Bok.holdA {A : List Ac} (h : Bok A) (l ls : List Int) (x : Int) : Bok (holdA A l ls x) := by
  unfold fnd.holdA; by_cases e : holdE A l ls x = 0
  · rw [if_pos e]; unfold holdE at e; by_cases q : (PathOk l ∧ ls.length = l.length ∧ LOk ls ls.length) ∧ AmtOk x
    · rw [if_pos q] at e; exact Bok.shH q.2.1 l A h (fun i hi => (q.1.1.2 i hi).1) q.1.1.nodup (holdR_ok l ls q.1.2.1.symm e)
    · rw [if_neg q] at e; simp at e
  · rw [if_neg e]; exact h
end Go.Proofs.YtkbaafgaaiekpaaGreat.fnd
namespace Go.Proofs.YtkbaafgaaiekpaaGreat.puw
open Go.RowKit mem
set_option linter.unusedVariables false
abbrev AcC := accn.Ac
structure Pu (S : Nat → Prop) (w : World) (p pb pj : Nat) (A : List fnd.Ac) (op : Nat) (C : AcC → Option (List Int)) (L : List jnw.Ps) : Prop where
  c0 : w.cell? ⟨p, 0, none⟩ = some (.pointer (some ⟨pb, 0, none⟩))
  c1 : w.cell? ⟨p, 1, none⟩ = some (.pointer (some ⟨pj, 0, none⟩))
  bk : fnd.BkAt w pb A
  bok : fnd.Bok A
  jn : ∃ v m nn, jnw.JnAt (fun k => S k ∧ k ≠ p ∧ k ≠ pb) w pj v op m nn C L
  sp : S p
  sb : S pb
  ne : p ≠ pb
theorem Pu.lt {S : Nat → Prop} {w : World} {p pb pj : Nat} {A : List fnd.Ac} {op : Nat} {C : AcC → Option (List Int)} {L : List jnw.Ps} (h : Pu S w p pb pj A op C L) : p < w.heap.size ∧ pb < w.heap.size := ⟨World.block_lt_of_cell? w _ h.c0, h.bk.lt⟩
theorem Pu.opl {S : Nat → Prop} {w : World} {p pb pj : Nat} {A : List fnd.Ac} {op : Nat} {C : AcC → Option (List Int)} {L : List jnw.Ps} (h : Pu S w p pb pj A op C L) : op < 32 := by
  obtain ⟨v, m, nn, hj⟩ := h.jn; exact hj.jc.le
theorem Pu.only {S T : Nat → Prop} {w w' : World} {p pb pj : Nat} {A : List fnd.Ac} {op : Nat} {C : AcC → Option (List Int)} {L : List jnw.Ps} (h : Pu S w p pb pj A op C L) (ho : Only T w w') (hT : ∀ q, S q → ¬ T q) : Pu S w' p pb pj A op C L := by
  obtain ⟨v, m, nn, hj⟩ := h.jn; exact ⟨ho.cell' h.c0 (hT _ h.sp), ho.cell' h.c1 (hT _ h.sp), h.bk.only ho (hT _ h.sb), h.bok, ⟨v, m, nn, hj.only ho (fun q hq => hT q hq.1)⟩, h.sp, h.sb, h.ne⟩
theorem Pu.quiet {S : Nat → Prop} {w w' : World} {p pb pj : Nat} {A : List fnd.Ac} {op : Nat} {C : AcC → Option (List Int)} {L : List jnw.Ps} (h : Pu S w p pb pj A op C L) (ho : Only (fun _ => False) w w') : Pu S w' p pb pj A op C L := h.only ho (fun _ _ f => f)
theorem Pu.mono {S T : Nat → Prop} {w : World} {p pb pj : Nat} {A : List fnd.Ac} {op : Nat} {C : AcC → Option (List Int)} {L : List jnw.Ps} (h : Pu S w p pb pj A op C L) (hT : ∀ q, q < w.heap.size → S q → T q) : Pu T w p pb pj A op C L := by
  obtain ⟨v, m, nn, hj⟩ := h.jn; exact ⟨h.c0, h.c1, h.bk, h.bok, ⟨v, m, nn, hj.mono (fun q hq hs => ⟨hT q hq hs.1, hs.2⟩)⟩, hT _ h.lt.1 h.sp, hT _ h.lt.2 h.sb, h.ne⟩
theorem Pu.book {S : Nat → Prop} {w w' : World} {p pb pj : Nat} {A A' : List fnd.Ac} {op : Nat} {C : AcC → Option (List Int)} {L : List jnw.Ps} (h : Pu S w p pb pj A op C L) (hb : fnd.BkAt w' pb A') (hA : fnd.Bok A') (ho : Only (fun q => q = pb) w w') : Pu S w' p pb pj A' op C L := by
  obtain ⟨v, m, nn, hj⟩ := h.jn; exact ⟨ho.cell' h.c0 h.ne, ho.cell' h.c1 h.ne, hb, hA, ⟨v, m, nn, hj.only ho (fun q hq e => hq.2.2 e)⟩, h.sp, h.sb, h.ne⟩
theorem Pu.jour {S : Nat → Prop} {w w' : World} {p pb pj : Nat} {A : List fnd.Ac} {op op' : Nat} {C C' : AcC → Option (List Int)} {L L' : List jnw.Ps} (h : Pu S w p pb pj A op C L) (hj : ∃ v m nn, jnw.JnAt (fun q => (S q ∧ q ≠ p ∧ q ≠ pb) ∨ w.heap.size ≤ q) w' pj v op' m nn C' L') (ho : Only (fun q => S q ∧ q ≠ p ∧ q ≠ pb) w w') : Pu (fun q => S q ∨ w.heap.size ≤ q) w' p pb pj A op' C' L' := by
  obtain ⟨v, m, nn, hj⟩ := hj; have hl := h.lt; exact ⟨ho.cell' h.c0 (fun s => s.2.1 rfl), ho.cell' h.c1 (fun s => s.2.1 rfl), h.bk.only ho (fun s => s.2.2 rfl), h.bok, ⟨v, m, nn, hj.mono (fun q hq hs => by
    rcases hs with hs | hs
    · exact ⟨.inl hs.1, hs.2⟩
    · exact ⟨.inr hs, by omega, by omega⟩)⟩, .inl h.sp, .inl h.sb, h.ne⟩
def PNew (w : World) (e : Ending) (w' : World) : Prop := ∃ p pb pj, e = .returned (.pointer (some ⟨p, 0, none⟩)) ∧ Pu (fun q => w.heap.size ≤ q) w' p pb pj fnd.A0 0 (fun _ => none) [] ∧ Only (fun _ => False) w w'
theorem pnew_any (w : World) : Calls Tryz.prog 18 #[] w (PNew w) := by
  go_enter Tryz.func18, Tryz.ntmps18
  (go_wp2_with fail); refine (fnd.bnew_any w).mono ?_; rintro _ w1 ⟨rfl, hb, ho1⟩; have HB := hid hb; have HO1 := hid ho1; clear hb ho1; (go_wp2_with fail); refine (jnw.new_any w1).mono ?_; rintro _ w2 ⟨rfl, hj, ho2⟩; have hbl := HB.out.lt; have hjl := World.block_lt_of_cell? w2 _ hj.c0; simp only at hjl; have hs1 := HO1.out.size; have hs2 := ho2.size; have HEND : Hid (PNew w (.returned (.pointer (some ⟨w2.heap.size, 0, none⟩))) (w2.alloc (.cells #[.pointer (some ⟨w.heap.size, 0, none⟩), .pointer (some ⟨w1.heap.size, 0, none⟩)] 83))) := hid (by
    have ho3 : Only (fun _ => False) w2 (w2.alloc (.cells #[.pointer (some ⟨w.heap.size, 0, none⟩), .pointer (some ⟨w1.heap.size, 0, none⟩)] 83)) := (Only.refl _ _).alloc _; refine ⟨w2.heap.size, w.heap.size, w1.heap.size, rfl, ⟨tre.alloc_cell rfl rfl, tre.alloc_cell rfl rfl, (HB.out.only ho2 (fun f => f)).only ho3 (fun f => f), fnd.Bok.new, ⟨_, _, _, (jnw.JnAt.new (hj.only ho3 (fun f => f)) ⟨?_, ?_, ?_⟩)⟩, ?_, Nat.le_refl _, ?_⟩, (HO1.out.trans ho2).trans ho3⟩
    · show w.heap.size ≤ w1.heap.size; omega
    · show w1.heap.size ≠ w2.heap.size; omega
    · show w1.heap.size ≠ w.heap.size; omega
    · show w.heap.size ≤ w2.heap.size; omega
    · omega)
  clear hj ho2 hbl hjl hs1 hs2 HB HO1; (go_wp2_with fail); go_ret
  exact HEND.out
theorem pget_any {S : Nat → Prop} {p pb pj : Nat} {A : List fnd.Ac} {op : Nat} {C : AcC → Option (List Int)} {L : List jnw.Ps} (n : Int) (w : World) (h : Pu S w p pb pj A op C L) : Calls Tryz.prog 23 #[.pointer (some ⟨p, 0, none⟩), .int .i64 n] w fun e w' => e = .returned (fnd.aggA (fnd.acG A n)) ∧ Only (fun _ => False) w w' := by
  obtain ⟨w1, hw1⟩ : ∃ zz, zz = w.alloc (.cells #[.int .i64 0, .int .i64 0, .int .i64 0, .int .i64 0, .int .i64 0] 58) := ⟨_, rfl⟩; obtain ⟨g, hg⟩ : ∃ zz, zz = w.heap.size := ⟨_, rfl⟩; have ho1 : Only (fun _ => False) w w1 := (by rw [hw1]; exact (Only.refl _ _).alloc _); have HF5 : Hid (tre.Five w1 g) := hid (by rw [hw1]; exact tre.Five.new hg); have HO1 := hid ho1; have c0 := ho1.cell' h.c0 (fun f => f); have HG := hid (fnd.get_any pb A n w1 (h.bk.only ho1 (fun f => f))); have HGW : Hid (w.heap.size ≤ g) := hid (by omega); clear h ho1; generalize fnd.acG A n = a at *; obtain ⟨at_, ac, ae, au, ah⟩ := a; unfold fnd.aggA at HG ⊢; dsimp only at HG ⊢; go_enter Tryz.func23, Tryz.ntmps23
  (go_upto_region 1 with fail); simp only [← hw1, ← hg]; clear hw1 hg; (go_wp2_with fail); refine HG.out.mono ?_; rintro _ w2 ⟨rfl, ho⟩; have HO2 := hid (HO1.out.trans ho); have HF2 := hid (HF5.out.only ho (fun f => f)); have HSZ := hid HO2.out.size; obtain ⟨⟨u0, y0⟩, ⟨u1, y1⟩, ⟨u2, y2⟩, ⟨u3, y3⟩, ⟨u4, y4⟩, f0, f1, f2, f3, f4⟩ := HF2.out; clear ho HG; (go_wp2_with fail); have hp := HF2.out.put (.int .i64 at_) (.int .i64 ac) (.int .i64 ae) (.int .i64 au) (.int .i64 ah); have hpo : Only (fun q => q = g) w2 (tre.put50 w2 g (.int .i64 at_) (.int .i64 ac) (.int .i64 ae) (.int .i64 au) (.int .i64 ah)) := (by rw [tre.put50_eq]; exact tre.put5_only _ _ _ _ _ _ _ _); have hpe := HO2.out.then hpo (fun q hq e => by have := HGW.out; omega); unfold tre.put50 at hp hpe; obtain ⟨e0, e1, e2, e3, e4⟩ := hp; refine bodyPost_ret (v := .agg #[.int .i64 at_, .int .i64 ac, .int .i64 ae, .int .i64 au, .int .i64 ah]) (by simp [results, Tryz.results23, go_sem, e0, e1, e2, e3, e4]) rfl ⟨rfl, hpe⟩
theorem pavail_any {S : Nat → Prop} {p pb pj : Nat} {A : List fnd.Ac} {op : Nat} {C : AcC → Option (List Int)} {L : List jnw.Ps} (n : Int) (w : World) (h : Pu S w p pb pj A op C L) : Calls Tryz.prog 15 #[.pointer (some ⟨p, 0, none⟩), .int .i64 n] w fun e w' => e = .returned (.int .i64 (fnd.left (fnd.acG A n))) ∧ Only (fun _ => False) w w' := by
  have c0 := h.c0; have HG := hid (fnd.available_any pb A n w h.bk h.bok); clear h; generalize fnd.left (fnd.acG A n) = a at *; go_enter Tryz.func15, Tryz.ntmps15
  (go_wp2_with fail); refine HG.out.mono ?_; rintro _ w2 ⟨rfl, ho⟩; have HO2 := hid ho; clear ho HG; (go_wp2_with fail); go_ret
  exact ⟨rfl, HO2.out⟩
theorem pjour_any {S : Nat → Prop} {p pb pj : Nat} {A : List fnd.Ac} {op : Nat} {C : AcC → Option (List Int)} {L : List jnw.Ps} (w : World) (h : Pu S w p pb pj A op C L) : Calls Tryz.prog 16 #[.pointer (some ⟨p, 0, none⟩)] w fun e w' => e = .returned (.pointer (some ⟨pj, 0, none⟩)) ∧ w = w' := by
  have c1 := h.c1; clear h; go_enter Tryz.func16, Tryz.ntmps16
  (go_wp2_with fail); go_ret
  exact ⟨rfl, rfl⟩
end Go.Proofs.YtkbaafgaaiekpaaGreat.puw
