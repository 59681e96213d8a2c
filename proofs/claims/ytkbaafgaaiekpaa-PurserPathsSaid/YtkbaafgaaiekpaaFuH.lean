/- Books: Hold. -/
import Derived.Test.YtkbaafgaaiekpaaFuG
namespace Go.Proofs.Ytkbaafgaaiekpaa.fnd
open Go.RowKit mem tre
set_option linter.unusedVariables false

def holdR (A : List Ac) (x : Int) : List Int → List Int → Int
  | n :: l, m :: ls => if left (nd A n) < x then 9 else if 0 ≤ m ∧ m < (nd A n).u + (nd A n).h + x then 18 else holdR A x l ls
  | _, _ => 0
def holdE (A : List Ac) (l ls : List Int) (x : Int) : Int := if (PathOk l ∧ ls.length = l.length ∧ LOk ls ls.length) ∧ AmtOk x then holdR A x l ls else 1
def holdA (A : List Ac) (l ls : List Int) (x : Int) : List Ac := if holdE A l ls x = 0 then shT A l x 0 else A
theorem hold_bad {A : List Ac} (h : Bok A) {x : Int} (hx : AmtOk x) (l : List Int) : badB A x 0 l = false := by
  unfold badB
  rw [List.any_eq_false]
  intro n _
  have hp := (h.ok n.toNat).1
  have h1 : 0 ≤ (nd A n).h := hp.2.2.2.2.1
  have h2 : 0 ≤ (nd A n).u := hp.2.2.2.1.1
  obtain ⟨x1, _⟩ := hx
  simp only [Bool.or_eq_true, decide_eq_true_iff, not_or]
  omega
theorem hold_sh {A : List Ac} (h : Bok A) {l : List Int} {x : Int} (hp : PathOk l) (hx : AmtOk x) : shE A l x x 0 = 0 ∧ shA A l x x 0 = shT A l x 0 := by
  have e : shE A l x x 0 = 0 := by unfold shE; rw [if_pos ⟨hp, hx⟩, hold_bad h hx]; rfl
  exact ⟨e, by unfold shA; rw [if_pos e]⟩
set_option maxRecDepth 100000 in
set_option maxHeartbeats 4000000 in
theorem hold_any (p : Nat) (A : List Ac) (a : Option Addr) (n c : Nat) (l : List Int) (a2 : Option Addr) (m c2 : Nat) (ls : List Int) (x : Int) (w : World) (h : BkAt w p A) (hA : Bok A) (hr : ReadsI w a n l) (hc : n ≤ c) (hr2 : ReadsI w a2 m ls) (hpa : ∀ y, a = some y → y.block ≠ p) : Calls Try.prog 38 #[.pointer (some ⟨p, 0, none⟩), .slice a n c, .slice a2 m c2, .int .i64 x] w (FDid p (holdA A l ls x) (holdE A l ls x) w) := by
  have HB := Lib.hid h
  have HA := Lib.hid hA
  have HR := Lib.hid hr
  have HR2 := Lib.hid hr2
  have HPA := Lib.hid hpa
  have hm := hr.2.1
  have hm2 := hr2.2.1
  unfold maxLen at hm hm2
  have HLN := Lib.hid hr.1
  have HLN2 := Lib.hid hr2.1
  have HIS := Lib.hid (ispath_any a n c l w hr hc)
  have HLI0 : Hid (∀ wy, Only (fun _ => False) w wy → _) := Lib.hid (fun wy ho => arelim_any a2 m c2 ls a n c wy (hr2.only ho (fun _ _ f => f)) hr.2.1)
  clear h hA hr hr2 hpa
  by_cases hp : PathOk l
  · have HDP : Hid (decide (PathOk l) = true) := Lib.hid (decide_eq_true hp)
    by_cases hlm : m = n ∧ LOk ls m
    · have HDL : Hid (decide (m = n ∧ LOk ls m) = true) := Lib.hid (decide_eq_true hlm)
      obtain ⟨rfl, hlo⟩ := hlm
      by_cases hx : AmtOk x
      · have HE0 : Hid (holdE A l ls x = holdR A x l ls) := Lib.hid (by unfold holdE; rw [if_pos ⟨⟨hp, by rw [HLN.out, HLN2.out], by rw [HLN2.out]; exact hlo⟩, hx⟩])
        have HT0 : Hid (holdA A l ls x = if holdE A l ls x = 0 then shT A l x 0 else A) := Lib.hid rfl
        have HPK : Hid (∀ i, i < m → ∃ k : Nat, l.getD i 0 = k ∧ 1 ≤ k ∧ k < 33) := Lib.hid (fun i hi => by obtain ⟨k, q1, q2, q3, _⟩ := path_toNat hp i (by rw [HLN.out]; exact hi); exact ⟨k, q1, q2, q3⟩)
        have HDR : Hid (∀ i, i < m → holdR A x (l.drop i) (ls.drop i) = if left (nd A (l.getD i 0)) < x then 9 else if 0 ≤ ls.getD i 0 ∧ ls.getD i 0 < (nd A (l.getD i 0)).u + (nd A (l.getD i 0)).h + x then 18 else holdR A x (l.drop (i + 1)) (ls.drop (i + 1))) := Lib.hid (fun i hi => by rw [drop_at l i (by rw [HLN.out]; exact hi), drop_at ls i (by rw [HLN2.out]; exact hi)]; rfl)
        have HND : Hid (∀ i, Parts (nd A i)) := Lib.hid (fun i => (HA.out.ok _).1)
        have HBN : Hid (holdR A x (l.drop m) (ls.drop m) = 0) := Lib.hid (by rw [List.drop_eq_nil_of_le (by rw [HLN.out]; exact Nat.le_refl _)]; rfl)
        have HLI : Hid (∀ i, i < m → LimIn (ls.getD i 0)) := Lib.hid hlo
        have HSH := Lib.hid (hold_sh HA.out hp hx)
        obtain ⟨x1, x2⟩ := hx
        rw [HDP.out] at HIS
        rw [HDL.out] at HLI0
        clear hp HDP HDL hlo
        generalize holdE A l ls x = E at *
        generalize holdA A l ls x = A' at *
        go_enter Try.func38, Try.ntmps38
        go_wp2_with fail
        refine (HIS.out).mono ?_
        rintro _ w1 ⟨rfl, ho⟩
        have HO := Lib.hid ho
        clear ho
        go_wp2_with fail
        refine (HLI0.out _ HO.out).mono ?_
        rintro _ w2 ⟨rfl, ho⟩
        replace HO := Lib.hid (HO.out.trans ho)
        clear ho HLI0
        go_wp2_with fail
        refine (isAmt_yes _ _ x1 x2).mono ?_
        rintro _ _ ⟨rfl, rfl⟩
        have HO1 := Lib.hid HO.out
        have HR1 := Lib.hid (HR.out.only HO.out (fun _ _ f => f))
        have HR21 := Lib.hid (HR2.out.only HO.out (fun _ _ f => f))
        have HB1 := Lib.hid (HB.out.only HO.out (fun f => f))
        clear HO HR HR2 HB
        rename World => w1
        go_wp2_with fail
        go_loopw [32] (fun iv wr => ∃ i : Nat, i ≤ m ∧ iv = .int .i64 (i : Int) ∧ Hid (holdR A x l ls = holdR A x (l.drop i) (ls.drop i)) ∧ Hid (Only (fun _ => False) w1 wr)) (fun iv _ => m - (intOf iv).toNat)
        case atStart => exact ⟨0, by omega, rfl, Lib.hid rfl, Lib.hid (Only.refl _ _)⟩
        case round =>
          obtain ⟨i, hi, rfl, HD, HO⟩ := hrel
          rename World => wr
          by_cases h8 : i < m
          · obtain ⟨b, off, rfl, hcell⟩ := HR1.out.2.2.2.resolve_left (by omega)
            obtain ⟨b2, off2, rfl, hcell2⟩ := HR21.out.2.2.2.resolve_left (by omega)
            have cx := HO.out.cell' (hcell i h8) (fun f => f)
            have cm := HO.out.cell' (hcell2 i h8) (fun f => f)
            have hi0 : (0 : Int) ≤ i := by omega
            have hi1 : (i : Int) < m := by omega
            obtain ⟨k, hk, k1, k2⟩ := HPK.out i h8
            have hdd := HDR.out i h8
            have hpt := HND.out (l.getD i 0)
            obtain ⟨l1, l2⟩ := HLI.out i h8
            rw [hk, nd_nat] at hdd hpt
            rw [hk] at cx
            have hk2 : (k : Int) < 33 := by omega
            have hk0 : (0 : Int) ≤ k := by omega
            obtain ⟨c0, c1, c2, c3, c4⟩ := (HB1.out.only HO.out (fun f => f)).1 k k2
            have HAV : Hid (∀ w1, _) := Lib.hid (fun w1 => avail_any (A.getD k zA) w1 hpt)
            generalize A.getD k zA = ac at *
            obtain ⟨at_, ac, ae, au, ah⟩ := ac
            unfold aggA at HAV
            dsimp only at c0 c1 c2 c3 c4 hdd HAV
            obtain ⟨-, -, -, ⟨u1, u2⟩, ⟨g1, g2⟩⟩ := hpt
            dsimp only at u1 u2 g1 g2
            have q1 : IntKind.i64.wrap (au + ah) = au + ah := w64 _ (by omega) (by omega)
            have q2 : IntKind.i64.wrap (au + ah + x) = au + ah + x := w64 _ (by omega) (by omega)
            generalize ls.getD i 0 = lim at *
            generalize left ⟨at_, ac, ae, au, ah⟩ = lf at *
            have HDD := Lib.hid (HD.out.trans hdd)
            clear hcell hcell2 hdd hk u1 u2 g1 g2
            obtain ⟨e0, e1, e2, e3, e4, ho9⟩ := node_box 40 (.int .i64 at_) (.int .i64 ac) (.int .i64 ae) (.int .i64 au) (.int .i64 ah) (Only.refl (fun _ => False) wr)
            obtain ⟨w8, hw8⟩ : ∃ zz, zz = wr.alloc (.cells #[.int .i64 at_, .int .i64 ac, .int .i64 ae, .int .i64 au, .int .i64 ah] 40) := ⟨_, rfl⟩
            obtain ⟨g, hg⟩ : ∃ zz, zz = wr.heap.size := ⟨_, rfl⟩
            simp only [← hw8, ← hg] at e0 e1 e2 e3 e4 ho9
            go_upto_region 7 with fail
            simp only [← hw8, ← hg]
            clear hw8 hg
            go_wp2_with fail
            refine (HAV.out _).mono ?_
            rintro _ w9 ⟨rfl, ho⟩
            have HO9 := Lib.hid (HO.out.trans (ho9.trans ho))
            replace e3 := ho.cell' e3 (fun f => f)
            replace e4 := ho.cell' e4 (fun f => f)
            replace cm := (ho9.trans ho).cell' cm (fun f => f)
            clear ho ho9 HAV e0 e1 e2 cx c0 c1 c2 c3 c4
            by_cases hlt : lf < x
            · have HFA : Hid (E = 9 ∧ A' = A) := Lib.hid (by
                have e : E = 9 := by rw [HE0.out, HDD.out, if_pos hlt]
                exact ⟨e, by rw [HT0.out, e]; rfl⟩)
              go_wp2_with fail
              go_ret
              exact ⟨by rw [HFA.out.1]; rfl, by rw [HFA.out.2]; exact HB1.out.only HO9.out (fun f => f), Only.p p (HO1.out.trans HO9.out)⟩
            · have HLT := Lib.hid hlt
              go_upto_region 9 with fail
              by_cases hm0 : 0 ≤ lim
              · have hbm : (lim != -1) = true := by simp; omega
                by_cases hgt : lim < au + ah + x
                · have HFA : Hid (E = 18 ∧ A' = A) := Lib.hid (by
                    have e : E = 18 := by rw [HE0.out, HDD.out, if_neg (show ¬ lf < x from by have := HLT.out; omega), if_pos ⟨hm0, hgt⟩]
                    exact ⟨e, by rw [HT0.out, e]; rfl⟩)
                  refine wp_region_noPanic ?_
                  refine late.region (fun w' => ∀ q, w'.cell? q = w9.cell? q) (fun j => [].contains j) (by kernel_rfl) (fun q => by simp) (fun hHeld => ?_)
                  refine late.take (i := 0) [2, 3, 4, 5, 6, 7, 8, 9, 10, 11, 12, 13, 14, 15, 16, 17, 18] (v := ?_) rfl (by kernel_rfl) (by kernel_rfl) (by kernel_rfl) (by kernel_rfl) (fun _ _ _ h => h) (Or.inl ⟨by rfl, ?_⟩) (by assumption) ?_
                  rotate_left 1
                  · intro w' hSw
                    try dsimp only at hSw
                    go_simp
                    try with_reducible rfl
                  try simp only [List.getElem_toArray, List.getElem_cons_zero, Act.put, List.setIfInBounds_toArray, List.set_cons_zero, List.set_cons_succ]
                  refine late.take (i := 1) [2, 3, 4, 5, 6, 7, 8, 9, 10, 11, 12, 13, 14, 15, 16, 17, 18] (v := ?_) rfl (by kernel_rfl) (by kernel_rfl) (by kernel_rfl) (by kernel_rfl) (fun _ _ _ h => h) (Or.inl ⟨by rfl, ?_⟩) (by assumption) ?_
                  rotate_left 1
                  · intro w' hSw
                    try dsimp only at hSw
                    go_simp
                    try with_reducible rfl
                  try simp only [List.getElem_toArray, List.getElem_cons_zero, List.getElem_cons_succ, Act.put, List.setIfInBounds_toArray, List.set_cons_zero, List.set_cons_succ]
                  refine late.take (i := 2) [3, 4, 5, 6, 7, 8, 9, 10, 11, 12, 13, 14, 15, 16, 17, 18] (v := ?_) rfl (by kernel_rfl) (by kernel_rfl) (by kernel_rfl) (by kernel_rfl) (fun _ _ _ h => h) (Or.inl ⟨by rfl, ?_⟩) (by assumption) ?_
                  rotate_left 1
                  · intro w' hSw
                    try dsimp only at hSw
                    go_simp
                    try with_reducible rfl
                  try simp only [List.getElem_toArray, List.getElem_cons_zero, List.getElem_cons_succ, Act.put, List.setIfInBounds_toArray, List.set_cons_zero, List.set_cons_succ]
                  refine late.take (i := 3) [4, 5, 6, 7, 8, 9, 10, 11, 12, 13, 14, 15, 16, 17, 18] (v := ?_) rfl (by kernel_rfl) (by kernel_rfl) (by kernel_rfl) (by kernel_rfl) (fun _ _ _ h => h) (Or.inl ⟨by rfl, ?_⟩) (by assumption) ?_
                  rotate_left 1
                  · intro w' hSw
                    try dsimp only at hSw
                    go_simp
                    try with_reducible rfl
                  try simp only [List.getElem_toArray, List.getElem_cons_zero, List.getElem_cons_succ, Act.put, List.setIfInBounds_toArray, List.set_cons_zero, List.set_cons_succ]
                  refine late.take (i := 4) [5, 6, 7, 8, 9, 10, 11, 12, 13, 14, 15, 16, 17, 18] (v := ?_) rfl (by kernel_rfl) (by kernel_rfl) (by kernel_rfl) (by kernel_rfl) (fun _ _ _ h => h) (Or.inl ⟨by rfl, ?_⟩) (by assumption) ?_
                  rotate_left 1
                  · intro w' hSw
                    try dsimp only at hSw
                    go_simp
                    try with_reducible rfl
                  try simp only [List.getElem_toArray, List.getElem_cons_zero, List.getElem_cons_succ, Act.put, List.setIfInBounds_toArray, List.set_cons_zero, List.set_cons_succ]
                  refine late.take (i := 5) [6, 7, 8, 9, 10, 11, 12, 13, 14, 15, 16, 17, 18] (v := ?_) rfl (by kernel_rfl) (by kernel_rfl) (by kernel_rfl) (by kernel_rfl) (fun _ _ _ h => h) (Or.inl ⟨by rfl, ?_⟩) (by assumption) ?_
                  rotate_left 1
                  · intro w' hSw
                    try dsimp only at hSw
                    go_simp
                    try with_reducible rfl
                  try simp only [List.getElem_toArray, List.getElem_cons_zero, List.getElem_cons_succ, Act.put, List.setIfInBounds_toArray, List.set_cons_zero, List.set_cons_succ]
                  refine late.take (i := 6) [7, 10, 12, 17, 18] (v := ?_) rfl (by kernel_rfl) (by kernel_rfl) (by kernel_rfl) (by kernel_rfl) (fun _ _ _ h => h) (Or.inl ⟨by rfl, ?_⟩) (by assumption) ?_
                  rotate_left 1
                  · intro w' hSw
                    try dsimp only at hSw
                    go_simp
                    try with_reducible rfl
                  try simp only [List.getElem_toArray, List.getElem_cons_zero, List.getElem_cons_succ, Act.put, List.setIfInBounds_toArray, List.set_cons_zero, List.set_cons_succ]
                  refine late.take (i := 7) [10, 12, 17, 18] (v := ?_) rfl (by kernel_rfl) (by kernel_rfl) (by kernel_rfl) (by kernel_rfl) (fun _ _ _ h => h) (Or.inl ⟨by rfl, ?_⟩) (by assumption) ?_
                  rotate_left 1
                  · intro w' hSw
                    try dsimp only at hSw
                    go_simp
                    try with_reducible rfl
                  try simp only [List.getElem_toArray, List.getElem_cons_zero, List.getElem_cons_succ, Act.put, List.setIfInBounds_toArray, List.set_cons_zero, List.set_cons_succ]
                  refine late.take (i := 8) [9, 10, 12, 17, 18] (v := ?_) rfl (by kernel_rfl) (by kernel_rfl) (by kernel_rfl) (by kernel_rfl) (fun _ _ _ h => h) (Or.inl ⟨by rfl, ?_⟩) (by assumption) ?_
                  rotate_left 1
                  · intro w' hSw
                    try dsimp only at hSw
                    go_simp
                    try with_reducible rfl
                  try simp only [List.getElem_toArray, List.getElem_cons_zero, List.getElem_cons_succ, Act.put, List.setIfInBounds_toArray, List.set_cons_zero, List.set_cons_succ]
                  refine late.take (i := 9) [10, 12, 17, 18] (v := ?_) rfl (by kernel_rfl) (by kernel_rfl) (by kernel_rfl) (by kernel_rfl) (fun _ _ _ h => h) (Or.inl ⟨by rfl, ?_⟩) (by assumption) ?_
                  rotate_left 1
                  · intro w' hSw
                    try dsimp only at hSw
                    go_simp
                    try with_reducible rfl
                  try simp only [List.getElem_toArray, List.getElem_cons_zero, List.getElem_cons_succ, Act.put, List.setIfInBounds_toArray, List.set_cons_zero, List.set_cons_succ]
                  refine late.take (i := 10) [12, 17, 18] (v := ?_) rfl (by kernel_rfl) (by kernel_rfl) (by kernel_rfl) (by kernel_rfl) (fun _ _ _ h => h) (Or.inl ⟨by rfl, ?_⟩) (by assumption) ?_
                  rotate_left 1
                  · intro w' hSw
                    try dsimp only at hSw
                    go_simp
                    try with_reducible rfl
                  try simp only [List.getElem_toArray, List.getElem_cons_zero, List.getElem_cons_succ, Act.put, List.setIfInBounds_toArray, List.set_cons_zero, List.set_cons_succ]
                  refine late.take (i := 11) [12, 17, 18] (v := ?_) rfl (by kernel_rfl) (by kernel_rfl) (by kernel_rfl) (by kernel_rfl) (fun _ _ _ h => h) (Or.inl ⟨by rfl, ?_⟩) (by assumption) ?_
                  rotate_left 1
                  · intro w' hSw
                    try dsimp only at hSw
                    go_simp
                    try with_reducible rfl
                  try simp only [List.getElem_toArray, List.getElem_cons_zero, List.getElem_cons_succ, Act.put, List.setIfInBounds_toArray, List.set_cons_zero, List.set_cons_succ]
                  refine late.take (i := 12) [17, 18] (v := ?_) rfl (by kernel_rfl) (by kernel_rfl) (by kernel_rfl) (by kernel_rfl) (fun _ _ _ h => h) (Or.inl ⟨by rfl, ?_⟩) (by assumption) ?_
                  rotate_left 1
                  · intro w' hSw
                    try dsimp only at hSw
                    go_simp
                    try with_reducible rfl
                  try simp only [List.getElem_toArray, List.getElem_cons_zero, List.getElem_cons_succ, Act.put, List.setIfInBounds_toArray, List.set_cons_zero, List.set_cons_succ]
                  refine late.take (i := 13) [15, 16, 17, 18] (v := ?_) rfl (by kernel_rfl) (by kernel_rfl) (by kernel_rfl) (by kernel_rfl) (fun _ _ _ h => h) (Or.inl ⟨by rfl, ?_⟩) (by assumption) ?_
                  rotate_left 1
                  · intro w' hSw
                    try dsimp only at hSw
                    go_simp
                    try with_reducible rfl
                  try simp only [List.getElem_toArray, List.getElem_cons_zero, List.getElem_cons_succ, Act.put, List.setIfInBounds_toArray, List.set_cons_zero, List.set_cons_succ]
                  refine late.take (i := 14) [15, 16, 17, 18] (v := ?_) rfl (by kernel_rfl) (by kernel_rfl) (by kernel_rfl) (by kernel_rfl) (fun _ _ _ h => h) (Or.inl ⟨by rfl, ?_⟩) (by assumption) ?_
                  rotate_left 1
                  · intro w' hSw
                    try dsimp only at hSw
                    go_simp
                    try with_reducible rfl
                  try simp only [List.getElem_toArray, List.getElem_cons_zero, List.getElem_cons_succ, Act.put, List.setIfInBounds_toArray, List.set_cons_zero, List.set_cons_succ]
                  refine late.take (i := 15) [16, 17, 18] (v := ?_) rfl (by kernel_rfl) (by kernel_rfl) (by kernel_rfl) (by kernel_rfl) (fun _ _ _ h => h) (Or.inl ⟨by rfl, ?_⟩) (by assumption) ?_
                  rotate_left 1
                  · intro w' hSw
                    try dsimp only at hSw
                    go_simp
                    try with_reducible rfl
                  try simp only [List.getElem_toArray, List.getElem_cons_zero, List.getElem_cons_succ, Act.put, List.setIfInBounds_toArray, List.set_cons_zero, List.set_cons_succ]
                  refine late.take (i := 16) [17, 18] (v := ?_) rfl (by kernel_rfl) (by kernel_rfl) (by kernel_rfl) (by kernel_rfl) (fun _ _ _ h => h) (Or.inl ⟨by rfl, ?_⟩) (by assumption) ?_
                  rotate_left 1
                  · intro w' hSw
                    try dsimp only at hSw
                    go_simp
                    try with_reducible rfl
                  try simp only [List.getElem_toArray, List.getElem_cons_zero, List.getElem_cons_succ, Act.put, List.setIfInBounds_toArray, List.set_cons_zero, List.set_cons_succ]
                  refine late.take (i := 17) [18] (v := ?_) rfl (by kernel_rfl) (by kernel_rfl) (by kernel_rfl) (by kernel_rfl) (fun _ _ _ h => h) (Or.inl ⟨by rfl, ?_⟩) (by assumption) ?_
                  rotate_left 1
                  · intro w' hSw
                    try dsimp only at hSw
                    go_simp
                    try with_reducible rfl
                  try simp only [List.getElem_toArray, List.getElem_cons_zero, List.getElem_cons_succ, Act.put, List.setIfInBounds_toArray, List.set_cons_zero, List.set_cons_succ]
                  refine late.take (i := 18) [] (v := ?_) rfl (by kernel_rfl) (by kernel_rfl) (by kernel_rfl) (by kernel_rfl) (fun _ _ _ h => h) (Or.inl ⟨by rfl, ?_⟩) (by assumption) ?_
                  rotate_left 1
                  · intro w' hSw
                    try dsimp only at hSw
                    go_simp
                    try with_reducible rfl
                  try simp only [List.getElem_toArray, List.getElem_cons_zero, List.getElem_cons_succ, Act.put, List.setIfInBounds_toArray, List.set_cons_zero, List.set_cons_succ]
                  refine late.done (by kernel_rfl) ?_ _
                  refine NoPanic.normal ?_
                  have HOD := Lib.hid HO9.out.drew
                  go_wp2_with fail
                  go_ret
                  exact ⟨by rw [HFA.out.1]; rfl, by rw [HFA.out.2]; exact HB1.out.only HOD.out (fun f => f), Only.p p (HO1.out.trans HOD.out)⟩
                · have HD2 : Hid (holdR A x l ls = holdR A x (l.drop (i + 1)) (ls.drop (i + 1))) := Lib.hid (by rw [HDD.out, if_neg (show ¬ lf < x from by have := HLT.out; omega), if_neg (fun q => hgt q.2)])
                  refine wp_region_noPanic ?_
                  refine late.region (fun w' => ∀ q, w'.cell? q = w9.cell? q) (fun j => [].contains j) (by kernel_rfl) (fun q => by simp) (fun hHeld => ?_)
                  refine late.take (i := 0) [2, 3, 4, 5, 6, 7, 8, 9, 10, 11, 12, 13, 14, 15, 16, 17, 18] (v := ?_) rfl (by kernel_rfl) (by kernel_rfl) (by kernel_rfl) (by kernel_rfl) (fun _ _ _ h => h) (Or.inl ⟨by rfl, ?_⟩) (by assumption) ?_
                  rotate_left 1
                  · intro w' hSw
                    try dsimp only at hSw
                    go_simp
                    try with_reducible rfl
                  try simp only [List.getElem_toArray, List.getElem_cons_zero, Act.put, List.setIfInBounds_toArray, List.set_cons_zero, List.set_cons_succ]
                  refine late.take (i := 1) [2, 3, 4, 5, 6, 7, 8, 9, 10, 11, 12, 13, 14, 15, 16, 17, 18] (v := ?_) rfl (by kernel_rfl) (by kernel_rfl) (by kernel_rfl) (by kernel_rfl) (fun _ _ _ h => h) (Or.inl ⟨by rfl, ?_⟩) (by assumption) ?_
                  rotate_left 1
                  · intro w' hSw
                    try dsimp only at hSw
                    go_simp
                    try with_reducible rfl
                  try simp only [List.getElem_toArray, List.getElem_cons_zero, List.getElem_cons_succ, Act.put, List.setIfInBounds_toArray, List.set_cons_zero, List.set_cons_succ]
                  refine late.take (i := 2) [3, 4, 5, 6, 7, 8, 9, 10, 11, 12, 13, 14, 15, 16, 17, 18] (v := ?_) rfl (by kernel_rfl) (by kernel_rfl) (by kernel_rfl) (by kernel_rfl) (fun _ _ _ h => h) (Or.inl ⟨by rfl, ?_⟩) (by assumption) ?_
                  rotate_left 1
                  · intro w' hSw
                    try dsimp only at hSw
                    go_simp
                    try with_reducible rfl
                  try simp only [List.getElem_toArray, List.getElem_cons_zero, List.getElem_cons_succ, Act.put, List.setIfInBounds_toArray, List.set_cons_zero, List.set_cons_succ]
                  refine late.take (i := 3) [4, 5, 6, 7, 8, 9, 10, 11, 12, 13, 14, 15, 16, 17, 18] (v := ?_) rfl (by kernel_rfl) (by kernel_rfl) (by kernel_rfl) (by kernel_rfl) (fun _ _ _ h => h) (Or.inl ⟨by rfl, ?_⟩) (by assumption) ?_
                  rotate_left 1
                  · intro w' hSw
                    try dsimp only at hSw
                    go_simp
                    try with_reducible rfl
                  try simp only [List.getElem_toArray, List.getElem_cons_zero, List.getElem_cons_succ, Act.put, List.setIfInBounds_toArray, List.set_cons_zero, List.set_cons_succ]
                  refine late.take (i := 4) [5, 6, 7, 8, 9, 10, 11, 12, 13, 14, 15, 16, 17, 18] (v := ?_) rfl (by kernel_rfl) (by kernel_rfl) (by kernel_rfl) (by kernel_rfl) (fun _ _ _ h => h) (Or.inl ⟨by rfl, ?_⟩) (by assumption) ?_
                  rotate_left 1
                  · intro w' hSw
                    try dsimp only at hSw
                    go_simp
                    try with_reducible rfl
                  try simp only [List.getElem_toArray, List.getElem_cons_zero, List.getElem_cons_succ, Act.put, List.setIfInBounds_toArray, List.set_cons_zero, List.set_cons_succ]
                  refine late.take (i := 5) [6, 7, 8, 9, 10, 11, 12, 13, 14, 15, 16, 17, 18] (v := ?_) rfl (by kernel_rfl) (by kernel_rfl) (by kernel_rfl) (by kernel_rfl) (fun _ _ _ h => h) (Or.inl ⟨by rfl, ?_⟩) (by assumption) ?_
                  rotate_left 1
                  · intro w' hSw
                    try dsimp only at hSw
                    go_simp
                    try with_reducible rfl
                  try simp only [List.getElem_toArray, List.getElem_cons_zero, List.getElem_cons_succ, Act.put, List.setIfInBounds_toArray, List.set_cons_zero, List.set_cons_succ]
                  refine late.take (i := 6) [7, 10, 12, 17, 18] (v := ?_) rfl (by kernel_rfl) (by kernel_rfl) (by kernel_rfl) (by kernel_rfl) (fun _ _ _ h => h) (Or.inl ⟨by rfl, ?_⟩) (by assumption) ?_
                  rotate_left 1
                  · intro w' hSw
                    try dsimp only at hSw
                    go_simp
                    try with_reducible rfl
                  try simp only [List.getElem_toArray, List.getElem_cons_zero, List.getElem_cons_succ, Act.put, List.setIfInBounds_toArray, List.set_cons_zero, List.set_cons_succ]
                  refine late.take (i := 7) [10, 12, 17, 18] (v := ?_) rfl (by kernel_rfl) (by kernel_rfl) (by kernel_rfl) (by kernel_rfl) (fun _ _ _ h => h) (Or.inl ⟨by rfl, ?_⟩) (by assumption) ?_
                  rotate_left 1
                  · intro w' hSw
                    try dsimp only at hSw
                    go_simp
                    try with_reducible rfl
                  try simp only [List.getElem_toArray, List.getElem_cons_zero, List.getElem_cons_succ, Act.put, List.setIfInBounds_toArray, List.set_cons_zero, List.set_cons_succ]
                  refine late.take (i := 8) [9, 10, 12, 17, 18] (v := ?_) rfl (by kernel_rfl) (by kernel_rfl) (by kernel_rfl) (by kernel_rfl) (fun _ _ _ h => h) (Or.inl ⟨by rfl, ?_⟩) (by assumption) ?_
                  rotate_left 1
                  · intro w' hSw
                    try dsimp only at hSw
                    go_simp
                    try with_reducible rfl
                  try simp only [List.getElem_toArray, List.getElem_cons_zero, List.getElem_cons_succ, Act.put, List.setIfInBounds_toArray, List.set_cons_zero, List.set_cons_succ]
                  refine late.take (i := 9) [10, 12, 17, 18] (v := ?_) rfl (by kernel_rfl) (by kernel_rfl) (by kernel_rfl) (by kernel_rfl) (fun _ _ _ h => h) (Or.inl ⟨by rfl, ?_⟩) (by assumption) ?_
                  rotate_left 1
                  · intro w' hSw
                    try dsimp only at hSw
                    go_simp
                    try with_reducible rfl
                  try simp only [List.getElem_toArray, List.getElem_cons_zero, List.getElem_cons_succ, Act.put, List.setIfInBounds_toArray, List.set_cons_zero, List.set_cons_succ]
                  refine late.take (i := 10) [12, 17, 18] (v := ?_) rfl (by kernel_rfl) (by kernel_rfl) (by kernel_rfl) (by kernel_rfl) (fun _ _ _ h => h) (Or.inl ⟨by rfl, ?_⟩) (by assumption) ?_
                  rotate_left 1
                  · intro w' hSw
                    try dsimp only at hSw
                    go_simp
                    try with_reducible rfl
                  try simp only [List.getElem_toArray, List.getElem_cons_zero, List.getElem_cons_succ, Act.put, List.setIfInBounds_toArray, List.set_cons_zero, List.set_cons_succ]
                  refine late.take (i := 11) [12, 17, 18] (v := ?_) rfl (by kernel_rfl) (by kernel_rfl) (by kernel_rfl) (by kernel_rfl) (fun _ _ _ h => h) (Or.inl ⟨by rfl, ?_⟩) (by assumption) ?_
                  rotate_left 1
                  · intro w' hSw
                    try dsimp only at hSw
                    go_simp
                    try with_reducible rfl
                  try simp only [List.getElem_toArray, List.getElem_cons_zero, List.getElem_cons_succ, Act.put, List.setIfInBounds_toArray, List.set_cons_zero, List.set_cons_succ]
                  refine late.take (i := 12) [17, 18] (v := ?_) rfl (by kernel_rfl) (by kernel_rfl) (by kernel_rfl) (by kernel_rfl) (fun _ _ _ h => h) (Or.inl ⟨by rfl, ?_⟩) (by assumption) ?_
                  rotate_left 1
                  · intro w' hSw
                    try dsimp only at hSw
                    go_simp
                    try with_reducible rfl
                  try simp only [List.getElem_toArray, List.getElem_cons_zero, List.getElem_cons_succ, Act.put, List.setIfInBounds_toArray, List.set_cons_zero, List.set_cons_succ]
                  refine late.take (i := 13) [15, 16, 17, 18] (v := ?_) rfl (by kernel_rfl) (by kernel_rfl) (by kernel_rfl) (by kernel_rfl) (fun _ _ _ h => h) (Or.inl ⟨by rfl, ?_⟩) (by assumption) ?_
                  rotate_left 1
                  · intro w' hSw
                    try dsimp only at hSw
                    go_simp
                    try with_reducible rfl
                  try simp only [List.getElem_toArray, List.getElem_cons_zero, List.getElem_cons_succ, Act.put, List.setIfInBounds_toArray, List.set_cons_zero, List.set_cons_succ]
                  refine late.take (i := 14) [15, 16, 17, 18] (v := ?_) rfl (by kernel_rfl) (by kernel_rfl) (by kernel_rfl) (by kernel_rfl) (fun _ _ _ h => h) (Or.inl ⟨by rfl, ?_⟩) (by assumption) ?_
                  rotate_left 1
                  · intro w' hSw
                    try dsimp only at hSw
                    go_simp
                    try with_reducible rfl
                  try simp only [List.getElem_toArray, List.getElem_cons_zero, List.getElem_cons_succ, Act.put, List.setIfInBounds_toArray, List.set_cons_zero, List.set_cons_succ]
                  refine late.take (i := 15) [16, 17, 18] (v := ?_) rfl (by kernel_rfl) (by kernel_rfl) (by kernel_rfl) (by kernel_rfl) (fun _ _ _ h => h) (Or.inl ⟨by rfl, ?_⟩) (by assumption) ?_
                  rotate_left 1
                  · intro w' hSw
                    try dsimp only at hSw
                    go_simp
                    try with_reducible rfl
                  try simp only [List.getElem_toArray, List.getElem_cons_zero, List.getElem_cons_succ, Act.put, List.setIfInBounds_toArray, List.set_cons_zero, List.set_cons_succ]
                  refine late.take (i := 16) [17, 18] (v := ?_) rfl (by kernel_rfl) (by kernel_rfl) (by kernel_rfl) (by kernel_rfl) (fun _ _ _ h => h) (Or.inl ⟨by rfl, ?_⟩) (by assumption) ?_
                  rotate_left 1
                  · intro w' hSw
                    try dsimp only at hSw
                    go_simp
                    try with_reducible rfl
                  try simp only [List.getElem_toArray, List.getElem_cons_zero, List.getElem_cons_succ, Act.put, List.setIfInBounds_toArray, List.set_cons_zero, List.set_cons_succ]
                  refine late.take (i := 17) [18] (v := ?_) rfl (by kernel_rfl) (by kernel_rfl) (by kernel_rfl) (by kernel_rfl) (fun _ _ _ h => h) (Or.inl ⟨by rfl, ?_⟩) (by assumption) ?_
                  rotate_left 1
                  · intro w' hSw
                    try dsimp only at hSw
                    go_simp
                    try with_reducible rfl
                  try simp only [List.getElem_toArray, List.getElem_cons_zero, List.getElem_cons_succ, Act.put, List.setIfInBounds_toArray, List.set_cons_zero, List.set_cons_succ]
                  refine late.take (i := 18) [] (v := ?_) rfl (by kernel_rfl) (by kernel_rfl) (by kernel_rfl) (by kernel_rfl) (fun _ _ _ h => h) (Or.inl ⟨by rfl, ?_⟩) (by assumption) ?_
                  rotate_left 1
                  · intro w' hSw
                    try dsimp only at hSw
                    go_simp
                    try with_reducible rfl
                  try simp only [List.getElem_toArray, List.getElem_cons_zero, List.getElem_cons_succ, Act.put, List.setIfInBounds_toArray, List.set_cons_zero, List.set_cons_succ]
                  refine late.done (by kernel_rfl) ?_ _
                  refine NoPanic.normal ?_
                  have HOD := Lib.hid HO9.out.drew
                  go_wp2_with fail
                  go_roundw
                  case rel => exact ⟨i + 1, by omega, by go_num, HD2, HOD⟩
                  case measure => simp [intOf]; omega
              · have HD2 : Hid (holdR A x l ls = holdR A x (l.drop (i + 1)) (ls.drop (i + 1))) := Lib.hid (by rw [HDD.out, if_neg (show ¬ lf < x from by have := HLT.out; omega), if_neg (fun q => hm0 q.1)])
                obtain rfl : lim = -1 := by omega
                refine wp_region_noPanic ?_
                refine late.region (fun w' => ∀ q, w'.cell? q = w9.cell? q) (fun j => [].contains j) (by kernel_rfl) (fun q => by simp) (fun hHeld => ?_)
                refine late.take (i := 0) [2, 3, 4, 5, 6, 7, 8, 9, 10, 11, 12, 13, 14, 15, 16, 17, 18] (v := ?_) rfl (by kernel_rfl) (by kernel_rfl) (by kernel_rfl) (by kernel_rfl) (fun _ _ _ h => h) (Or.inl ⟨by rfl, ?_⟩) (by assumption) ?_
                rotate_left 1
                · intro w' hSw
                  try dsimp only at hSw
                  go_simp
                  try with_reducible rfl
                try simp only [List.getElem_toArray, List.getElem_cons_zero, Act.put, List.setIfInBounds_toArray, List.set_cons_zero, List.set_cons_succ]
                refine late.take (i := 1) [2, 3, 4, 5, 6, 7, 8, 9, 10, 11, 12, 13, 14, 15, 16, 17, 18] (v := ?_) rfl (by kernel_rfl) (by kernel_rfl) (by kernel_rfl) (by kernel_rfl) (fun _ _ _ h => h) (Or.inl ⟨by rfl, ?_⟩) (by assumption) ?_
                rotate_left 1
                · intro w' hSw
                  try dsimp only at hSw
                  go_simp
                  try with_reducible rfl
                try simp only [List.getElem_toArray, List.getElem_cons_zero, List.getElem_cons_succ, Act.put, List.setIfInBounds_toArray, List.set_cons_zero, List.set_cons_succ]
                refine late.take (i := 2) [3, 4, 5, 6, 7, 8, 9, 10, 11, 12, 13, 14, 15, 16, 17, 18] (v := ?_) rfl (by kernel_rfl) (by kernel_rfl) (by kernel_rfl) (by kernel_rfl) (fun _ _ _ h => h) (Or.inl ⟨by rfl, ?_⟩) (by assumption) ?_
                rotate_left 1
                · intro w' hSw
                  try dsimp only at hSw
                  go_simp
                  try with_reducible rfl
                try simp only [List.getElem_toArray, List.getElem_cons_zero, List.getElem_cons_succ, Act.put, List.setIfInBounds_toArray, List.set_cons_zero, List.set_cons_succ]
                refine late.take (i := 3) [4, 5, 6, 7, 8, 9, 10, 11, 12, 13, 14, 15, 16, 17, 18] (v := ?_) rfl (by kernel_rfl) (by kernel_rfl) (by kernel_rfl) (by kernel_rfl) (fun _ _ _ h => h) (Or.inl ⟨by rfl, ?_⟩) (by assumption) ?_
                rotate_left 1
                · intro w' hSw
                  try dsimp only at hSw
                  go_simp
                  try with_reducible rfl
                try simp only [List.getElem_toArray, List.getElem_cons_zero, List.getElem_cons_succ, Act.put, List.setIfInBounds_toArray, List.set_cons_zero, List.set_cons_succ]
                refine late.take (i := 4) [5, 6, 7, 8, 9, 10, 11, 12, 13, 14, 15, 16, 17, 18] (v := ?_) rfl (by kernel_rfl) (by kernel_rfl) (by kernel_rfl) (by kernel_rfl) (fun _ _ _ h => h) (Or.inl ⟨by rfl, ?_⟩) (by assumption) ?_
                rotate_left 1
                · intro w' hSw
                  try dsimp only at hSw
                  go_simp
                  try with_reducible rfl
                try simp only [List.getElem_toArray, List.getElem_cons_zero, List.getElem_cons_succ, Act.put, List.setIfInBounds_toArray, List.set_cons_zero, List.set_cons_succ]
                refine late.take (i := 5) [6, 7, 8, 9, 10, 11, 12, 13, 14, 15, 16, 17, 18] (v := ?_) rfl (by kernel_rfl) (by kernel_rfl) (by kernel_rfl) (by kernel_rfl) (fun _ _ _ h => h) (Or.inl ⟨by rfl, ?_⟩) (by assumption) ?_
                rotate_left 1
                · intro w' hSw
                  try dsimp only at hSw
                  go_simp
                  try with_reducible rfl
                try simp only [List.getElem_toArray, List.getElem_cons_zero, List.getElem_cons_succ, Act.put, List.setIfInBounds_toArray, List.set_cons_zero, List.set_cons_succ]
                refine late.take (i := 6) [7, 10, 12, 17, 18] (v := undef) rfl (by kernel_rfl) (by kernel_rfl) (by kernel_rfl) (by kernel_rfl) (fun _ _ _ h => h) (Or.inr ⟨rfl, rfl⟩) (by assumption) ?_
                try simp only [List.getElem_toArray, List.getElem_cons_zero, List.getElem_cons_succ, Act.put, List.setIfInBounds_toArray, List.set_cons_zero, List.set_cons_succ]
                refine late.take (i := 7) [10, 12, 17, 18] (v := undef) rfl (by kernel_rfl) (by kernel_rfl) (by kernel_rfl) (by kernel_rfl) (fun _ _ _ h => h) (Or.inr ⟨rfl, rfl⟩) (by assumption) ?_
                try simp only [List.getElem_toArray, List.getElem_cons_zero, List.getElem_cons_succ, Act.put, List.setIfInBounds_toArray, List.set_cons_zero, List.set_cons_succ]
                refine late.take (i := 8) [9, 10, 12, 17, 18] (v := undef) rfl (by kernel_rfl) (by kernel_rfl) (by kernel_rfl) (by kernel_rfl) (fun _ _ _ h => h) (Or.inr ⟨rfl, rfl⟩) (by assumption) ?_
                try simp only [List.getElem_toArray, List.getElem_cons_zero, List.getElem_cons_succ, Act.put, List.setIfInBounds_toArray, List.set_cons_zero, List.set_cons_succ]
                refine late.take (i := 9) [10, 12, 17, 18] (v := undef) rfl (by kernel_rfl) (by kernel_rfl) (by kernel_rfl) (by kernel_rfl) (fun _ _ _ h => h) (Or.inr ⟨rfl, rfl⟩) (by assumption) ?_
                try simp only [List.getElem_toArray, List.getElem_cons_zero, List.getElem_cons_succ, Act.put, List.setIfInBounds_toArray, List.set_cons_zero, List.set_cons_succ]
                refine late.take (i := 10) [12, 17, 18] (v := undef) rfl (by kernel_rfl) (by kernel_rfl) (by kernel_rfl) (by kernel_rfl) (fun _ _ _ h => h) (Or.inr ⟨rfl, rfl⟩) (by assumption) ?_
                try simp only [List.getElem_toArray, List.getElem_cons_zero, List.getElem_cons_succ, Act.put, List.setIfInBounds_toArray, List.set_cons_zero, List.set_cons_succ]
                refine late.take (i := 11) [12, 17, 18] (v := undef) rfl (by kernel_rfl) (by kernel_rfl) (by kernel_rfl) (by kernel_rfl) (fun _ _ _ h => h) (Or.inr ⟨rfl, rfl⟩) (by assumption) ?_
                try simp only [List.getElem_toArray, List.getElem_cons_zero, List.getElem_cons_succ, Act.put, List.setIfInBounds_toArray, List.set_cons_zero, List.set_cons_succ]
                refine late.take (i := 12) [17, 18] (v := undef) rfl (by kernel_rfl) (by kernel_rfl) (by kernel_rfl) (by kernel_rfl) (fun _ _ _ h => h) (Or.inr ⟨rfl, rfl⟩) (by assumption) ?_
                try simp only [List.getElem_toArray, List.getElem_cons_zero, List.getElem_cons_succ, Act.put, List.setIfInBounds_toArray, List.set_cons_zero, List.set_cons_succ]
                refine late.take (i := 13) [15, 16, 17, 18] (v := undef) rfl (by kernel_rfl) (by kernel_rfl) (by kernel_rfl) (by kernel_rfl) (fun _ _ _ h => h) (Or.inr ⟨rfl, rfl⟩) (by assumption) ?_
                try simp only [List.getElem_toArray, List.getElem_cons_zero, List.getElem_cons_succ, Act.put, List.setIfInBounds_toArray, List.set_cons_zero, List.set_cons_succ]
                refine late.take (i := 14) [15, 16, 17, 18] (v := undef) rfl (by kernel_rfl) (by kernel_rfl) (by kernel_rfl) (by kernel_rfl) (fun _ _ _ h => h) (Or.inr ⟨rfl, rfl⟩) (by assumption) ?_
                try simp only [List.getElem_toArray, List.getElem_cons_zero, List.getElem_cons_succ, Act.put, List.setIfInBounds_toArray, List.set_cons_zero, List.set_cons_succ]
                refine late.take (i := 15) [16, 17, 18] (v := undef) rfl (by kernel_rfl) (by kernel_rfl) (by kernel_rfl) (by kernel_rfl) (fun _ _ _ h => h) (Or.inr ⟨rfl, rfl⟩) (by assumption) ?_
                try simp only [List.getElem_toArray, List.getElem_cons_zero, List.getElem_cons_succ, Act.put, List.setIfInBounds_toArray, List.set_cons_zero, List.set_cons_succ]
                refine late.take (i := 16) [17, 18] (v := undef) rfl (by kernel_rfl) (by kernel_rfl) (by kernel_rfl) (by kernel_rfl) (fun _ _ _ h => h) (Or.inr ⟨rfl, rfl⟩) (by assumption) ?_
                try simp only [List.getElem_toArray, List.getElem_cons_zero, List.getElem_cons_succ, Act.put, List.setIfInBounds_toArray, List.set_cons_zero, List.set_cons_succ]
                refine late.take (i := 17) [18] (v := undef) rfl (by kernel_rfl) (by kernel_rfl) (by kernel_rfl) (by kernel_rfl) (fun _ _ _ h => h) (Or.inr ⟨rfl, rfl⟩) (by assumption) ?_
                try simp only [List.getElem_toArray, List.getElem_cons_zero, List.getElem_cons_succ, Act.put, List.setIfInBounds_toArray, List.set_cons_zero, List.set_cons_succ]
                refine late.take (i := 18) [] (v := ?_) rfl (by kernel_rfl) (by kernel_rfl) (by kernel_rfl) (by kernel_rfl) (fun _ _ _ h => h) (Or.inl ⟨by rfl, ?_⟩) (by assumption) ?_
                rotate_left 1
                · intro w' hSw
                  try dsimp only at hSw
                  go_simp
                  try with_reducible rfl
                try simp only [List.getElem_toArray, List.getElem_cons_zero, List.getElem_cons_succ, Act.put, List.setIfInBounds_toArray, List.set_cons_zero, List.set_cons_succ]
                refine late.done (by kernel_rfl) ?_ _
                refine NoPanic.normal ?_
                have HOD := Lib.hid HO9.out.drew
                go_wp2_with fail
                go_roundw
                case rel => exact ⟨i + 1, by omega, by go_num, HD2, HOD⟩
                case measure => simp [intOf]; omega
          · obtain rfl : i = m := by omega
            have HFA : Hid (E = 0 ∧ A' = shT A l x 0) := Lib.hid (by
              have e : E = 0 := by rw [HE0.out, HD.out, HBN.out]
              exact ⟨e, by rw [HT0.out, if_pos e]⟩)
            have hs := shift_any p A a i c l x x 0 wr (HB1.out.only HO.out (fun f => f)) HA.out (HR1.out.only HO.out (fun _ _ f => f)) hc HPA.out (fun _ => by omega) (fun _ => by omega)
            rw [HSH.out.1, HSH.out.2] at hs
            have HS := Lib.hid hs
            clear hs
            go_wp2_with fail
            refine HS.out.mono ?_
            rintro _ w7 ⟨rfl, hb, ho⟩
            have HE9 : Hid (BkAt w7 p A' ∧ Only (fun q => q = p) w w7) := Lib.hid ⟨by rw [HFA.out.2]; exact hb, (Only.p p (HO1.out.trans HO.out)).trans ho⟩
            clear hb ho
            go_wp2_with fail
            go_ret
            exact ⟨by rw [HFA.out.1]; rfl, HE9.out⟩
      · rw [HDP.out] at HIS
        rw [HDL.out] at HLI0
        have hE : holdE A l ls x = 1 := by unfold holdE; rw [if_neg (fun q => hx q.2)]
        have hT : holdA A l ls x = A := by unfold holdA; rw [hE]; rfl
        rw [hE, hT]
        clear hE hT
        have hx' : ¬ (1 ≤ x ∧ x ≤ 9007199254740992) := hx
        clear hx hp HDP HDL hlo
        go_enter Try.func38, Try.ntmps38
        go_wp2_with fail
        refine (HIS.out).mono ?_
        rintro _ w1 ⟨rfl, ho⟩
        have HO := Lib.hid ho
        clear ho
        go_wp2_with fail
        refine (HLI0.out _ HO.out).mono ?_
        rintro _ w2 ⟨rfl, ho⟩
        replace HO := Lib.hid (HO.out.trans ho)
        clear ho HLI0
        go_wp2_with fail
        refine (isAmt_no _ _ hx').mono ?_
        rintro _ _ ⟨rfl, rfl⟩
        go_wp2_with fail
        go_ret
        exact ⟨rfl, HB.out.only HO.out (fun f => f), Only.p p HO.out⟩
    · have HDL : Hid (decide (m = n ∧ LOk ls m) = false) := Lib.hid (decide_eq_false hlm)
      rw [HDP.out] at HIS
      rw [HDL.out] at HLI0
      have hE : holdE A l ls x = 1 := by unfold holdE; rw [if_neg (fun q => hlm ⟨by rw [HLN.out, HLN2.out] at q; exact q.1.2.1, by rw [HLN2.out] at q; exact q.1.2.2⟩)]
      have hT : holdA A l ls x = A := by unfold holdA; rw [hE]; rfl
      rw [hE, hT]
      clear hE hT
      clear hp HDP HDL hlm
      go_enter Try.func38, Try.ntmps38
      go_wp2_with fail
      refine (HIS.out).mono ?_
      rintro _ w1 ⟨rfl, ho⟩
      have HO := Lib.hid ho
      clear ho
      go_wp2_with fail
      refine (HLI0.out _ HO.out).mono ?_
      rintro _ w2 ⟨rfl, ho⟩
      replace HO := Lib.hid (HO.out.trans ho)
      clear ho HLI0
      go_wp2_with fail
      go_ret
      exact ⟨rfl, HB.out.only HO.out (fun f => f), Only.p p HO.out⟩
  · have HDP : Hid (decide (PathOk l) = false) := Lib.hid (decide_eq_false hp)
    rw [HDP.out] at HIS
    have hE : holdE A l ls x = 1 := by unfold holdE; rw [if_neg (fun q => hp q.1.1)]
    have hT : holdA A l ls x = A := by unfold holdA; rw [hE]; rfl
    rw [hE, hT]
    clear hE hT
    clear hp HDP HLI0
    go_enter Try.func38, Try.ntmps38
    go_wp2_with fail
    refine (HIS.out).mono ?_
    rintro _ w1 ⟨rfl, ho⟩
    have HO := Lib.hid ho
    clear ho
    go_wp2_with fail
    go_ret
    exact ⟨rfl, HB.out.only HO.out (fun f => f), Only.p p HO.out⟩
end Go.Proofs.Ytkbaafgaaiekpaa.fnd
