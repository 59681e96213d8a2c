/- Books: Hold. -/
import Derived.Test.YtfpeimihlihphaaFuG
namespace Go.Proofs.Ytfpeimihlihphaa.fnd
open Go.RowKit mem tre
set_option linter.unusedVariables false

def holdR (A : List Ac) (x : Int) : List Int → List Int → Int
  | n :: l, m :: ls => if left (nd A n) < x then 9 else if 0 ≤ m ∧ m < (nd A n).u + (nd A n).h + x then 18 else holdR A x l ls
  | _, _ => 0
def holdE (A : List Ac) (l ls : List Int) (x : Int) : Int := if (PathOk l ∧ ls.length = l.length ∧ LOk ls ls.length) ∧ AmtOk x then holdR A x l ls else 1
def holdA (A : List Ac) (l ls : List Int) (x : Int) : List Ac := if holdE A l ls x = 0 then shT A l x 0 else A
theorem hold_bad {A : List Ac} (h : Bok A) {x : Int} (hx : AmtOk x) (l : List Int) : badB A x 0 l = false := by
  unfold badB
  rw [List.any_eq_false]
  intro n _
  have hp := (h.ok n.toNat).1
  have h1 : 0 ≤ (nd A n).h := hp.2.2.2.2.1
  have h2 : 0 ≤ (nd A n).u := hp.2.2.2.1.1
  obtain ⟨x1, _⟩ := hx
  simp only [Bool.or_eq_true, decide_eq_true_iff, not_or]
  omega
theorem hold_sh {A : List Ac} (h : Bok A) {l : List Int} {x : Int} (hp : PathOk l) (hx : AmtOk x) : shE A l x x 0 = 0 ∧ shA A l x x 0 = shT A l x 0 := by
  have e : shE A l x x 0 = 0 := by unfold shE; rw [if_pos ⟨hp, hx⟩, hold_bad h hx]; rfl
  exact ⟨e, by unfold shA; rw [if_pos e]⟩
set_option maxRecDepth 100000 in
set_option maxHeartbeats 4000000 in
theorem hold_any (p : Nat) (A : List Ac) (a : Option Addr) (n c : Nat) (l : List Int) (a2 : Option Addr) (m c2 : Nat) (ls : List Int) (x : Int) (w : World) (h : BkAt w p A) (hA : Bok A) (hr : ReadsI w a n l) (hc : n ≤ c) (hr2 : ReadsI w a2 m ls) (hpa : ∀ y, a = some y → y.block ≠ p) : Calls Try.prog 37 #[.pointer (some ⟨p, 0, none⟩), .slice a n c, .slice a2 m c2, .int .i64 x] w (FDid p (holdA A l ls x) (holdE A l ls x) w) := by
  have HB := Lib.hid h
  have HA := Lib.hid hA
  have HR := Lib.hid hr
  have HR2 := Lib.hid hr2
  have HPA := Lib.hid hpa
  have hm := hr.2.1
  have hm2 := hr2.2.1
  unfold maxLen at hm hm2
  have HLN := Lib.hid hr.1
  have HLN2 := Lib.hid hr2.1
  have HIS := Lib.hid (ispath_any a n c l w hr hc)
  have HLI0 : Hid (∀ wy, Only (fun _ => False) w wy → _) := Lib.hid (fun wy ho => arelim_any a2 m c2 ls a n c wy (hr2.only ho (fun _ _ f => f)) hr.2.1)
  clear h hA hr hr2 hpa
  by_cases hp : PathOk l
  · have HDP : Hid (decide (PathOk l) = true) := Lib.hid (decide_eq_true hp)
    by_cases hlm : m = n ∧ LOk ls m
    · have HDL : Hid (decide (m = n ∧ LOk ls m) = true) := Lib.hid (decide_eq_true hlm)
      obtain ⟨rfl, hlo⟩ := hlm
      by_cases hx : AmtOk x
      · have HE0 : Hid (holdE A l ls x = holdR A x l ls) := Lib.hid (by unfold holdE; rw [if_pos ⟨⟨hp, by rw [HLN.out, HLN2.out], by rw [HLN2.out]; exact hlo⟩, hx⟩])
        have HT0 : Hid (holdA A l ls x = if holdE A l ls x = 0 then shT A l x 0 else A) := Lib.hid rfl
        have HPK : Hid (∀ i, i < m → ∃ k : Nat, l.getD i 0 = k ∧ 1 ≤ k ∧ k < 33) := Lib.hid (fun i hi => by obtain ⟨k, q1, q2, q3, _⟩ := path_toNat hp i (by rw [HLN.out]; exact hi); exact ⟨k, q1, q2, q3⟩)
        have HDR : Hid (∀ i, i < m → holdR A x (l.drop i) (ls.drop i) = if left (nd A (l.getD i 0)) < x then 9 else if 0 ≤ ls.getD i 0 ∧ ls.getD i 0 < (nd A (l.getD i 0)).u + (nd A (l.getD i 0)).h + x then 18 else holdR A x (l.drop (i + 1)) (ls.drop (i + 1))) := Lib.hid (fun i hi => by rw [drop_at l i (by rw [HLN.out]; exact hi), drop_at ls i (by rw [HLN2.out]; exact hi)]; rfl)
        have HND : Hid (∀ i, Parts (nd A i)) := Lib.hid (fun i => (HA.out.ok _).1)
        have HBN : Hid (holdR A x (l.drop m) (ls.drop m) = 0) := Lib.hid (by rw [List.drop_eq_nil_of_le (by rw [HLN.out]; exact Nat.le_refl _)]; rfl)
        have HLI : Hid (∀ i, i < m → LimIn (ls.getD i 0)) := Lib.hid hlo
        have HSH := Lib.hid (hold_sh HA.out hp hx)
        obtain ⟨x1, x2⟩ := hx
        rw [HDP.out] at HIS
        rw [HDL.out] at HLI0
        clear hp HDP HDL hlo
        generalize holdE A l ls x = E at *
        generalize holdA A l ls x = A' at *
        go_enter Try.func37, Try.ntmps37
        go_wp2_with fail
        refine (HIS.out).mono ?_
        rintro _ w1 ⟨rfl, ho⟩
        have HO := Lib.hid ho
        clear ho
        go_wp2_with fail
        refine (HLI0.out _ HO.out).mono ?_
        rintro _ w2 ⟨rfl, ho⟩
        replace HO := Lib.hid (HO.out.trans ho)
        clear ho HLI0
        go_wp2_with fail
        refine (isAmt_yes _ _ x1 x2).mono ?_
        rintro _ _ ⟨rfl, rfl⟩
        have HO1 := Lib.hid HO.out
        have HR1 := Lib.hid (HR.out.only HO.out (fun _ _ f => f))
        have HR21 := Lib.hid (HR2.out.only HO.out (fun _ _ f => f))
        have HB1 := Lib.hid (HB.out.only HO.out (fun f => f))
        clear HO HR HR2 HB
        rename World => w1
        go_wp2_with fail
        go_loopw [32] (fun iv wr => ∃ i : Nat, i ≤ m ∧ iv = .int .i64 (i : Int) ∧ Hid (holdR A x l ls = holdR A x (l.drop i) (ls.drop i)) ∧ Hid (Only (fun _ => False) w1 wr)) (fun iv _ => m - (intOf iv).toNat)
        case atStart => exact ⟨0, by omega, rfl, Lib.hid rfl, Lib.hid (Only.refl _ _)⟩
        case round =>
          obtain ⟨i, hi, rfl, HD, HO⟩ := hrel
          rename World => wr
          by_cases h8 : i < m
          · obtain ⟨b, off, rfl, hcell⟩ := HR1.out.2.2.2.resolve_left (by omega)
            obtain ⟨b2, off2, rfl, hcell2⟩ := HR21.out.2.2.2.resolve_left (by omega)
            have cx := HO.out.cell' (hcell i h8) (fun f => f)
            have cm := HO.out.cell' (hcell2 i h8) (fun f => f)
            have hi0 : (0 : Int) ≤ i := by omega
            have hi1 : (i : Int) < m := by omega
            obtain ⟨k, hk, k1, k2⟩ := HPK.out i h8
            have hdd := HDR.out i h8
            have hpt := HND.out (l.getD i 0)
            obtain ⟨l1, l2⟩ := HLI.out i h8
            rw [hk, nd_nat] at hdd hpt
            rw [hk] at cx
            have hk2 : (k : Int) < 33 := by omega
            have hk0 : (0 : Int) ≤ k := by omega
            obtain ⟨c0, c1, c2, c3, c4⟩ := (HB1.out.only HO.out (fun f => f)).1 k k2
            have HAV : Hid (∀ w1, _) := Lib.hid (fun w1 => avail_any (A.getD k zA) w1 hpt)
            generalize A.getD k zA = ac at *
            obtain ⟨at_, ac, ae, au, ah⟩ := ac
            unfold aggA at HAV
            dsimp only at c0 c1 c2 c3 c4 hdd HAV
            obtain ⟨-, -, -, ⟨u1, u2⟩, ⟨g1, g2⟩⟩ := hpt
            dsimp only at u1 u2 g1 g2
            have q1 : IntKind.i64.wrap (au + ah) = au + ah := w64 _ (by omega) (by omega)
            have q2 : IntKind.i64.wrap (au + ah + x) = au + ah + x := w64 _ (by omega) (by omega)
            generalize ls.getD i 0 = lim at *
            generalize left ⟨at_, ac, ae, au, ah⟩ = lf at *
            have HDD := Lib.hid (HD.out.trans hdd)
            clear hcell hcell2 hdd hk u1 u2 g1 g2
            obtain ⟨e0, e1, e2, e3, e4, ho9⟩ := node_box 63 (.int .i64 at_) (.int .i64 ac) (.int .i64 ae) (.int .i64 au) (.int .i64 ah) (Only.refl (fun _ => False) wr)
            obtain ⟨w8, hw8⟩ : ∃ zz, zz = wr.alloc (.cells #[.int .i64 at_, .int .i64 ac, .int .i64 ae, .int .i64 au, .int .i64 ah] 63) := ⟨_, rfl⟩
            obtain ⟨g, hg⟩ : ∃ zz, zz = wr.heap.size := ⟨_, rfl⟩
            simp only [← hw8, ← hg] at e0 e1 e2 e3 e4 ho9
            go_upto_region 7 with fail
            simp only [← hw8, ← hg]
            clear hw8 hg
            go_wp2_with fail
            refine (HAV.out _).mono ?_
            rintro _ w9 ⟨rfl, ho⟩
            have HO9 := Lib.hid (HO.out.trans (ho9.trans ho))
            replace e3 := ho.cell' e3 (fun f => f)
            replace e4 := ho.cell' e4 (fun f => f)
            replace cm := (ho9.trans ho).cell' cm (fun f => f)
            clear ho ho9 HAV e0 e1 e2 cx c0 c1 c2 c3 c4
            by_cases hlt : lf < x
            · have HFA : Hid (E = 9 ∧ A' = A) := Lib.hid (by
                have e : E = 9 := by rw [HE0.out, HDD.out, if_pos hlt]
                exact ⟨e, by rw [HT0.out, e]; rfl⟩)
              go_wp2_with fail
              go_ret
              exact ⟨by rw [HFA.out.1]; rfl, by rw [HFA.out.2]; exact HB1.out.only HO9.out (fun f => f), Only.p p (HO1.out.trans HO9.out)⟩
            · have HLT := Lib.hid hlt
              go_upto_region 9 with fail
              by_cases hm0 : 0 ≤ lim
              · have hbm : (lim != -1) = true := by simp; omega
                by_cases hgt : lim < au + ah + x
                · have HFA : Hid (E = 18 ∧ A' = A) := Lib.hid (by
                    have e : E = 18 := by rw [HE0.out, HDD.out, if_neg (show ¬ lf < x from by have := HLT.out; omega), if_pos ⟨hm0, hgt⟩]
                    exact ⟨e, by rw [HT0.out, e]; rfl⟩)
                  refine wp_region_noPanic ?_
                  refine late.region (fun w' => ∀ q, w'.cell? q = w9.cell? q) (fun j => [].contains j) (by kernel_rfl) (fun q => by simp) (fun hHeld => ?_)
                  refine late.take (i := 0) [2, 3, 4, 5, 6, 7, 8, 9, 10, 11, 12, 13, 14, 15, 16, 17, 18] (v := ?_) rfl (by kernel_rfl) (by kernel_rfl) (by kernel_rfl) (by kernel_rfl) (fun _ _ _ h => h) (Or.inl ⟨by rfl, ?_⟩) (by assumption) ?_
                  rotate_left 1
                  · intro w' hSw
                    try dsimp only at hSw
                    go_simp
                    try with_reducible rfl
                  try simp only [List.getElem_toArray, List.getElem_cons_zero, Act.put, List.setIfInBounds_toArray, List.set_cons_zero, List.set_cons_succ]
                  refine late.take (i := 1) [2, 3, 4, 5, 6, 7, 8, 9, 10, 11, 12, 13, 14, 15, 16, 17, 18] (v := ?_) rfl (by kernel_rfl) (by kernel_rfl) (by kernel_rfl) (by kernel_rfl) (fun _ _ _ h => h) (Or.inl ⟨by rfl, ?_⟩) (by assumption) ?_
                  rotate_left 1
                  · intro w' hSw
                    try dsimp only at hSw
                    go_simp
                    try with_reducible rfl
                  try simp only [List.getElem_toArray, List.getElem_cons_zero, List.getElem_cons_succ, Act.put, List.setIfInBounds_toArray, List.set_cons_zero, List.set_cons_succ]
                  refine late.take (i := 2) [3, 4, 5, 6, 7, 8, 9, 10, 11, 12, 13, 14, 15, 16, 17, 18] (v := ?_) rfl (by kernel_rfl) (by kernel_rfl) (by kernel_rfl) (by kernel_rfl) (fun _ _ _ h => h) (Or.inl ⟨by rfl, ?_⟩) (by assumption) ?_
                  rotate_left 1
                  · intro w' hSw
                    try dsimp only at hSw
                    go_simp
                    try with_reducible rfl
                  try simp only [List.getElem_toArray, List.getElem_cons_zero, List.getElem_cons_succ, Act.put, List.setIfInBounds_toArray, List.set_cons_zero, List.set_cons_succ]
                  refine late.take (i := 3) [4, 5, 6, 7, 8, 9, 10, 11, 12, 13, 14, 15, 16, 17, 18] (v := ?_) rfl (by kernel_rfl) (by kernel_rfl) (by kernel_rfl) (by kernel_rfl) (fun _ _ _ h => h) (Or.inl ⟨by rfl, ?_⟩) (by assumption) ?_
                  rotate_left 1
                  · intro w' hSw
                    try dsimp only at hSw
                    go_simp
                    try with_reducible rfl
                  try simp only [List.getElem_toArray, List.getElem_cons_zero, List.getElem_cons_succ, Act.put, List.setIfInBounds_toArray, List.set_cons_zero, List.set_cons_succ]
                  refine late.take (i := 4) [5, 6, 7, 8, 9, 10, 11, 12, 13, 14, 15, 16, 17, 18] (v := ?_) rfl (by kernel_rfl) (by kernel_rfl) (by kernel_rfl) (by kernel_rfl) (fun _ _ _ h => h) (Or.inl ⟨by rfl, ?_⟩) (by assumption) ?_
                  rotate_left 1
                  · intro w' hSw
                    try dsimp only at hSw
                    go_simp
                    try with_reducible rfl
                  try simp only [List.getElem_toArray, List.getElem_cons_zero, List.getElem_cons_succ, Act.put, List.setIfInBounds_toArray, List.set_cons_zero, List.set_cons_succ]
                  refine late.take (i := 5) [6, 7, 8, 9, 10, 11, 12, 13, 14, 15, 16, 17, 18] (v := ?_) rfl (by kernel_rfl) (by kernel_rfl) (by kernel_rfl) (by kernel_rfl) (fun _ _ _ h => h) (Or.inl ⟨by rfl, ?_⟩) (by assumption) ?_
                  rotate_left 1
                  · intro w' hSw
                    try dsimp only at hSw
                    go_simp
                    try with_reducible rfl
                  try simp only [List.getElem_toArray, List.getElem_cons_zero, List.getElem_cons_succ, Act.put, List.setIfInBounds_toArray, List.set_cons_zero, List.set_cons_succ]
                  refine late.take (i := 6) [7, 10, 12, 17, 18] (v := ?_) rfl (by kernel_rfl) (by kernel_rfl) (by kernel_rfl) (by kernel_rfl) (fun _ _ _ h => h) (Or.inl ⟨by rfl, ?_⟩) (by assumption) ?_
                  rotate_left 1
                  · intro w' hSw
                    try dsimp only at hSw
                    go_simp
                    try with_reducible rfl
                  try simp only [List.getElem_toArray, List.getElem_cons_zero, List.getElem_cons_succ, Act.put, List.setIfInBounds_toArray, List.set_cons_zero, List.set_cons_succ]
                  refine late.take (i := 7) [10, 12, 17, 18] (v := ?_) rfl (by kernel_rfl) (by kernel_rfl) (by kernel_rfl) (by kernel_rfl) (fun _ _ _ h => h) (Or.inl ⟨by rfl, ?_⟩) (by assumption) ?_
                  rotate_left 1
                  · intro w' hSw
                    try dsimp only at hSw
                    go_simp
                    try with_reducible rfl
                  try simp only [List.getElem_toArray, List.getElem_cons_zero, List.getElem_cons_succ, Act.put, List.setIfInBounds_toArray, List.set_cons_zero, List.set_cons_succ]
                  refine late.take (i := 8) [9, 10, 12, 17, 18] (v := ?_) rfl (by kernel_rfl) (by kernel_rfl) (by kernel_rfl) (by kernel_rfl) (fun _ _ _ h => h) (Or.inl ⟨by rfl, ?_⟩) (by assumption) ?_
                  rotate_left 1
                  · intro w' hSw
                    try dsimp only at hSw
                    go_simp
                    try with_reducible rfl
                  try simp only [List.getElem_toArray, List.getElem_cons_zero, List.getElem_cons_succ, Act.put, List.setIfInBounds_toArray, List.set_cons_zero, List.set_cons_succ]
                  refine late.take (i := 9) [10, 12, 17, 18] (v := ?_) rfl (by kernel_rfl) (by kernel_rfl) (by kernel_rfl) (by kernel_rfl) (fun _ _ _ h => h) (Or.inl ⟨by rfl, ?_⟩) (by assumption) ?_
                  rotate_left 1
                  · intro w' hSw
                    try dsimp only at hSw
                    go_simp
                    try with_reducible rfl
                  try simp only [List.getElem_toArray, List.getElem_cons_zero, List.getElem_cons_succ, Act.put, List.setIfInBounds_toArray, List.set_cons_zero, List.set_cons_succ]
                  refine late.take (i := 10) [12, 17, 18] (v := ?_) rfl (by kernel_rfl) (by kernel_rfl) (by kernel_rfl) (by kernel_rfl) (fun _ _ _ h => h) (Or.inl ⟨by rfl, ?_⟩) (by assumption) ?_
                  rotate_left 1
                  · intro w' hSw
                    try dsimp only at hSw
                    go_simp
                    try with_reducible rfl
                  try simp only [List.getElem_toArray, List.getElem_cons_zero, List.getElem_cons_succ, Act.put, List.setIfInBounds_toArray, List.set_cons_zero, List.set_cons_succ]
                  refine late.take (i := 11) [12, 17, 18] (v := ?_) rfl (by kernel_rfl) (by kernel_rfl) (by kernel_rfl) (by kernel_rfl) (fun _ _ _ h => h) (Or.inl ⟨by rfl, ?_⟩) (by assumption) ?_
                  rotate_left 1
                  · intro w' hSw
                    try dsimp only at hSw
                    go_simp
                    try with_reducible rfl
                  try simp only [List.getElem_toArray, List.getElem_cons_zero, List.getElem_cons_succ, Act.put, List.setIfInBounds_toArray, List.set_cons_zero, List.set_cons_succ]
                  refine late.take (i := 12) [17, 18] (v := ?_) rfl (by kernel_rfl) (by kernel_rfl) (by kernel_rfl) (by kernel_rfl) (fun _ _ _ h => h) (Or.inl ⟨by rfl, ?_⟩) (by assumption) ?_
                  rotate_left 1
                  · intro w' hSw
                    try dsimp only at hSw
                    go_simp
                    try with_reducible rfl
                  try simp only [List.getElem_toArray, List.getElem_cons_zero, List.getElem_cons_succ, Act.put, List.setIfInBounds_toArray, List.set_cons_zero, List.set_cons_succ]
                  refine late.take (i := 13) [15, 16, 17, 18] (v := ?_) rfl (by kernel_rfl) (by kernel_rfl) (by kernel_rfl) (by kernel_rfl) (fun _ _ _ h => h) (Or.inl ⟨by rfl, ?_⟩) (by assumption) ?_
                  rotate_left 1
                  · intro w' hSw
                    try dsimp only at hSw
                    go_simp
                    try with_reducible rfl
                  try simp only [List.getElem_toArray, List.getElem_cons_zero, List.getElem_cons_succ, Act.put, List.setIfInBounds_toArray, List.set_cons_zero, List.set_cons_succ]
                  refine late.take (i := 14) [15, 16, 17, 18] (v := ?_) rfl (by kernel_rfl) (by kernel_rfl) (by kernel_rfl) (by kernel_rfl) (fun _ _ _ h => h) (Or.inl ⟨by rfl, ?_⟩) (by assumption) ?_
                  rotate_left 1
                  · intro w' hSw
                    try dsimp only at hSw
                    go_simp
                    try with_reducible rfl
                  try simp only [List.getElem_toArray, List.getElem_cons_zero, List.getElem_cons_succ, Act.put, List.setIfInBounds_toArray, List.set_cons_zero, List.set_cons_succ]
                  refine late.take (i := 15) [16, 17, 18] (v := ?_) rfl (by kernel_rfl) (by kernel_rfl) (by kernel_rfl) (by kernel_rfl) (fun _ _ _ h => h) (Or.inl ⟨by rfl, ?_⟩) (by assumption) ?_
                  rotate_left 1
                  · intro w' hSw
                    try dsimp only at hSw
                    go_simp
                    try with_reducible rfl
                  try simp only [List.getElem_toArray, List.getElem_cons_zero, List.getElem_cons_succ, Act.put, List.setIfInBounds_toArray, List.set_cons_zero, List.set_cons_succ]
                  refine late.take (i := 16) [17, 18] (v := ?_) rfl (by kernel_rfl) (by kernel_rfl) (by kernel_rfl) (by kernel_rfl) (fun _ _ _ h => h) (Or.inl ⟨by rfl, ?_⟩) (by assumption) ?_
                  rotate_left 1
                  · intro w' hSw
                    try dsimp only at hSw
                    go_simp
                    try with_reducible rfl
                  try simp only [List.getElem_toArray, List.getElem_cons_zero, List.getElem_cons_succ, Act.put, List.setIfInBounds_toArray, List.set_cons_zero, List.set_cons_succ]
                  refine late.take (i := 17) [18] (v := ?_) rfl (by kernel_rfl) (by kernel_rfl) (by kernel_rfl) (by kernel_rfl) (fun _ _ _ h => h) (Or.inl ⟨by rfl, ?_⟩) (by assumption) ?_
                  rotate_left 1
                  · intro w' hSw
                    try dsimp only at hSw
                    go_simp
                    try with_reducible rfl
                  try simp only [List.getElem_toArray, List.getElem_cons_zero, List.getElem_cons_succ, Act.put, List.setIfInBounds_toArray, List.set_cons_zero, List.set_cons_succ]
                  refine late.take (i := 18) [] (v := ?_) rfl (by kernel_rfl) (by kernel_rfl) (by kernel_rfl) (by kernel_rfl) (fun _ _ _ h => h) (Or.inl ⟨by rfl, ?_⟩) (by assumption) ?_
                  rotate_left 1
                  · intro w' hSw
                    try dsimp only at hSw
                    go_simp
                    try with_reducible rfl
                  try simp only [List.getElem_toArray, List.getElem_cons_zero, List.getElem_cons_succ, Act.put, List.setIfInBounds_toArray, List.set_cons_zero, List.set_cons_succ]
                  refine late.done (by kernel_rfl) ?_ _
                  refine NoPanic.normal ?_
                  have HOD := Lib.hid HO9.out.drew
                  go_wp2_with fail
                  go_ret
                  exact ⟨by rw [HFA.out.1]; rfl, by rw [HFA.out.2]; exact HB1.out.only HOD.out (fun f => f), Only.p p (HO1.out.trans HOD.out)⟩
                · have HD2 : Hid (holdR A x l ls = holdR A x (l.drop (i + 1)) (ls.drop (i + 1))) := Lib.hid (by rw [HDD.out, if_neg (show ¬ lf < x from by have := HLT.out; omega), if_neg (fun q => hgt q.2)])
                  refine wp_region_noPanic ?_
                  refine late.region (fun w' => ∀ q, w'.cell? q = w9.cell? q) (fun j => [].contains j) (by kernel_rfl) (fun q => by simp) (fun hHeld => ?_)
                  refine late.take (i := 0) [2, 3, 4, 5, 6, 7, 8, 9, 10, 11, 12, 13, 14, 15, 16, 17, 18] (v := ?_) rfl (by kernel_rfl) (by kernel_rfl) (by kernel_rfl) (by kernel_rfl) (fun _ _ _ h => h) (Or.inl ⟨by rfl, ?_⟩) (by assumption) ?_
                  rotate_left 1
                  · intro w' hSw
                    try dsimp only at hSw
                    go_simp
                    try with_reducible rfl
                  try simp only [List.getElem_toArray, List.getElem_cons_zero, Act.put, List.setIfInBounds_toArray, List.set_cons_zero, List.set_cons_succ]
                  refine late.take (i := 1) [2, 3, 4, 5, 6, 7, 8, 9, 10, 11, 12, 13, 14, 15, 16, 17, 18] (v := ?_) rfl (by kernel_rfl) (by kernel_rfl) (by kernel_rfl) (by kernel_rfl) (fun _ _ _ h => h) (Or.inl ⟨by rfl, ?_⟩) (by assumption) ?_
                  rotate_left 1
                  · intro w' hSw
                    try dsimp only at hSw
                    go_simp
                    try with_reducible rfl
                  try simp only [List.getElem_toArray, List.getElem_cons_zero, List.getElem_cons_succ, Act.put, List.setIfInBounds_toArray, List.set_cons_zero, List.set_cons_succ]
                  refine late.take (i := 2) [3, 4, 5, 6, 7, 8, 9, 10, 11, 12, 13, 14, 15, 16, 17, 18] (v := ?_) rfl (by kernel_rfl) (by kernel_rfl) (by kernel_rfl) (by kernel_rfl) (fun _ _ _ h => h) (Or.inl ⟨by rfl, ?_⟩) (by assumption) ?_
                  rotate_left 1
                  · intro w' hSw
                    try dsimp only at hSw
                    go_simp
                    try with_reducible rfl
                  try simp only [List.getElem_toArray, List.getElem_cons_zero, List.getElem_cons_succ, Act.put, List.setIfInBounds_toArray, List.set_cons_zero, List.set_cons_succ]
                  refine late.take (i := 3) [4, 5, 6, 7, 8, 9, 10, 11, 12, 13, 14, 15, 16, 17, 18] (v := ?_) rfl (by kernel_rfl) (by kernel_rfl) (by kernel_rfl) (by kernel_rfl) (fun _ _ _ h => h) (Or.inl ⟨by rfl, ?_⟩) (by assumption) ?_
                  rotate_left 1
                  · intro w' hSw
                    try dsimp only at hSw
                    go_simp
                    try with_reducible rfl
                  try simp only [List.getElem_toArray, List.getElem_cons_zero, List.getElem_cons_succ, Act.put, List.setIfInBounds_toArray, List.set_cons_zero, List.set_cons_succ]
                  refine late.take (i := 4) [5, 6, 7, 8, 9, 10, 11, 12, 13, 14, 15, 16, 17, 18] (v := ?_) rfl (by kernel_rfl) (by kernel_rfl) (by kernel_rfl) (by kernel_rfl) (fun _ _ _ h => h) (Or.inl ⟨by rfl, ?_⟩) (by assumption) ?_
                  rotate_left 1
                  · intro w' hSw
                    try dsimp only at hSw
                    go_simp
                    try with_reducible rfl
                  try simp only [List.getElem_toArray, List.getElem_cons_zero, List.getElem_cons_succ, Act.put, List.setIfInBounds_toArray, List.set_cons_zero, List.set_cons_succ]
                  refine late.take (i := 5) [6, 7, 8, 9, 10, 11, 12, 13, 14, 15, 16, 17, 18] (v := ?_) rfl (by kernel_rfl) (by kernel_rfl) (by kernel_rfl) (by kernel_rfl) (fun _ _ _ h => h) (Or.inl ⟨by rfl, ?_⟩) (by assumption) ?_
                  rotate_left 1
                  · intro w' hSw
                    try dsimp only at hSw
                    go_simp
                    try with_reducible rfl
                  try simp only [List.getElem_toArray, List.getElem_cons_zero, List.getElem_cons_succ, Act.put, List.setIfInBounds_toArray, List.set_cons_zero, List.set_cons_succ]
                  refine late.take (i := 6) [7, 10, 12, 17, 18] (v := ?_) rfl (by kernel_rfl) (by kernel_rfl) (by kernel_rfl) (by kernel_rfl) (fun _ _ _ h => h) (Or.inl ⟨by rfl, ?_⟩) (by assumption) ?_
                  rotate_left 1
                  · intro w' hSw
                    try dsimp only at hSw
                    go_simp
                    try with_reducible rfl
                  try simp only [List.getElem_toArray, List.getElem_cons_zero, List.getElem_cons_succ, Act.put, List.setIfInBounds_toArray, List.set_cons_zero, List.set_cons_succ]
                  refine late.take (i := 7) [10, 12, 17, 18] (v := ?_) rfl (by kernel_rfl) (by kernel_rfl) (by kernel_rfl) (by kernel_rfl) (fun _ _ _ h => h) (Or.inl ⟨by rfl, ?_⟩) (by assumption) ?_
                  rotate_left 1
                  · intro w' hSw
                    try dsimp only at hSw
                    go_simp
                    try with_reducible rfl
                  try simp only [List.getElem_toArray, List.getElem_cons_zero, List.getElem_cons_succ, Act.put, List.setIfInBounds_toArray, List.set_cons_zero, List.set_cons_succ]
                  refine late.take (i := 8) [9, 10, 12, 17, 18] (v := ?_) rfl (by kernel_rfl) (by kernel_rfl) (by kernel_rfl) (by kernel_rfl) (fun _ _ _ h => h) (Or.inl ⟨by rfl, ?_⟩) (by assumption) ?_
                  rotate_left 1
                  · intro w' hSw
                    try dsimp only at hSw
                    go_simp
                    try with_reducible rfl
                  try simp only [List.getElem_toArray, List.getElem_cons_zero, List.getElem_cons_succ, Act.put, List.setIfInBounds_toArray, List.set_cons_zero, List.set_cons_succ]
                  refine late.take (i := 9) [10, 12, 17, 18] (v := ?_) rfl (by kernel_rfl) (by kernel_rfl) (by kernel_rfl) (by kernel_rfl) (fun _ _ _ h => h) (Or.inl ⟨by rfl, ?_⟩) (by assumption) ?_
                  rotate_left 1
                  · intro w' hSw
                    try dsimp only at hSw
                    go_simp
                    try with_reducible rfl
                  try simp only [List.getElem_toArray, List.getElem_cons_zero, List.getElem_cons_succ, Act.put, List.setIfInBounds_toArray, List.set_cons_zero, List.set_cons_succ]
                  refine late.take (i := 10) [12, 17, 18] (v := ?_) rfl (by kernel_rfl) (by kernel_rfl) (by kernel_rfl) (by kernel_rfl) (fun _ _ _ h => h) (Or.inl ⟨by rfl, ?_⟩) (by assumption) ?_
                  rotate_left 1
                  · intro w' hSw
                    try dsimp only at hSw
                    go_simp
                    try with_reducible rfl
                  try simp only [List.getElem_toArray, List.getElem_cons_zero, List.getElem_cons_succ, Act.put, List.setIfInBounds_toArray, List.set_cons_zero, List.set_cons_succ]
                  refine late.take (i := 11) [12, 17, 18] (v := ?_) rfl (by kernel_rfl) (by kernel_rfl) (by kernel_rfl) (by kernel_rfl) (fun _ _ _ h => h) (Or.inl ⟨by rfl, ?_⟩) (by assumption) ?_
                  rotate_left 1
                  · intro w' hSw
                    try dsimp only at hSw
                    go_simp
                    try with_reducible rfl
                  try simp only [List.getElem_toArray, List.getElem_cons_zero, List.getElem_cons_succ, Act.put, List.setIfInBounds_toArray, List.set_cons_zero, List.set_cons_succ]
                  refine late.take (i := 12) [17, 18] (v := ?_) rfl (by kernel_rfl) (by kernel_rfl) (by kernel_rfl) (by kernel_rfl) (fun _ _ _ h => h) (Or.inl ⟨by rfl, ?_⟩) (by assumption) ?_
                  rotate_left 1
                  · intro w' hSw
                    try dsimp only at hSw
                    go_simp
                    try with_reducible rfl
                  try simp only [List.getElem_toArray, List.getElem_cons_zero, List.getElem_cons_succ, Act.put, List.setIfInBounds_toArray, List.set_cons_zero, List.set_cons_succ]
                  refine late.take (i := 13) [15, 16, 17, 18] (v := ?_) rfl (by kernel_rfl) (by kernel_rfl) (by kernel_rfl) (by kernel_rfl) (fun _ _ _ h => h) (Or.inl ⟨by rfl, ?_⟩) (by assumption) ?_
                  rotate_left 1
                  · intro w' hSw
                    try dsimp only at hSw
                    go_simp
                    try with_reducible rfl
                  try simp only [List.getElem_toArray, List.getElem_cons_zero, List.getElem_cons_succ, Act.put, List.setIfInBounds_toArray, List.set_cons_zero, List.set_cons_succ]
                  refine late.take (i := 14) [15, 16, 17, 18] (v := ?_) rfl (by kernel_rfl) (by kernel_rfl) (by kernel_rfl) (by kernel_rfl) (fun _ _ _ h => h) (Or.inl ⟨by rfl, ?_⟩) (by assumption) ?_
                  rotate_left 1
                  · intro w' hSw
                    try dsimp only at hSw
                    go_simp
                    try with_reducible rfl
                  try simp only [List.getElem_toArray, List.getElem_cons_zero, List.getElem_cons_succ, Act.put, List.setIfInBounds_toArray, List.set_cons_zero, List.set_cons_succ]
                  refine late.take (i := 15) [16, 17, 18] (v := ?_) rfl (by kernel_rfl) (by kernel_rfl) (by kernel_rfl) (by kernel_rfl) (fun _ _ _ h => h) (Or.inl ⟨by rfl, ?_⟩) (by assumption) ?_
                  rotate_left 1
                  · intro w' hSw
                    try dsimp only at hSw
                    go_simp
                    try with_reducible rfl
                  try simp only [List.getElem_toArray, List.getElem_cons_zero, List.getElem_cons_succ, Act.put, List.setIfInBounds_toArray, List.set_cons_zero, List.set_cons_succ]
                  refine late.take (i := 16) [17, 18] (v := ?_) rfl (by kernel_rfl) (by kernel_rfl) (by kernel_rfl) (by kernel_rfl) (fun _ _ _ h => h) (Or.inl ⟨by rfl, ?_⟩) (by assumption) ?_
                  rotate_left 1
                  · intro w' hSw
                    try dsimp only at hSw
                    go_simp
                    try with_reducible rfl
                  try simp only [List.getElem_toArray, List.getElem_cons_zero, List.getElem_cons_succ, Act.put, List.setIfInBounds_toArray, List.set_cons_zero, List.set_cons_succ]
                  refine late.take (i := 17) [18] (v := ?_) rfl (by kernel_rfl) (by kernel_rfl) (by kernel_rfl) (by kernel_rfl) (fun _ _ _ h => h) (Or.inl ⟨by rfl, ?_⟩) (by assumption) ?_
                  rotate_left 1
                  · intro w' hSw
                    try dsimp only at hSw
                    go_simp
                    try with_reducible rfl
                  try simp only [List.getElem_toArray, List.getElem_cons_zero, List.getElem_cons_succ, Act.put, List.setIfInBounds_toArray, List.set_cons_zero, List.set_cons_succ]
                  refine late.take (i := 18) [] (v := ?_) rfl (by kernel_rfl) (by kernel_rfl) (by kernel_rfl) (by kernel_rfl) (fun _ _ _ h => h) (Or.inl ⟨by rfl, ?_⟩) (by assumption) ?_
                  rotate_left 1
                  · intro w' hSw
                    try dsimp only at hSw
                    go_simp
                    try with_reducible rfl
                  try simp only [List.getElem_toArray, List.getElem_cons_zero, List.getElem_cons_succ, Act.put, List.setIfInBounds_toArray, List.set_cons_zero, List.set_cons_succ]
                  refine late.done (by kernel_rfl) ?_ _
                  refine NoPanic.normal ?_
                  have HOD := Lib.hid HO9.out.drew
                  go_wp2_with fail
                  go_roundw
                  case rel => exact ⟨i + 1, by omega, by go_num, HD2, HOD⟩
                  case measure => simp [intOf]; omega
              · have HD2 : Hid (holdR A x l ls = holdR A x (l.drop (i + 1)) (ls.drop (i + 1))) := Lib.hid (by rw [HDD.out, if_neg (show ¬ lf < x from by have := HLT.out; omega), if_neg (fun q => hm0 q.1)])
                obtain rfl : lim = -1 := by omega
                refine wp_region_noPanic ?_
                refine late.region (fun w' => ∀ q, w'.cell? q = w9.cell? q) (fun j => [].contains j) (by kernel_rfl) (fun q => by simp) (fun hHeld => ?_)
                refine late.take (i := 0) [2, 3, 4, 5, 6, 7, 8, 9, 10, 11, 12, 13, 14, 15, 16, 17, 18] (v := ?_) rfl (by kernel_rfl) (by kernel_rfl) (by kernel_rfl) (by kernel_rfl) (fun _ _ _ h => h) (Or.inl ⟨by rfl, ?_⟩) (by assumption) ?_
                rotate_left 1
                · intro w' hSw
                  try dsimp only at hSw
                  go_simp
                  try with_reducible rfl
                try simp only [List.getElem_toArray, List.getElem_cons_zero, Act.put, List.setIfInBounds_toArray, List.set_cons_zero, List.set_cons_succ]
                refine late.take (i := 1) [2, 3, 4, 5, 6, 7, 8, 9, 10, 11, 12, 13, 14, 15, 16, 17, 18] (v := ?_) rfl (by kernel_rfl) (by kernel_rfl) (by kernel_rfl) (by kernel_rfl) (fun _ _ _ h => h) (Or.inl ⟨by rfl, ?_⟩) (by assumption) ?_
                rotate_left 1
                · intro w' hSw
                  try dsimp only at hSw
                  go_simp
                  try with_reducible rfl
                try simp only [List.getElem_toArray, List.getElem_cons_zero, List.getElem_cons_succ, Act.put, List.setIfInBounds_toArray, List.set_cons_zero, List.set_cons_succ]
                refine late.take (i := 2) [3, 4, 5, 6, 7, 8, 9, 10, 11, 12, 13, 14, 15, 16, 17, 18] (v := ?_) rfl (by kernel_rfl) (by kernel_rfl) (by kernel_rfl) (by kernel_rfl) (fun _ _ _ h => h) (Or.inl ⟨by rfl, ?_⟩) (by assumption) ?_
                rotate_left 1
                · intro w' hSw
                  try dsimp only at hSw
                  go_simp
                  try with_reducible rfl
                try simp only [List.getElem_toArray, List.getElem_cons_zero, List.getElem_cons_succ, Act.put, List.setIfInBounds_toArray, List.set_cons_zero, List.set_cons_succ]
                refine late.take (i := 3) [4, 5, 6, 7, 8, 9, 10, 11, 12, 13, 14, 15, 16, 17, 18] (v := ?_) rfl (by kernel_rfl) (by kernel_rfl) (by kernel_rfl) (by kernel_rfl) (fun _ _ _ h => h) (Or.inl ⟨by rfl, ?_⟩) (by assumption) ?_
                rotate_left 1
                · intro w' hSw
                  try dsimp only at hSw
                  go_simp
                  try with_reducible rfl
                try simp only [List.getElem_toArray, List.getElem_cons_zero, List.getElem_cons_succ, Act.put, List.setIfInBounds_toArray, List.set_cons_zero, List.set_cons_succ]
                refine late.take (i := 4) [5, 6, 7, 8, 9, 10, 11, 12, 13, 14, 15, 16, 17, 18] (v := ?_) rfl (by kernel_rfl) (by kernel_rfl) (by kernel_rfl) (by kernel_rfl) (fun _ _ _ h => h) (Or.inl ⟨by rfl, ?_⟩) (by assumption) ?_
                rotate_left 1
                · intro w' hSw
                  try dsimp only at hSw
                  go_simp
                  try with_reducible rfl
                try simp only [List.getElem_toArray, List.getElem_cons_zero, List.getElem_cons_succ, Act.put, List.setIfInBounds_toArray, List.set_cons_zero, List.set_cons_succ]
                refine late.take (i := 5) [6, 7, 8, 9, 10, 11, 12, 13, 14, 15, 16, 17, 18] (v := ?_) rfl (by kernel_rfl) (by kernel_rfl) (by kernel_rfl) (by kernel_rfl) (fun _ _ _ h => h) (Or.inl ⟨by rfl, ?_⟩) (by assumption) ?_
                rotate_left 1
                · intro w' hSw
                  try dsimp only at hSw
                  go_simp
                  try with_reducible rfl
                try simp only [List.getElem_toArray, List.getElem_cons_zero, List.getElem_cons_succ, Act.put, List.setIfInBounds_toArray, List.set_cons_zero, List.set_cons_succ]
                refine late.take (i := 6) [7, 10, 12, 17, 18] (v := undef) rfl (by kernel_rfl) (by kernel_rfl) (by kernel_rfl) (by kernel_rfl) (fun _ _ _ h => h) (Or.inr ⟨rfl, rfl⟩) (by assumption) ?_
                try simp only [List.getElem_toArray, List.getElem_cons_zero, List.getElem_cons_succ, Act.put, List.setIfInBounds_toArray, List.set_cons_zero, List.set_cons_succ]
                refine late.take (i := 7) [10, 12, 17, 18] (v := undef) rfl (by kernel_rfl) (by kernel_rfl) (by kernel_rfl) (by kernel_rfl) (fun _ _ _ h => h) (Or.inr ⟨rfl, rfl⟩) (by assumption) ?_
                try simp only [List.getElem_toArray, List.getElem_cons_zero, List.getElem_cons_succ, Act.put, List.setIfInBounds_toArray, List.set_cons_zero, List.set_cons_succ]
                refine late.take (i := 8) [9, 10, 12, 17, 18] (v := undef) rfl (by kernel_rfl) (by kernel_rfl) (by kernel_rfl) (by kernel_rfl) (fun _ _ _ h => h) (Or.inr ⟨rfl, rfl⟩) (by assumption) ?_
                try simp only [List.getElem_toArray, List.getElem_cons_zero, List.getElem_cons_succ, Act.put, List.setIfInBounds_toArray, List.set_cons_zero, List.set_cons_succ]
                refine late.take (i := 9) [10, 12, 17, 18] (v := undef) rfl (by kernel_rfl) (by kernel_rfl) (by kernel_rfl) (by kernel_rfl) (fun _ _ _ h => h) (Or.inr ⟨rfl, rfl⟩) (by assumption) ?_
                try simp only [List.getElem_toArray, List.getElem_cons_zero, List.getElem_cons_succ, Act.put, List.setIfInBounds_toArray, List.set_cons_zero, List.set_cons_succ]
                refine late.take (i := 10) [12, 17, 18] (v := undef) rfl (by kernel_rfl) (by kernel_rfl) (by kernel_rfl) (by kernel_rfl) (fun _ _ _ h => h) (Or.inr ⟨rfl, rfl⟩) (by assumption) ?_
                try simp only [List.getElem_toArray, List.getElem_cons_zero, List.getElem_cons_succ, Act.put, List.setIfInBounds_toArray, List.set_cons_zero, List.set_cons_succ]
                refine late.take (i := 11) [12, 17, 18] (v := undef) rfl (by kernel_rfl) (by kernel_rfl) (by kernel_rfl) (by kernel_rfl) (fun _ _ _ h => h) (Or.inr ⟨rfl, rfl⟩) (by assumption) ?_
                try simp only [List.getElem_toArray, List.getElem_cons_zero, List.getElem_cons_succ, Act.put, List.setIfInBounds_toArray, List.set_cons_zero, List.set_cons_succ]
                refine late.take (i := 12) [17, 18] (v := undef) rfl (by kernel_rfl) (by kernel_rfl) (by kernel_rfl) (by kernel_rfl) (fun _ _ _ h => h) (Or.inr ⟨rfl, rfl⟩) (by assumption) ?_
                try simp only [List.getElem_toArray, List.getElem_cons_zero, List.getElem_cons_succ, Act.put, List.setIfInBounds_toArray, List.set_cons_zero, List.set_cons_succ]
                refine late.take (i := 13) [15, 16, 17, 18] (v := undef) rfl (by kernel_rfl) (by kernel_rfl) (by kernel_rfl) (by kernel_rfl) (fun _ _ _ h => h) (Or.inr ⟨rfl, rfl⟩) (by assumption) ?_
                try simp only [List.getElem_toArray, List.getElem_cons_zero, List.getElem_cons_succ, Act.put, List.setIfInBounds_toArray, List.set_cons_zero, List.set_cons_succ]
                refine late.take (i := 14) [15, 16, 17, 18] (v := undef) rfl (by kernel_rfl) (by kernel_rfl) (by kernel_rfl) (by kernel_rfl) (fun _ _ _ h => h) (Or.inr ⟨rfl, rfl⟩) (by assumption) ?_
                try simp only [List.getElem_toArray, List.getElem_cons_zero, List.getElem_cons_succ, Act.put, List.setIfInBounds_toArray, List.set_cons_zero, List.set_cons_succ]
                refine late.take (i := 15) [16, 17, 18] (v := undef) rfl (by kernel_rfl) (by kernel_rfl) (by kernel_rfl) (by kernel_rfl) (fun _ _ _ h => h) (Or.inr ⟨rfl, rfl⟩) (by assumption) ?_
                try simp only [List.getElem_toArray, List.getElem_cons_zero, List.getElem_cons_succ, Act.put, List.setIfInBounds_toArray, List.set_cons_zero, List.set_cons_succ]
                refine late.take (i := 16) [17, 18] (v := undef) rfl (by kernel_rfl) (by kernel_rfl) (by kernel_rfl) (by kernel_rfl) (fun _ _ _ h => h) (Or.inr ⟨rfl, rfl⟩) (by assumption) ?_
                try simp only [List.getElem_toArray, List.getElem_cons_zero, List.getElem_cons_succ, Act.put, List.setIfInBounds_toArray, List.set_cons_zero, List.set_cons_succ]
                refine late.take (i := 17) [18] (v := undef) rfl (by kernel_rfl) (by kernel_rfl) (by kernel_rfl) (by kernel_rfl) (fun _ _ _ h => h) (Or.inr ⟨rfl, rfl⟩) (by assumption) ?_
                try simp only [List.getElem_toArray, List.getElem_cons_zero, List.getElem_cons_succ, Act.put, List.setIfInBounds_toArray, List.set_cons_zero, List.set_cons_succ]
                refine late.take (i := 18) [] (v := ?_) rfl (by kernel_rfl) (by kernel_rfl) (by kernel_rfl) (by kernel_rfl) (fun _ _ _ h => h) (Or.inl ⟨by rfl, ?_⟩) (by assumption) ?_
                rotate_left 1
                · intro w' hSw
                  try dsimp only at hSw
                  go_simp
                  try with_reducible rfl
                try simp only [List.getElem_toArray, List.getElem_cons_zero, List.getElem_cons_succ, Act.put, List.setIfInBounds_toArray, List.set_cons_zero, List.set_cons_succ]
                refine late.done (by kernel_rfl) ?_ _
                refine NoPanic.normal ?_
                have HOD := Lib.hid HO9.out.drew
                go_wp2_with fail
                go_roundw
                case rel => exact ⟨i + 1, by omega, by go_num, HD2, HOD⟩
                case measure => simp [intOf]; omega
          · obtain rfl : i = m := by omega
            have HFA : Hid (E = 0 ∧ A' = shT A l x 0) := Lib.hid (by
              have e : E = 0 := by rw [HE0.out, HD.out, HBN.out]
              exact ⟨e, by rw [HT0.out, if_pos e]⟩)
            have hs := shift_any p A a i c l x x 0 wr (HB1.out.only HO.out (fun f => f)) HA.out (HR1.out.only HO.out (fun _ _ f => f)) hc HPA.out (fun _ => by omega) (fun _ => by omega)
            rw [HSH.out.1, HSH.out.2] at hs
            have HS := Lib.hid hs
            clear hs
            go_wp2_with fail
            refine HS.out.mono ?_
            rintro _ w7 ⟨rfl, hb, ho⟩
            have HE9 : Hid (BkAt w7 p A' ∧ Only (fun q => q = p) w w7) := Lib.hid ⟨by rw [HFA.out.2]; exact hb, (Only.p p (HO1.out.trans HO.out)).trans ho⟩
            clear hb ho
            go_wp2_with fail
            go_ret
            exact ⟨by rw [HFA.out.1]; rfl, HE9.out⟩
      · rw [HDP.out] at HIS
        rw [HDL.out] at HLI0
        have hE : holdE A l ls x = 1 := by unfold holdE; rw [if_neg (fun q => hx q.2)]
        have hT : holdA A l ls x = A := by unfold holdA; rw [hE]; rfl
        rw [hE, hT]
        clear hE hT
        have hx' : ¬ (1 ≤ x ∧ x ≤ 9007199254740992) := hx
        clear hx hp HDP HDL hlo
        go_enter Try.func37, Try.ntmps37
        go_wp2_with fail
        refine (HIS.out).mono ?_
        rintro _ w1 ⟨rfl, ho⟩
        have HO := Lib.hid ho
        clear ho
        go_wp2_with fail
        refine (HLI0.out _ HO.out).mono ?_
        rintro _ w2 ⟨rfl, ho⟩
        replace HO := Lib.hid (HO.out.trans ho)
        clear ho HLI0
        go_wp2_with fail
        refine (isAmt_no _ _ hx').mono ?_
        rintro _ _ ⟨rfl, rfl⟩
        go_wp2_with fail
        go_ret
        exact ⟨rfl, HB.out.only HO.out (fun f => f), Only.p p HO.out⟩
    · have HDL : Hid (decide (m = n ∧ LOk ls m) = false) := Lib.hid (decide_eq_false hlm)
      rw [HDP.out] at HIS
      rw [HDL.out] at HLI0
      have hE : holdE A l ls x = 1 := by unfold holdE; rw [if_neg (fun q => hlm ⟨by rw [HLN.out, HLN2.out] at q; exact q.1.2.1, by rw [HLN2.out] at q; exact q.1.2.2⟩)]
      have hT : holdA A l ls x = A := by unfold holdA; rw [hE]; rfl
      rw [hE, hT]
      clear hE hT
      clear hp HDP HDL hlm
      go_enter Try.func37, Try.ntmps37
      go_wp2_with fail
      refine (HIS.out).mono ?_
      rintro _ w1 ⟨rfl, ho⟩
      have HO := Lib.hid ho
      clear ho
      go_wp2_with fail
      refine (HLI0.out _ HO.out).mono ?_
      rintro _ w2 ⟨rfl, ho⟩
      replace HO := Lib.hid (HO.out.trans ho)
      clear ho HLI0
      go_wp2_with fail
      go_ret
      exact ⟨rfl, HB.out.only HO.out (fun f => f), Only.p p HO.out⟩
  · have HDP : Hid (decide (PathOk l) = false) := Lib.hid (decide_eq_false hp)
    rw [HDP.out] at HIS
    have hE : holdE A l ls x = 1 := by unfold holdE; rw [if_neg (fun q => hp q.1.1)]
    have hT : holdA A l ls x = A := by unfold holdA; rw [hE]; rfl
    rw [hE, hT]
    clear hE hT
    clear hp HDP HLI0
    go_enter Try.func37, Try.ntmps37
    go_wp2_with fail
    refine (HIS.out).mono ?_
    rintro _ w1 ⟨rfl, ho⟩
    have HO := Lib.hid ho
    clear ho
    go_wp2_with fail
    go_ret
    exact ⟨rfl, HB.out.only HO.out (fun f => f), Only.p p HO.out⟩
set_option maxRecDepth 100000 in
set_option maxHeartbeats 4000000 in
theorem rhold_any (p : Nat) (A : List Ac) (a : Option Addr) (n c : Nat) (l : List Int) (a2 : Option Addr) (m c2 : Nat) (ls : List Int) (x : Int) (w : World) (h : BkAt w p A) (hA : Bok A) (hr : ReadsI w a n l) (hc : n ≤ c) (hr2 : ReadsI w a2 m ls) (hpa : ∀ y, a = some y → y.block ≠ p) : Calls Try.prog 67 #[.pointer (some ⟨p, 0, none⟩), .slice a n c, .slice a2 m c2, .int .i64 x] w (FDid p (holdA A l ls x) (holdE A l ls x) w) := by
  have HB := Lib.hid h
  have HA := Lib.hid hA
  have HR := Lib.hid hr
  have HR2 := Lib.hid hr2
  have HPA := Lib.hid hpa
  have hm := hr.2.1
  have hm2 := hr2.2.1
  unfold maxLen at hm hm2
  have HLN := Lib.hid hr.1
  have HLN2 := Lib.hid hr2.1
  have HIS := Lib.hid (rlimited_any a n c l a2 m c2 ls w hr hc hr2)
  clear h hA hr hr2 hpa
  by_cases hpl : PathOk l ∧ m = n ∧ LOk ls m
  · have HDP : Hid (decide (PathOk l ∧ m = n ∧ LOk ls m) = true) := Lib.hid (decide_eq_true hpl)
    by_cases hx : AmtOk x
    · obtain ⟨hp, rfl, hlo⟩ := hpl
      have HE0 : Hid (holdE A l ls x = holdR A x l ls) := Lib.hid (by unfold holdE; rw [if_pos ⟨⟨hp, by rw [HLN.out, HLN2.out], by rw [HLN2.out]; exact hlo⟩, hx⟩])
      have HT0 : Hid (holdA A l ls x = if holdE A l ls x = 0 then shT A l x 0 else A) := Lib.hid rfl
      have HPK : Hid (∀ i, i < m → ∃ k : Nat, l.getD i 0 = k ∧ 1 ≤ k ∧ k < 33) := Lib.hid (fun i hi => by obtain ⟨k, q1, q2, q3, _⟩ := path_toNat hp i (by rw [HLN.out]; exact hi); exact ⟨k, q1, q2, q3⟩)
      have HDR : Hid (∀ i, i < m → holdR A x (l.drop i) (ls.drop i) = if left (nd A (l.getD i 0)) < x then 9 else if 0 ≤ ls.getD i 0 ∧ ls.getD i 0 < (nd A (l.getD i 0)).u + (nd A (l.getD i 0)).h + x then 18 else holdR A x (l.drop (i + 1)) (ls.drop (i + 1))) := Lib.hid (fun i hi => by rw [drop_at l i (by rw [HLN.out]; exact hi), drop_at ls i (by rw [HLN2.out]; exact hi)]; rfl)
      have HND : Hid (∀ i, Parts (nd A i)) := Lib.hid (fun i => (HA.out.ok _).1)
      have HBN : Hid (holdR A x (l.drop m) (ls.drop m) = 0) := Lib.hid (by rw [List.drop_eq_nil_of_le (by rw [HLN.out]; exact Nat.le_refl _)]; rfl)
      have HLI : Hid (∀ i, i < m → LimIn (ls.getD i 0)) := Lib.hid hlo
      have HSH := Lib.hid (hold_sh HA.out hp hx)
      have HSA : Hid (∀ i, i < m → nd (shT A (l.take i) x 0) (l.getD i 0) = nd A (l.getD i 0)) := Lib.hid (fun i hi => shT_at hp i (by rw [HLN.out]; exact hi) x 0)
      have HSS : Hid (∀ i, i < m → shT A (l.take (i + 1)) x 0 = (shT A (l.take i) x 0).set (l.getD i 0).toNat (shB (nd (shT A (l.take i) x 0) (l.getD i 0)) x 0)) := Lib.hid (fun i hi => shT_take A l x 0 i (by rw [HLN.out]; exact hi))
      have HSL0 : Hid (∀ i, (shT A (l.take i) x 0).length = 33) := Lib.hid (fun i => (shT_len _ _ _ _).trans HA.out.len)
      have HF0 : Hid (shT A (l.take 0) x 0 = A) := Lib.hid rfl
      have HFN : Hid (shT A (l.take m) x 0 = shT A l x 0) := Lib.hid (by rw [List.take_of_length_le (by rw [HLN.out]; exact Nat.le_refl _)])
      obtain ⟨x1, x2⟩ := hx
      rw [HDP.out] at HIS
      clear hp HDP hlo
      generalize holdE A l ls x = E at *
      generalize holdA A l ls x = A' at *
      go_enter Try.func67, Try.ntmps67
      go_wp2_with fail
      refine (HIS.out).mono ?_
      rintro _ w1 ⟨rfl, ho⟩
      have HO := Lib.hid ho
      clear ho
      go_wp2_with fail
      have HO1 := Lib.hid HO.out
      have HR1 := Lib.hid (HR.out.only HO.out (fun _ _ f => f))
      have HR21 := Lib.hid (HR2.out.only HO.out (fun _ _ f => f))
      have HB1 := Lib.hid (HB.out.only HO.out (fun f => f))
      clear HO HR HR2 HB
      rename World => w1
      go_loopw [9] (fun iv wr => ∃ i : Nat, i ≤ m ∧ iv = .int .i64 (i : Int) ∧ Hid (holdR A x l ls = holdR A x (l.drop i) (ls.drop i)) ∧ Hid (Only (fun _ => False) w1 wr)) (fun iv _ => m - (intOf iv).toNat)
      case atStart => exact ⟨0, by omega, rfl, Lib.hid rfl, Lib.hid (Only.refl _ _)⟩
      case round =>
        obtain ⟨i, hi, rfl, HD, HO⟩ := hrel
        rename World => wr
        by_cases h8 : i < m
        · obtain ⟨b, off, rfl, hcell⟩ := HR1.out.2.2.2.resolve_left (by omega)
          obtain ⟨b2, off2, rfl, hcell2⟩ := HR21.out.2.2.2.resolve_left (by omega)
          have cx := HO.out.cell' (hcell i h8) (fun f => f)
          have cm := HO.out.cell' (hcell2 i h8) (fun f => f)
          have hi0 : (0 : Int) ≤ i := by omega
          have hi1 : (i : Int) < m := by omega
          obtain ⟨k, hk, k1, k2⟩ := HPK.out i h8
          have hdd := HDR.out i h8
          have hpt := HND.out (l.getD i 0)
          obtain ⟨l1, l2⟩ := HLI.out i h8
          rw [hk, nd_nat] at hdd hpt
          rw [hk] at cx
          have hk2 : (k : Int) < 33 := by omega
          have hk0 : (0 : Int) ≤ k := by omega
          obtain ⟨c0, c1, c2, c3, c4⟩ := (HB1.out.only HO.out (fun f => f)).1 k k2
          have HAV : Hid (∀ w1, _) := Lib.hid (fun w1 => left_any (A.getD k zA) w1 hpt)
          generalize A.getD k zA = ac at *
          obtain ⟨at_, ac, ae, au, ah⟩ := ac
          unfold aggA at HAV
          dsimp only at c0 c1 c2 c3 c4 hdd HAV
          obtain ⟨-, -, -, ⟨u1, u2⟩, ⟨g1, g2⟩⟩ := hpt
          dsimp only at u1 u2 g1 g2
          have q1 : IntKind.i64.wrap (au + ah) = au + ah := w64 _ (by omega) (by omega)
          have q2 : IntKind.i64.wrap (au + ah + x) = au + ah + x := w64 _ (by omega) (by omega)
          generalize ls.getD i 0 = lim at *
          generalize left ⟨at_, ac, ae, au, ah⟩ = lf at *
          have HDD := Lib.hid (HD.out.trans hdd)
          clear hcell hcell2 hdd hk u1 u2 g1 g2
          have HSL : Hid (∀ w', Only (fun _ => False) wr w' → w'.cell? ⟨b, off + i, none⟩ = some (.int .i64 (k : Int)) ∧ w'.cell? ⟨p, k * 5, none⟩ = some (.int .i64 at_) ∧ w'.cell? ⟨p, k * 5 + 1, none⟩ = some (.int .i64 ac) ∧ w'.cell? ⟨p, k * 5 + 2, none⟩ = some (.int .i64 ae) ∧ w'.cell? ⟨p, k * 5 + 3, none⟩ = some (.int .i64 au) ∧ w'.cell? ⟨p, k * 5 + 4, none⟩ = some (.int .i64 ah)) := Lib.hid (fun w' ho => ⟨ho.cell' cx (fun f => f), ho.cell' c0 (fun f => f), ho.cell' c1 (fun f => f), ho.cell' c2 (fun f => f), ho.cell' c3 (fun f => f), ho.cell' c4 (fun f => f)⟩)
          go_upto_region 6 with fail
          refine wp_region_noPanic ?_
          refine late.region (fun w' => w'.cell? ⟨b, off + i, none⟩ = some (.int .i64 (k : Int)) ∧ w'.cell? ⟨p, k * 5, none⟩ = some (.int .i64 at_) ∧ w'.cell? ⟨p, k * 5 + 1, none⟩ = some (.int .i64 ac) ∧ w'.cell? ⟨p, k * 5 + 2, none⟩ = some (.int .i64 ae) ∧ w'.cell? ⟨p, k * 5 + 3, none⟩ = some (.int .i64 au) ∧ w'.cell? ⟨p, k * 5 + 4, none⟩ = some (.int .i64 ah)) (fun j => [].contains j) (by kernel_rfl) (HSL.out _ (Only.refl _ _).drew) (fun hHeld => ?_)
          obtain ⟨z0, hz0⟩ : ∃ x, x = wr.drew := ⟨_, rfl⟩
          rw [← hz0] at hHeld ⊢
          have hou : Only (fun _ => False) wr z0 := by rw [hz0]; exact (Only.refl _ _).drew
          clear hz0
          refine late.take (i := 0) [5, 6, 7, 8, 10] (v := ?_) rfl (by kernel_rfl) (by kernel_rfl) (by kernel_rfl) (by kernel_rfl) (fun _ _ _ h => h) (Or.inl ⟨by rfl, ?_⟩) (by assumption) ?_
          rotate_left 1
          · intro w' hSw
            try dsimp only at hSw
            go_simp
            try with_reducible rfl
          try simp only [List.getElem_toArray, List.getElem_cons_zero, Act.put, List.setIfInBounds_toArray, List.set_cons_zero, List.set_cons_succ]
          refine late.take (i := 1) [3, 4, 7, 8, 10] (v := ?_) rfl (by kernel_rfl) (by kernel_rfl) (by kernel_rfl) (by kernel_rfl) (fun _ _ _ h => h) (Or.inl ⟨by rfl, ?_⟩) (by assumption) ?_
          rotate_left 1
          · intro w' hSw
            try dsimp only at hSw
            go_simp
            try with_reducible rfl
          try simp only [List.getElem_toArray, List.getElem_cons_zero, List.getElem_cons_succ, Act.put, List.setIfInBounds_toArray, List.set_cons_zero, List.set_cons_succ]
          refine late.take (i := 2) [3, 4, 7, 8, 10] (v := ?_) rfl (by kernel_rfl) (by kernel_rfl) (by kernel_rfl) (by kernel_rfl) (fun _ _ _ h => h) (Or.inl ⟨by rfl, ?_⟩) (by assumption) ?_
          rotate_left 1
          · intro w' hSw
            try dsimp only at hSw
            go_simp
            try with_reducible rfl
          try simp only [List.getElem_toArray, List.getElem_cons_zero, List.getElem_cons_succ, Act.put, List.setIfInBounds_toArray, List.set_cons_zero, List.set_cons_succ]
          refine late.take (i := 3) [4, 7, 8, 10] (v := ?_) rfl (by kernel_rfl) (by kernel_rfl) (by kernel_rfl) (by kernel_rfl) (fun _ _ _ h => h) (Or.inl ⟨by rfl, ?_⟩) (by assumption) ?_
          rotate_left 1
          · intro w' hSw
            try dsimp only at hSw
            go_simp
            try with_reducible rfl
          try simp only [List.getElem_toArray, List.getElem_cons_zero, List.getElem_cons_succ, Act.put, List.setIfInBounds_toArray, List.set_cons_zero, List.set_cons_succ]
          refine late.take (i := 4) [7, 8, 10] (v := ?_) rfl (by kernel_rfl) (by kernel_rfl) (by kernel_rfl) (by kernel_rfl) (fun _ _ _ h => h) (Or.inl ⟨by rfl, ?_⟩) (by assumption) ?_
          rotate_left 1
          · intro w' hSw
            try dsimp only at hSw
            go_simp
            try with_reducible rfl
          try simp only [List.getElem_toArray, List.getElem_cons_zero, List.getElem_cons_succ, Act.put, List.setIfInBounds_toArray, List.set_cons_zero, List.set_cons_succ]
          refine late.take (i := 5) [6, 7, 8, 10] (v := ?_) rfl (by kernel_rfl) (by kernel_rfl) (by kernel_rfl) (by kernel_rfl) (fun _ _ _ h => h) (Or.inl ⟨by rfl, ?_⟩) (by assumption) ?_
          rotate_left 1
          · intro w' hSw
            try dsimp only at hSw
            go_simp
            try with_reducible rfl
          try simp only [List.getElem_toArray, List.getElem_cons_zero, List.getElem_cons_succ, Act.put, List.setIfInBounds_toArray, List.set_cons_zero, List.set_cons_succ]
          refine late.take (i := 6) [7, 8, 10] (v := ?_) rfl (by kernel_rfl) (by kernel_rfl) (by kernel_rfl) (by kernel_rfl) (fun _ _ _ h => h) (Or.inl ⟨by rfl, ?_⟩) (by assumption) ?_
          rotate_left 1
          · intro w' hSw
            try dsimp only at hSw
            go_simp
            try with_reducible rfl
          try simp only [List.getElem_toArray, List.getElem_cons_zero, List.getElem_cons_succ, Act.put, List.setIfInBounds_toArray, List.set_cons_zero, List.set_cons_succ]
          refine late.take (i := 7) [8, 10] (v := ?_) rfl (by kernel_rfl) (by kernel_rfl) (by kernel_rfl) (by kernel_rfl) (fun _ _ _ h => h) (Or.inl ⟨by rfl, ?_⟩) (by assumption) ?_
          rotate_left 1
          · intro w' hSw
            try dsimp only at hSw
            go_simp
            try with_reducible rfl
          try simp only [List.getElem_toArray, List.getElem_cons_zero, List.getElem_cons_succ, Act.put, List.setIfInBounds_toArray, List.set_cons_zero, List.set_cons_succ]
          refine late.take (i := 8) [10] (v := ?_) rfl (by kernel_rfl) (by kernel_rfl) (by kernel_rfl) (by kernel_rfl) (fun _ _ _ h => h) (Or.inl ⟨by rfl, ?_⟩) (by assumption) ?_
          rotate_left 1
          · intro w' hSw
            try dsimp only at hSw
            go_simp
            try with_reducible rfl
          try simp only [List.getElem_toArray, List.getElem_cons_zero, List.getElem_cons_succ, Act.put, List.setIfInBounds_toArray, List.set_cons_zero, List.set_cons_succ]
          refine late.ready (rs := [9]) (by kernel_rfl) (by simp) ?_
          refine late.Each.cons rfl (fun K hK => ?_) late.Each.nil
          try simp only [List.getElem_toArray, List.getElem_cons_zero, List.getElem_cons_succ]
          go_simp
          obtain ⟨z1, hz1⟩ : ∃ x, x = z0.alloc (.cells #[.int .i64 0, .int .i64 0, .int .i64 0, .int .i64 0, .int .i64 0] 69) := ⟨_, rfl⟩
          obtain ⟨g, hg⟩ : ∃ x, x = z0.heap.size := ⟨_, rfl⟩
          rw [← hz1, ← hg]
          have ho1 : Only (fun _ => False) wr z1 := by rw [hz1]; exact hou.alloc _
          have hgs : wr.heap.size ≤ g := by rw [hg]; exact hou.size
          have hfive : Five z1 g := by rw [hz1]; exact Five.new hg
          have HFV := Lib.hid hfive
          obtain ⟨⟨y0, hy0'⟩, ⟨y1, hy1'⟩, ⟨y2, hy2'⟩, ⟨y3, hy3'⟩, ⟨y4, hy4'⟩, f0, f1, f2, f3, f4⟩ := hfive
          clear hz1 hg hou
          refine hK.out _ _ (fun _ => HSL.out _ ho1) (fun hHeld1 => ?_)
          replace hHeld1 := hHeld1 rfl
          clear hK K
          try simp only [List.getElem_toArray, List.getElem_cons_zero, List.getElem_cons_succ, Act.put, List.setIfInBounds_toArray, List.set_cons_zero, List.set_cons_succ]
          refine late.ready (rs := [10]) (by kernel_rfl) (by simp) ?_
          refine late.Each.cons rfl (fun K hK => ?_) late.Each.nil
          try simp only [List.getElem_toArray, List.getElem_cons_zero, List.getElem_cons_succ]
          go_simp
          obtain ⟨z2, hz2⟩ : ∃ x, x = put50 z1 g (.int .i64 at_) (.int .i64 ac) (.int .i64 ae) (.int .i64 au) (.int .i64 ah) := ⟨_, rfl⟩
          have HZ2 := Lib.hid hz2
          unfold put50 at hz2
          rw [← hz2]
          have ho2 : Only (fun _ => False) wr z2 := ho1.then (by rw [HZ2.out, put50_eq]; exact put5_only _ _ _ _ _ _ _ _) (fun i hi e => by omega)
          have hbx : (z2.cell? ⟨g, 0, none⟩ = some (.int .i64 at_) ∧ z2.cell? ⟨g, 1, none⟩ = some (.int .i64 ac) ∧ z2.cell? ⟨g, 2, none⟩ = some (.int .i64 ae) ∧ z2.cell? ⟨g, 3, none⟩ = some (.int .i64 au) ∧ z2.cell? ⟨g, 4, none⟩ = some (.int .i64 ah)) := by rw [HZ2.out]; exact HFV.out.put _ _ _ _ _
          obtain ⟨e0, e1, e2, e3, e4⟩ := hbx
          replace f3 : z2.frozen? ⟨g, 3, none⟩ = false := by rw [HZ2.out, put50_eq, put5_froz]; exact f3
          replace f4 : z2.frozen? ⟨g, 4, none⟩ = false := by rw [HZ2.out, put50_eq, put5_froz]; exact f4
          clear hz2 HZ2 HFV hy0' hy1' hy2' hy3' hy4' f0 f1 f2 ho1
          refine hK.out _ _ (fun _ => HSL.out _ ho2) (fun hHeld2 => ?_)
          replace hHeld2 := hHeld2 rfl
          clear hK K
          try simp only [List.getElem_toArray, List.getElem_cons_zero, List.getElem_cons_succ, Act.put, List.setIfInBounds_toArray, List.set_cons_zero, List.set_cons_succ]
          refine late.done (by kernel_rfl) ?_ _
          refine NoPanic.normal ?_
          clear f3 f4
          go_wp2_with fail
          refine (HAV.out _).mono ?_
          rintro _ w9 ⟨rfl, ho⟩
          have HO9 := Lib.hid (HO.out.trans (ho2.trans ho))
          replace e3 := ho.cell' e3 (fun f => f)
          replace e4 := ho.cell' e4 (fun f => f)
          replace cm := (ho2.trans ho).cell' cm (fun f => f)
          clear ho ho2 HAV e0 e1 e2 cx c0 c1 c2 c3 c4 HSL
          by_cases hlt : lf < x
          · have HFA : Hid (E = 9 ∧ A' = A) := Lib.hid (by
              have e : E = 9 := by rw [HE0.out, HDD.out, if_pos hlt]
              exact ⟨e, by rw [HT0.out, e]; rfl⟩)
            go_wp2_with fail
            go_ret
            exact ⟨by rw [HFA.out.1]; rfl, by rw [HFA.out.2]; exact HB1.out.only HO9.out (fun f => f), Only.p p (HO1.out.trans HO9.out)⟩
          · have HLT := Lib.hid hlt
            go_upto_region 9 with fail
            by_cases hm0 : 0 ≤ lim
            · by_cases hgt : lim < au + ah + x
              · have HFA : Hid (E = 18 ∧ A' = A) := Lib.hid (by
                  have e : E = 18 := by rw [HE0.out, HDD.out, if_neg (show ¬ lf < x from by have := HLT.out; omega), if_pos ⟨hm0, hgt⟩]
                  exact ⟨e, by rw [HT0.out, e]; rfl⟩)
                refine wp_region_noPanic ?_
                refine late.region (fun w' => ∀ q, w'.cell? q = w9.cell? q) (fun j => [].contains j) (by kernel_rfl) (fun q => by simp) (fun hHeld => ?_)
                refine late.take (i := 0) [2, 3, 4, 5, 6, 7, 8, 9, 10, 11, 12, 13, 14, 15, 16, 17, 18] (v := ?_) rfl (by kernel_rfl) (by kernel_rfl) (by kernel_rfl) (by kernel_rfl) (fun _ _ _ h => h) (Or.inl ⟨by rfl, ?_⟩) (by assumption) ?_
                rotate_left 1
                · intro w' hSw
                  try dsimp only at hSw
                  go_simp
                  try with_reducible rfl
                try simp only [List.getElem_toArray, List.getElem_cons_zero, Act.put, List.setIfInBounds_toArray, List.set_cons_zero, List.set_cons_succ]
                refine late.take (i := 1) [2, 3, 4, 5, 6, 7, 8, 9, 10, 11, 12, 13, 14, 15, 16, 17, 18] (v := ?_) rfl (by kernel_rfl) (by kernel_rfl) (by kernel_rfl) (by kernel_rfl) (fun _ _ _ h => h) (Or.inl ⟨by rfl, ?_⟩) (by assumption) ?_
                rotate_left 1
                · intro w' hSw
                  try dsimp only at hSw
                  go_simp
                  try with_reducible rfl
                try simp only [List.getElem_toArray, List.getElem_cons_zero, List.getElem_cons_succ, Act.put, List.setIfInBounds_toArray, List.set_cons_zero, List.set_cons_succ]
                refine late.take (i := 2) [3, 4, 5, 6, 7, 8, 9, 10, 11, 12, 13, 14, 15, 16, 17, 18] (v := ?_) rfl (by kernel_rfl) (by kernel_rfl) (by kernel_rfl) (by kernel_rfl) (fun _ _ _ h => h) (Or.inl ⟨by rfl, ?_⟩) (by assumption) ?_
                rotate_left 1
                · intro w' hSw
                  try dsimp only at hSw
                  go_simp
                  try with_reducible rfl
                try simp only [List.getElem_toArray, List.getElem_cons_zero, List.getElem_cons_succ, Act.put, List.setIfInBounds_toArray, List.set_cons_zero, List.set_cons_succ]
                refine late.take (i := 3) [4, 5, 6, 7, 8, 9, 10, 11, 12, 13, 14, 15, 16, 17, 18] (v := ?_) rfl (by kernel_rfl) (by kernel_rfl) (by kernel_rfl) (by kernel_rfl) (fun _ _ _ h => h) (Or.inl ⟨by rfl, ?_⟩) (by assumption) ?_
                rotate_left 1
                · intro w' hSw
                  try dsimp only at hSw
                  go_simp
                  try with_reducible rfl
                try simp only [List.getElem_toArray, List.getElem_cons_zero, List.getElem_cons_succ, Act.put, List.setIfInBounds_toArray, List.set_cons_zero, List.set_cons_succ]
                refine late.take (i := 4) [5, 6, 7, 8, 9, 10, 11, 12, 13, 14, 15, 16, 17, 18] (v := ?_) rfl (by kernel_rfl) (by kernel_rfl) (by kernel_rfl) (by kernel_rfl) (fun _ _ _ h => h) (Or.inl ⟨by rfl, ?_⟩) (by assumption) ?_
                rotate_left 1
                · intro w' hSw
                  try dsimp only at hSw
                  go_simp
                  try with_reducible rfl
                try simp only [List.getElem_toArray, List.getElem_cons_zero, List.getElem_cons_succ, Act.put, List.setIfInBounds_toArray, List.set_cons_zero, List.set_cons_succ]
                refine late.take (i := 5) [6, 7, 8, 9, 10, 11, 12, 13, 14, 15, 16, 17, 18] (v := ?_) rfl (by kernel_rfl) (by kernel_rfl) (by kernel_rfl) (by kernel_rfl) (fun _ _ _ h => h) (Or.inl ⟨by rfl, ?_⟩) (by assumption) ?_
                rotate_left 1
                · intro w' hSw
                  try dsimp only at hSw
                  go_simp
                  try with_reducible rfl
                try simp only [List.getElem_toArray, List.getElem_cons_zero, List.getElem_cons_succ, Act.put, List.setIfInBounds_toArray, List.set_cons_zero, List.set_cons_succ]
                refine late.take (i := 6) [7, 10, 12, 17, 18] (v := ?_) rfl (by kernel_rfl) (by kernel_rfl) (by kernel_rfl) (by kernel_rfl) (fun _ _ _ h => h) (Or.inl ⟨by rfl, ?_⟩) (by assumption) ?_
                rotate_left 1
                · intro w' hSw
                  try dsimp only at hSw
                  go_simp
                  try with_reducible rfl
                try simp only [List.getElem_toArray, List.getElem_cons_zero, List.getElem_cons_succ, Act.put, List.setIfInBounds_toArray, List.set_cons_zero, List.set_cons_succ]
                refine late.take (i := 7) [10, 12, 17, 18] (v := ?_) rfl (by kernel_rfl) (by kernel_rfl) (by kernel_rfl) (by kernel_rfl) (fun _ _ _ h => h) (Or.inl ⟨by rfl, ?_⟩) (by assumption) ?_
                rotate_left 1
                · intro w' hSw
                  try dsimp only at hSw
                  go_simp
                  try with_reducible rfl
                try simp only [List.getElem_toArray, List.getElem_cons_zero, List.getElem_cons_succ, Act.put, List.setIfInBounds_toArray, List.set_cons_zero, List.set_cons_succ]
                refine late.take (i := 8) [9, 10, 12, 17, 18] (v := ?_) rfl (by kernel_rfl) (by kernel_rfl) (by kernel_rfl) (by kernel_rfl) (fun _ _ _ h => h) (Or.inl ⟨by rfl, ?_⟩) (by assumption) ?_
                rotate_left 1
                · intro w' hSw
                  try dsimp only at hSw
                  go_simp
                  try with_reducible rfl
                try simp only [List.getElem_toArray, List.getElem_cons_zero, List.getElem_cons_succ, Act.put, List.setIfInBounds_toArray, List.set_cons_zero, List.set_cons_succ]
                refine late.take (i := 9) [10, 12, 17, 18] (v := ?_) rfl (by kernel_rfl) (by kernel_rfl) (by kernel_rfl) (by kernel_rfl) (fun _ _ _ h => h) (Or.inl ⟨by rfl, ?_⟩) (by assumption) ?_
                rotate_left 1
                · intro w' hSw
                  try dsimp only at hSw
                  go_simp
                  try with_reducible rfl
                try simp only [List.getElem_toArray, List.getElem_cons_zero, List.getElem_cons_succ, Act.put, List.setIfInBounds_toArray, List.set_cons_zero, List.set_cons_succ]
                refine late.take (i := 10) [12, 17, 18] (v := ?_) rfl (by kernel_rfl) (by kernel_rfl) (by kernel_rfl) (by kernel_rfl) (fun _ _ _ h => h) (Or.inl ⟨by rfl, ?_⟩) (by assumption) ?_
                rotate_left 1
                · intro w' hSw
                  try dsimp only at hSw
                  go_simp
                  try with_reducible rfl
                try simp only [List.getElem_toArray, List.getElem_cons_zero, List.getElem_cons_succ, Act.put, List.setIfInBounds_toArray, List.set_cons_zero, List.set_cons_succ]
                refine late.take (i := 11) [12, 17, 18] (v := ?_) rfl (by kernel_rfl) (by kernel_rfl) (by kernel_rfl) (by kernel_rfl) (fun _ _ _ h => h) (Or.inl ⟨by rfl, ?_⟩) (by assumption) ?_
                rotate_left 1
                · intro w' hSw
                  try dsimp only at hSw
                  go_simp
                  try with_reducible rfl
                try simp only [List.getElem_toArray, List.getElem_cons_zero, List.getElem_cons_succ, Act.put, List.setIfInBounds_toArray, List.set_cons_zero, List.set_cons_succ]
                refine late.take (i := 12) [17, 18] (v := ?_) rfl (by kernel_rfl) (by kernel_rfl) (by kernel_rfl) (by kernel_rfl) (fun _ _ _ h => h) (Or.inl ⟨by rfl, ?_⟩) (by assumption) ?_
                rotate_left 1
                · intro w' hSw
                  try dsimp only at hSw
                  go_simp
                  try with_reducible rfl
                try simp only [List.getElem_toArray, List.getElem_cons_zero, List.getElem_cons_succ, Act.put, List.setIfInBounds_toArray, List.set_cons_zero, List.set_cons_succ]
                refine late.take (i := 13) [15, 16, 17, 18] (v := ?_) rfl (by kernel_rfl) (by kernel_rfl) (by kernel_rfl) (by kernel_rfl) (fun _ _ _ h => h) (Or.inl ⟨by rfl, ?_⟩) (by assumption) ?_
                rotate_left 1
                · intro w' hSw
                  try dsimp only at hSw
                  go_simp
                  try with_reducible rfl
                try simp only [List.getElem_toArray, List.getElem_cons_zero, List.getElem_cons_succ, Act.put, List.setIfInBounds_toArray, List.set_cons_zero, List.set_cons_succ]
                refine late.take (i := 14) [15, 16, 17, 18] (v := ?_) rfl (by kernel_rfl) (by kernel_rfl) (by kernel_rfl) (by kernel_rfl) (fun _ _ _ h => h) (Or.inl ⟨by rfl, ?_⟩) (by assumption) ?_
                rotate_left 1
                · intro w' hSw
                  try dsimp only at hSw
                  go_simp
                  try with_reducible rfl
                try simp only [List.getElem_toArray, List.getElem_cons_zero, List.getElem_cons_succ, Act.put, List.setIfInBounds_toArray, List.set_cons_zero, List.set_cons_succ]
                refine late.take (i := 15) [16, 17, 18] (v := ?_) rfl (by kernel_rfl) (by kernel_rfl) (by kernel_rfl) (by kernel_rfl) (fun _ _ _ h => h) (Or.inl ⟨by rfl, ?_⟩) (by assumption) ?_
                rotate_left 1
                · intro w' hSw
                  try dsimp only at hSw
                  go_simp
                  try with_reducible rfl
                try simp only [List.getElem_toArray, List.getElem_cons_zero, List.getElem_cons_succ, Act.put, List.setIfInBounds_toArray, List.set_cons_zero, List.set_cons_succ]
                refine late.take (i := 16) [17, 18] (v := ?_) rfl (by kernel_rfl) (by kernel_rfl) (by kernel_rfl) (by kernel_rfl) (fun _ _ _ h => h) (Or.inl ⟨by rfl, ?_⟩) (by assumption) ?_
                rotate_left 1
                · intro w' hSw
                  try dsimp only at hSw
                  go_simp
                  try with_reducible rfl
                try simp only [List.getElem_toArray, List.getElem_cons_zero, List.getElem_cons_succ, Act.put, List.setIfInBounds_toArray, List.set_cons_zero, List.set_cons_succ]
                refine late.take (i := 17) [18] (v := ?_) rfl (by kernel_rfl) (by kernel_rfl) (by kernel_rfl) (by kernel_rfl) (fun _ _ _ h => h) (Or.inl ⟨by rfl, ?_⟩) (by assumption) ?_
                rotate_left 1
                · intro w' hSw
                  try dsimp only at hSw
                  go_simp
                  try with_reducible rfl
                try simp only [List.getElem_toArray, List.getElem_cons_zero, List.getElem_cons_succ, Act.put, List.setIfInBounds_toArray, List.set_cons_zero, List.set_cons_succ]
                refine late.take (i := 18) [] (v := ?_) rfl (by kernel_rfl) (by kernel_rfl) (by kernel_rfl) (by kernel_rfl) (fun _ _ _ h => h) (Or.inl ⟨by rfl, ?_⟩) (by assumption) ?_
                rotate_left 1
                · intro w' hSw
                  try dsimp only at hSw
                  go_simp
                  try with_reducible rfl
                try simp only [List.getElem_toArray, List.getElem_cons_zero, List.getElem_cons_succ, Act.put, List.setIfInBounds_toArray, List.set_cons_zero, List.set_cons_succ]
                refine late.done (by kernel_rfl) ?_ _
                refine NoPanic.normal ?_
                have HOD := Lib.hid HO9.out.drew
                go_wp2_with fail
                go_ret
                exact ⟨by rw [HFA.out.1]; rfl, by rw [HFA.out.2]; exact HB1.out.only HOD.out (fun f => f), Only.p p (HO1.out.trans HOD.out)⟩
              · have HD2 : Hid (holdR A x l ls = holdR A x (l.drop (i + 1)) (ls.drop (i + 1))) := Lib.hid (by rw [HDD.out, if_neg (show ¬ lf < x from by have := HLT.out; omega), if_neg (fun q => hgt q.2)])
                refine wp_region_noPanic ?_
                refine late.region (fun w' => ∀ q, w'.cell? q = w9.cell? q) (fun j => [].contains j) (by kernel_rfl) (fun q => by simp) (fun hHeld => ?_)
                refine late.take (i := 0) [2, 3, 4, 5, 6, 7, 8, 9, 10, 11, 12, 13, 14, 15, 16, 17, 18] (v := ?_) rfl (by kernel_rfl) (by kernel_rfl) (by kernel_rfl) (by kernel_rfl) (fun _ _ _ h => h) (Or.inl ⟨by rfl, ?_⟩) (by assumption) ?_
                rotate_left 1
                · intro w' hSw
                  try dsimp only at hSw
                  go_simp
                  try with_reducible rfl
                try simp only [List.getElem_toArray, List.getElem_cons_zero, Act.put, List.setIfInBounds_toArray, List.set_cons_zero, List.set_cons_succ]
                refine late.take (i := 1) [2, 3, 4, 5, 6, 7, 8, 9, 10, 11, 12, 13, 14, 15, 16, 17, 18] (v := ?_) rfl (by kernel_rfl) (by kernel_rfl) (by kernel_rfl) (by kernel_rfl) (fun _ _ _ h => h) (Or.inl ⟨by rfl, ?_⟩) (by assumption) ?_
                rotate_left 1
                · intro w' hSw
                  try dsimp only at hSw
                  go_simp
                  try with_reducible rfl
                try simp only [List.getElem_toArray, List.getElem_cons_zero, List.getElem_cons_succ, Act.put, List.setIfInBounds_toArray, List.set_cons_zero, List.set_cons_succ]
                refine late.take (i := 2) [3, 4, 5, 6, 7, 8, 9, 10, 11, 12, 13, 14, 15, 16, 17, 18] (v := ?_) rfl (by kernel_rfl) (by kernel_rfl) (by kernel_rfl) (by kernel_rfl) (fun _ _ _ h => h) (Or.inl ⟨by rfl, ?_⟩) (by assumption) ?_
                rotate_left 1
                · intro w' hSw
                  try dsimp only at hSw
                  go_simp
                  try with_reducible rfl
                try simp only [List.getElem_toArray, List.getElem_cons_zero, List.getElem_cons_succ, Act.put, List.setIfInBounds_toArray, List.set_cons_zero, List.set_cons_succ]
                refine late.take (i := 3) [4, 5, 6, 7, 8, 9, 10, 11, 12, 13, 14, 15, 16, 17, 18] (v := ?_) rfl (by kernel_rfl) (by kernel_rfl) (by kernel_rfl) (by kernel_rfl) (fun _ _ _ h => h) (Or.inl ⟨by rfl, ?_⟩) (by assumption) ?_
                rotate_left 1
                · intro w' hSw
                  try dsimp only at hSw
                  go_simp
                  try with_reducible rfl
                try simp only [List.getElem_toArray, List.getElem_cons_zero, List.getElem_cons_succ, Act.put, List.setIfInBounds_toArray, List.set_cons_zero, List.set_cons_succ]
                refine late.take (i := 4) [5, 6, 7, 8, 9, 10, 11, 12, 13, 14, 15, 16, 17, 18] (v := ?_) rfl (by kernel_rfl) (by kernel_rfl) (by kernel_rfl) (by kernel_rfl) (fun _ _ _ h => h) (Or.inl ⟨by rfl, ?_⟩) (by assumption) ?_
                rotate_left 1
                · intro w' hSw
                  try dsimp only at hSw
                  go_simp
                  try with_reducible rfl
                try simp only [List.getElem_toArray, List.getElem_cons_zero, List.getElem_cons_succ, Act.put, List.setIfInBounds_toArray, List.set_cons_zero, List.set_cons_succ]
                refine late.take (i := 5) [6, 7, 8, 9, 10, 11, 12, 13, 14, 15, 16, 17, 18] (v := ?_) rfl (by kernel_rfl) (by kernel_rfl) (by kernel_rfl) (by kernel_rfl) (fun _ _ _ h => h) (Or.inl ⟨by rfl, ?_⟩) (by assumption) ?_
                rotate_left 1
                · intro w' hSw
                  try dsimp only at hSw
                  go_simp
                  try with_reducible rfl
                try simp only [List.getElem_toArray, List.getElem_cons_zero, List.getElem_cons_succ, Act.put, List.setIfInBounds_toArray, List.set_cons_zero, List.set_cons_succ]
                refine late.take (i := 6) [7, 10, 12, 17, 18] (v := ?_) rfl (by kernel_rfl) (by kernel_rfl) (by kernel_rfl) (by kernel_rfl) (fun _ _ _ h => h) (Or.inl ⟨by rfl, ?_⟩) (by assumption) ?_
                rotate_left 1
                · intro w' hSw
                  try dsimp only at hSw
                  go_simp
                  try with_reducible rfl
                try simp only [List.getElem_toArray, List.getElem_cons_zero, List.getElem_cons_succ, Act.put, List.setIfInBounds_toArray, List.set_cons_zero, List.set_cons_succ]
                refine late.take (i := 7) [10, 12, 17, 18] (v := ?_) rfl (by kernel_rfl) (by kernel_rfl) (by kernel_rfl) (by kernel_rfl) (fun _ _ _ h => h) (Or.inl ⟨by rfl, ?_⟩) (by assumption) ?_
                rotate_left 1
                · intro w' hSw
                  try dsimp only at hSw
                  go_simp
                  try with_reducible rfl
                try simp only [List.getElem_toArray, List.getElem_cons_zero, List.getElem_cons_succ, Act.put, List.setIfInBounds_toArray, List.set_cons_zero, List.set_cons_succ]
                refine late.take (i := 8) [9, 10, 12, 17, 18] (v := ?_) rfl (by kernel_rfl) (by kernel_rfl) (by kernel_rfl) (by kernel_rfl) (fun _ _ _ h => h) (Or.inl ⟨by rfl, ?_⟩) (by assumption) ?_
                rotate_left 1
                · intro w' hSw
                  try dsimp only at hSw
                  go_simp
                  try with_reducible rfl
                try simp only [List.getElem_toArray, List.getElem_cons_zero, List.getElem_cons_succ, Act.put, List.setIfInBounds_toArray, List.set_cons_zero, List.set_cons_succ]
                refine late.take (i := 9) [10, 12, 17, 18] (v := ?_) rfl (by kernel_rfl) (by kernel_rfl) (by kernel_rfl) (by kernel_rfl) (fun _ _ _ h => h) (Or.inl ⟨by rfl, ?_⟩) (by assumption) ?_
                rotate_left 1
                · intro w' hSw
                  try dsimp only at hSw
                  go_simp
                  try with_reducible rfl
                try simp only [List.getElem_toArray, List.getElem_cons_zero, List.getElem_cons_succ, Act.put, List.setIfInBounds_toArray, List.set_cons_zero, List.set_cons_succ]
                refine late.take (i := 10) [12, 17, 18] (v := ?_) rfl (by kernel_rfl) (by kernel_rfl) (by kernel_rfl) (by kernel_rfl) (fun _ _ _ h => h) (Or.inl ⟨by rfl, ?_⟩) (by assumption) ?_
                rotate_left 1
                · intro w' hSw
                  try dsimp only at hSw
                  go_simp
                  try with_reducible rfl
                try simp only [List.getElem_toArray, List.getElem_cons_zero, List.getElem_cons_succ, Act.put, List.setIfInBounds_toArray, List.set_cons_zero, List.set_cons_succ]
                refine late.take (i := 11) [12, 17, 18] (v := ?_) rfl (by kernel_rfl) (by kernel_rfl) (by kernel_rfl) (by kernel_rfl) (fun _ _ _ h => h) (Or.inl ⟨by rfl, ?_⟩) (by assumption) ?_
                rotate_left 1
                · intro w' hSw
                  try dsimp only at hSw
                  go_simp
                  try with_reducible rfl
                try simp only [List.getElem_toArray, List.getElem_cons_zero, List.getElem_cons_succ, Act.put, List.setIfInBounds_toArray, List.set_cons_zero, List.set_cons_succ]
                refine late.take (i := 12) [17, 18] (v := ?_) rfl (by kernel_rfl) (by kernel_rfl) (by kernel_rfl) (by kernel_rfl) (fun _ _ _ h => h) (Or.inl ⟨by rfl, ?_⟩) (by assumption) ?_
                rotate_left 1
                · intro w' hSw
                  try dsimp only at hSw
                  go_simp
                  try with_reducible rfl
                try simp only [List.getElem_toArray, List.getElem_cons_zero, List.getElem_cons_succ, Act.put, List.setIfInBounds_toArray, List.set_cons_zero, List.set_cons_succ]
                refine late.take (i := 13) [15, 16, 17, 18] (v := ?_) rfl (by kernel_rfl) (by kernel_rfl) (by kernel_rfl) (by kernel_rfl) (fun _ _ _ h => h) (Or.inl ⟨by rfl, ?_⟩) (by assumption) ?_
                rotate_left 1
                · intro w' hSw
                  try dsimp only at hSw
                  go_simp
                  try with_reducible rfl
                try simp only [List.getElem_toArray, List.getElem_cons_zero, List.getElem_cons_succ, Act.put, List.setIfInBounds_toArray, List.set_cons_zero, List.set_cons_succ]
                refine late.take (i := 14) [15, 16, 17, 18] (v := ?_) rfl (by kernel_rfl) (by kernel_rfl) (by kernel_rfl) (by kernel_rfl) (fun _ _ _ h => h) (Or.inl ⟨by rfl, ?_⟩) (by assumption) ?_
                rotate_left 1
                · intro w' hSw
                  try dsimp only at hSw
                  go_simp
                  try with_reducible rfl
                try simp only [List.getElem_toArray, List.getElem_cons_zero, List.getElem_cons_succ, Act.put, List.setIfInBounds_toArray, List.set_cons_zero, List.set_cons_succ]
                refine late.take (i := 15) [16, 17, 18] (v := ?_) rfl (by kernel_rfl) (by kernel_rfl) (by kernel_rfl) (by kernel_rfl) (fun _ _ _ h => h) (Or.inl ⟨by rfl, ?_⟩) (by assumption) ?_
                rotate_left 1
                · intro w' hSw
                  try dsimp only at hSw
                  go_simp
                  try with_reducible rfl
                try simp only [List.getElem_toArray, List.getElem_cons_zero, List.getElem_cons_succ, Act.put, List.setIfInBounds_toArray, List.set_cons_zero, List.set_cons_succ]
                refine late.take (i := 16) [17, 18] (v := ?_) rfl (by kernel_rfl) (by kernel_rfl) (by kernel_rfl) (by kernel_rfl) (fun _ _ _ h => h) (Or.inl ⟨by rfl, ?_⟩) (by assumption) ?_
                rotate_left 1
                · intro w' hSw
                  try dsimp only at hSw
                  go_simp
                  try with_reducible rfl
                try simp only [List.getElem_toArray, List.getElem_cons_zero, List.getElem_cons_succ, Act.put, List.setIfInBounds_toArray, List.set_cons_zero, List.set_cons_succ]
                refine late.take (i := 17) [18] (v := ?_) rfl (by kernel_rfl) (by kernel_rfl) (by kernel_rfl) (by kernel_rfl) (fun _ _ _ h => h) (Or.inl ⟨by rfl, ?_⟩) (by assumption) ?_
                rotate_left 1
                · intro w' hSw
                  try dsimp only at hSw
                  go_simp
                  try with_reducible rfl
                try simp only [List.getElem_toArray, List.getElem_cons_zero, List.getElem_cons_succ, Act.put, List.setIfInBounds_toArray, List.set_cons_zero, List.set_cons_succ]
                refine late.take (i := 18) [] (v := ?_) rfl (by kernel_rfl) (by kernel_rfl) (by kernel_rfl) (by kernel_rfl) (fun _ _ _ h => h) (Or.inl ⟨by rfl, ?_⟩) (by assumption) ?_
                rotate_left 1
                · intro w' hSw
                  try dsimp only at hSw
                  go_simp
                  try with_reducible rfl
                try simp only [List.getElem_toArray, List.getElem_cons_zero, List.getElem_cons_succ, Act.put, List.setIfInBounds_toArray, List.set_cons_zero, List.set_cons_succ]
                refine late.done (by kernel_rfl) ?_ _
                refine NoPanic.normal ?_
                have HOD := Lib.hid HO9.out.drew
                go_wp2_with fail
                go_roundw
                case rel => exact ⟨i + 1, by omega, by go_num, HD2, HOD⟩
                case measure => simp [intOf]; omega
            · have HD2 : Hid (holdR A x l ls = holdR A x (l.drop (i + 1)) (ls.drop (i + 1))) := Lib.hid (by rw [HDD.out, if_neg (show ¬ lf < x from by have := HLT.out; omega), if_neg (fun q => hm0 q.1)])
              refine wp_region_noPanic ?_
              refine late.region (fun w' => ∀ q, w'.cell? q = w9.cell? q) (fun j => [].contains j) (by kernel_rfl) (fun q => by simp) (fun hHeld => ?_)
              refine late.take (i := 0) [2, 3, 4, 5, 6, 7, 8, 9, 10, 11, 12, 13, 14, 15, 16, 17, 18] (v := ?_) rfl (by kernel_rfl) (by kernel_rfl) (by kernel_rfl) (by kernel_rfl) (fun _ _ _ h => h) (Or.inl ⟨by rfl, ?_⟩) (by assumption) ?_
              rotate_left 1
              · intro w' hSw
                try dsimp only at hSw
                go_simp
                try with_reducible rfl
              try simp only [List.getElem_toArray, List.getElem_cons_zero, Act.put, List.setIfInBounds_toArray, List.set_cons_zero, List.set_cons_succ]
              refine late.take (i := 1) [2, 3, 4, 5, 6, 7, 8, 9, 10, 11, 12, 13, 14, 15, 16, 17, 18] (v := ?_) rfl (by kernel_rfl) (by kernel_rfl) (by kernel_rfl) (by kernel_rfl) (fun _ _ _ h => h) (Or.inl ⟨by rfl, ?_⟩) (by assumption) ?_
              rotate_left 1
              · intro w' hSw
                try dsimp only at hSw
                go_simp
                try with_reducible rfl
              try simp only [List.getElem_toArray, List.getElem_cons_zero, List.getElem_cons_succ, Act.put, List.setIfInBounds_toArray, List.set_cons_zero, List.set_cons_succ]
              refine late.take (i := 2) [3, 4, 5, 6, 7, 8, 9, 10, 11, 12, 13, 14, 15, 16, 17, 18] (v := ?_) rfl (by kernel_rfl) (by kernel_rfl) (by kernel_rfl) (by kernel_rfl) (fun _ _ _ h => h) (Or.inl ⟨by rfl, ?_⟩) (by assumption) ?_
              rotate_left 1
              · intro w' hSw
                try dsimp only at hSw
                go_simp
                try with_reducible rfl
              try simp only [List.getElem_toArray, List.getElem_cons_zero, List.getElem_cons_succ, Act.put, List.setIfInBounds_toArray, List.set_cons_zero, List.set_cons_succ]
              refine late.take (i := 3) [4, 5, 6, 7, 8, 9, 10, 11, 12, 13, 14, 15, 16, 17, 18] (v := ?_) rfl (by kernel_rfl) (by kernel_rfl) (by kernel_rfl) (by kernel_rfl) (fun _ _ _ h => h) (Or.inl ⟨by rfl, ?_⟩) (by assumption) ?_
              rotate_left 1
              · intro w' hSw
                try dsimp only at hSw
                go_simp
                try with_reducible rfl
              try simp only [List.getElem_toArray, List.getElem_cons_zero, List.getElem_cons_succ, Act.put, List.setIfInBounds_toArray, List.set_cons_zero, List.set_cons_succ]
              refine late.take (i := 4) [5, 6, 7, 8, 9, 10, 11, 12, 13, 14, 15, 16, 17, 18] (v := ?_) rfl (by kernel_rfl) (by kernel_rfl) (by kernel_rfl) (by kernel_rfl) (fun _ _ _ h => h) (Or.inl ⟨by rfl, ?_⟩) (by assumption) ?_
              rotate_left 1
              · intro w' hSw
                try dsimp only at hSw
                go_simp
                try with_reducible rfl
              try simp only [List.getElem_toArray, List.getElem_cons_zero, List.getElem_cons_succ, Act.put, List.setIfInBounds_toArray, List.set_cons_zero, List.set_cons_succ]
              refine late.take (i := 5) [6, 7, 8, 9, 10, 11, 12, 13, 14, 15, 16, 17, 18] (v := ?_) rfl (by kernel_rfl) (by kernel_rfl) (by kernel_rfl) (by kernel_rfl) (fun _ _ _ h => h) (Or.inl ⟨by rfl, ?_⟩) (by assumption) ?_
              rotate_left 1
              · intro w' hSw
                try dsimp only at hSw
                go_simp
                try with_reducible rfl
              try simp only [List.getElem_toArray, List.getElem_cons_zero, List.getElem_cons_succ, Act.put, List.setIfInBounds_toArray, List.set_cons_zero, List.set_cons_succ]
              refine late.take (i := 6) [7, 10, 12, 17, 18] (v := undef) rfl (by kernel_rfl) (by kernel_rfl) (by kernel_rfl) (by kernel_rfl) (fun _ _ _ h => h) (Or.inr ⟨rfl, rfl⟩) (by assumption) ?_
              try simp only [List.getElem_toArray, List.getElem_cons_zero, List.getElem_cons_succ, Act.put, List.setIfInBounds_toArray, List.set_cons_zero, List.set_cons_succ]
              refine late.take (i := 7) [10, 12, 17, 18] (v := undef) rfl (by kernel_rfl) (by kernel_rfl) (by kernel_rfl) (by kernel_rfl) (fun _ _ _ h => h) (Or.inr ⟨rfl, rfl⟩) (by assumption) ?_
              try simp only [List.getElem_toArray, List.getElem_cons_zero, List.getElem_cons_succ, Act.put, List.setIfInBounds_toArray, List.set_cons_zero, List.set_cons_succ]
              refine late.take (i := 8) [9, 10, 12, 17, 18] (v := undef) rfl (by kernel_rfl) (by kernel_rfl) (by kernel_rfl) (by kernel_rfl) (fun _ _ _ h => h) (Or.inr ⟨rfl, rfl⟩) (by assumption) ?_
              try simp only [List.getElem_toArray, List.getElem_cons_zero, List.getElem_cons_succ, Act.put, List.setIfInBounds_toArray, List.set_cons_zero, List.set_cons_succ]
              refine late.take (i := 9) [10, 12, 17, 18] (v := undef) rfl (by kernel_rfl) (by kernel_rfl) (by kernel_rfl) (by kernel_rfl) (fun _ _ _ h => h) (Or.inr ⟨rfl, rfl⟩) (by assumption) ?_
              try simp only [List.getElem_toArray, List.getElem_cons_zero, List.getElem_cons_succ, Act.put, List.setIfInBounds_toArray, List.set_cons_zero, List.set_cons_succ]
              refine late.take (i := 10) [12, 17, 18] (v := undef) rfl (by kernel_rfl) (by kernel_rfl) (by kernel_rfl) (by kernel_rfl) (fun _ _ _ h => h) (Or.inr ⟨rfl, rfl⟩) (by assumption) ?_
              try simp only [List.getElem_toArray, List.getElem_cons_zero, List.getElem_cons_succ, Act.put, List.setIfInBounds_toArray, List.set_cons_zero, List.set_cons_succ]
              refine late.take (i := 11) [12, 17, 18] (v := undef) rfl (by kernel_rfl) (by kernel_rfl) (by kernel_rfl) (by kernel_rfl) (fun _ _ _ h => h) (Or.inr ⟨rfl, rfl⟩) (by assumption) ?_
              try simp only [List.getElem_toArray, List.getElem_cons_zero, List.getElem_cons_succ, Act.put, List.setIfInBounds_toArray, List.set_cons_zero, List.set_cons_succ]
              refine late.take (i := 12) [17, 18] (v := undef) rfl (by kernel_rfl) (by kernel_rfl) (by kernel_rfl) (by kernel_rfl) (fun _ _ _ h => h) (Or.inr ⟨rfl, rfl⟩) (by assumption) ?_
              try simp only [List.getElem_toArray, List.getElem_cons_zero, List.getElem_cons_succ, Act.put, List.setIfInBounds_toArray, List.set_cons_zero, List.set_cons_succ]
              refine late.take (i := 13) [15, 16, 17, 18] (v := undef) rfl (by kernel_rfl) (by kernel_rfl) (by kernel_rfl) (by kernel_rfl) (fun _ _ _ h => h) (Or.inr ⟨rfl, rfl⟩) (by assumption) ?_
              try simp only [List.getElem_toArray, List.getElem_cons_zero, List.getElem_cons_succ, Act.put, List.setIfInBounds_toArray, List.set_cons_zero, List.set_cons_succ]
              refine late.take (i := 14) [15, 16, 17, 18] (v := undef) rfl (by kernel_rfl) (by kernel_rfl) (by kernel_rfl) (by kernel_rfl) (fun _ _ _ h => h) (Or.inr ⟨rfl, rfl⟩) (by assumption) ?_
              try simp only [List.getElem_toArray, List.getElem_cons_zero, List.getElem_cons_succ, Act.put, List.setIfInBounds_toArray, List.set_cons_zero, List.set_cons_succ]
              refine late.take (i := 15) [16, 17, 18] (v := undef) rfl (by kernel_rfl) (by kernel_rfl) (by kernel_rfl) (by kernel_rfl) (fun _ _ _ h => h) (Or.inr ⟨rfl, rfl⟩) (by assumption) ?_
              try simp only [List.getElem_toArray, List.getElem_cons_zero, List.getElem_cons_succ, Act.put, List.setIfInBounds_toArray, List.set_cons_zero, List.set_cons_succ]
              refine late.take (i := 16) [17, 18] (v := undef) rfl (by kernel_rfl) (by kernel_rfl) (by kernel_rfl) (by kernel_rfl) (fun _ _ _ h => h) (Or.inr ⟨rfl, rfl⟩) (by assumption) ?_
              try simp only [List.getElem_toArray, List.getElem_cons_zero, List.getElem_cons_succ, Act.put, List.setIfInBounds_toArray, List.set_cons_zero, List.set_cons_succ]
              refine late.take (i := 17) [18] (v := undef) rfl (by kernel_rfl) (by kernel_rfl) (by kernel_rfl) (by kernel_rfl) (fun _ _ _ h => h) (Or.inr ⟨rfl, rfl⟩) (by assumption) ?_
              try simp only [List.getElem_toArray, List.getElem_cons_zero, List.getElem_cons_succ, Act.put, List.setIfInBounds_toArray, List.set_cons_zero, List.set_cons_succ]
              refine late.take (i := 18) [] (v := ?_) rfl (by kernel_rfl) (by kernel_rfl) (by kernel_rfl) (by kernel_rfl) (fun _ _ _ h => h) (Or.inl ⟨by rfl, ?_⟩) (by assumption) ?_
              rotate_left 1
              · intro w' hSw
                try dsimp only at hSw
                go_simp
                try with_reducible rfl
              try simp only [List.getElem_toArray, List.getElem_cons_zero, List.getElem_cons_succ, Act.put, List.setIfInBounds_toArray, List.set_cons_zero, List.set_cons_succ]
              refine late.done (by kernel_rfl) ?_ _
              refine NoPanic.normal ?_
              have HOD := Lib.hid HO9.out.drew
              go_wp2_with fail
              go_roundw
              case rel => exact ⟨i + 1, by omega, by go_num, HD2, HOD⟩
              case measure => simp [intOf]; omega
        · obtain rfl : i = m := by omega
          have HFA : Hid (E = 0 ∧ A' = shT A l x 0) := Lib.hid (by
            have e : E = 0 := by rw [HE0.out, HD.out, HBN.out]
            exact ⟨e, by rw [HT0.out, if_pos e]⟩)
          have HB2 := Lib.hid (HB1.out.only HO.out (fun f => f))
          have HR2 := Lib.hid (HR1.out.only HO.out (fun _ _ f => f))
          have HO2 := Lib.hid (HO1.out.trans HO.out)
          rename World => w2
          clear HDR HD HB1 HR1 HR21 HO1 HO HBN
          go_wp2_with fail
          go_loopw [11] (fun iv wr => ∃ j : Nat, j ≤ i ∧ iv = .int .i64 (j : Int) ∧ Hid (BkAt wr p (shT A (l.take j) x 0)) ∧ Hid (Only (fun q => q = p) w2 wr)) (fun iv _ => i - (intOf iv).toNat)
          case atStart => exact ⟨0, by omega, rfl, Lib.hid (by rw [HF0.out]; exact HB2.out), Lib.hid (Only.refl _ _)⟩
          case round =>
            obtain ⟨j, hj, rfl, HBJ, HO⟩ := hrel
            rename World => wr
            by_cases h9 : j < i
            · obtain ⟨b, off, rfl, hcell⟩ := HR2.out.2.2.2.resolve_left (by omega)
              have hbp : ¬ b = p := HPA.out ⟨b, off, none⟩ rfl
              have cx := HO.out.cell' (hcell j h9) hbp
              have hj0 : (0 : Int) ≤ j := by omega
              have hj1 : (j : Int) < i := by omega
              obtain ⟨k, hk, k1, k2⟩ := HPK.out j h9
              have hpt := HND.out (l.getD j 0)
              have hat := HSA.out j h9
              have hss := HSS.out j h9
              have hsl := HSL0.out j
              rw [hat] at hss
              rw [hk, nd_nat] at hpt
              rw [hk, nd_nat, nd_nat] at hat
              rw [hk, nd_nat, Int.toNat_natCast] at hss
              rw [hk] at cx
              have hk2 : (k : Int) < 33 := by omega
              have hk0 : (0 : Int) ≤ k := by omega
              have HSS2 := Lib.hid hss
              have hbj := HBJ.out
              generalize shT A (l.take j) x 0 = AJ at *
              obtain ⟨c0, c1, c2, c3, c4⟩ := hbj.1 k k2
              rw [hat] at c0 c1 c2 c3 c4
              generalize A.getD k zA = ac at *
              obtain ⟨at_, ac, ae, au, ah⟩ := ac
              dsimp only at c0 c1 c2 c3 c4
              obtain ⟨-, -, -, ⟨u1, u2⟩, ⟨g1, g2⟩⟩ := hpt
              dsimp only at u1 u2 g1 g2
              have q1 : IntKind.i64.wrap (ah + x) = ah + x := w64 _ (by omega) (by omega)
              have HAT := Lib.hid hat
              have HSLJ := Lib.hid hsl
              have HBJ1 : Hid (∀ wy, Only (fun _ => False) wr wy → BkAt (wy.setCell ⟨p, k * 5 + 4, none⟩ (.int .i64 (ah + x))) p (shT A (l.take (j + 1)) x 0)) := Lib.hid (fun wy ho => by
                have := (HBJ.out.only ho (fun f => f)).store HSLJ.out k 4 (.int .i64 (ah + x)) ⟨at_, ac, ae, au, ah + x⟩ k2 (by omega) (by rw [HAT.out]; rfl)
                rw [HSS2.out]
                have e : shB ⟨at_, ac, ae, au, ah⟩ x 0 = ⟨at_, ac, ae, au, ah + x⟩ := by simp [shB]
                rw [e]
                exact this)
              have HFZ : Hid (∀ wy, Only (fun _ => False) wr wy → wy.frozen? ⟨p, k * 5 + 4, none⟩ = false) := Lib.hid (fun wy ho => (HBJ.out.only ho (fun f => f)).2 _ (by omega))
              clear hcell hk hat hss hsl hbj u1 u2 g1 g2
              go_upto_region 14 with fail
              refine wp_region_noPanic ?_
              refine late.region (fun w' => ∀ q, w'.cell? q = wr.cell? q) (fun j => [21].contains j) (by kernel_rfl) (fun q => by simp) (fun hHeld => ?_)
              obtain ⟨z0, hz0⟩ : ∃ x, x = wr.drew := ⟨_, rfl⟩
              rw [← hz0] at hHeld ⊢
              have hou : Only (fun _ => False) wr z0 := by rw [hz0]; exact (Only.refl _ _).drew
              have hc4 := hou.cell' c4 (fun f => f)
              have hcx := hou.cell' cx (fun f => f)
              have f4 := HFZ.out _ hou
              have HS9 := Lib.hid (HBJ1.out _ hou)
              have HO9 := Lib.hid ((Only.p p hou).trans (Only.set (fun q => q = p) z0 p (k * 5 + 4) (.int .i64 (ah + x)) rfl))
              clear hou hz0
              refine late.take (i := 0) [17, 18, 19, 20, 21] (v := ?_) rfl (by kernel_rfl) (by kernel_rfl) (by kernel_rfl) (by kernel_rfl) (fun _ _ _ h => h) (Or.inl ⟨by rfl, ?_⟩) (by assumption) ?_
              rotate_left 1
              · intro w' hSw
                try dsimp only at hSw
                go_simp
                try with_reducible rfl
              try simp only [List.getElem_toArray, List.getElem_cons_zero, Act.put, List.setIfInBounds_toArray, List.set_cons_zero, List.set_cons_succ]
              refine late.take (i := 1) [3, 4, 19, 20, 21] (v := ?_) rfl (by kernel_rfl) (by kernel_rfl) (by kernel_rfl) (by kernel_rfl) (fun _ _ _ h => h) (Or.inl ⟨by rfl, ?_⟩) (by assumption) ?_
              rotate_left 1
              · intro w' hSw
                try dsimp only at hSw
                go_simp
                try with_reducible rfl
              try simp only [List.getElem_toArray, List.getElem_cons_zero, List.getElem_cons_succ, Act.put, List.setIfInBounds_toArray, List.set_cons_zero, List.set_cons_succ]
              refine late.take (i := 2) [3, 4, 19, 20, 21] (v := ?_) rfl (by kernel_rfl) (by kernel_rfl) (by kernel_rfl) (by kernel_rfl) (fun _ _ _ h => h) (Or.inl ⟨by rfl, ?_⟩) (by assumption) ?_
              rotate_left 1
              · intro w' hSw
                try dsimp only at hSw
                go_simp
                try with_reducible rfl
              try simp only [List.getElem_toArray, List.getElem_cons_zero, List.getElem_cons_succ, Act.put, List.setIfInBounds_toArray, List.set_cons_zero, List.set_cons_succ]
              refine late.take (i := 3) [4, 19, 20, 21] (v := ?_) rfl (by kernel_rfl) (by kernel_rfl) (by kernel_rfl) (by kernel_rfl) (fun _ _ _ h => h) (Or.inl ⟨by rfl, ?_⟩) (by assumption) ?_
              rotate_left 1
              · intro w' hSw
                try dsimp only at hSw
                go_simp
                try with_reducible rfl
              try simp only [List.getElem_toArray, List.getElem_cons_zero, List.getElem_cons_succ, Act.put, List.setIfInBounds_toArray, List.set_cons_zero, List.set_cons_succ]
              refine late.take (i := 4) [19, 20, 21] (v := ?_) rfl (by kernel_rfl) (by kernel_rfl) (by kernel_rfl) (by kernel_rfl) (fun _ _ _ h => h) (Or.inl ⟨by rfl, ?_⟩) (by assumption) ?_
              rotate_left 1
              · intro w' hSw
                try dsimp only at hSw
                go_simp
                try with_reducible rfl
              try simp only [List.getElem_toArray, List.getElem_cons_zero, List.getElem_cons_succ, Act.put, List.setIfInBounds_toArray, List.set_cons_zero, List.set_cons_succ]
              refine late.take (i := 5) [10, 11, 12, 13, 14, 16, 19, 20, 21] (v := ?_) rfl (by kernel_rfl) (by kernel_rfl) (by kernel_rfl) (by kernel_rfl) (fun _ _ _ h => h) (Or.inl ⟨by rfl, ?_⟩) (by assumption) ?_
              rotate_left 1
              · intro w' hSw
                try dsimp only at hSw
                go_simp
                try with_reducible rfl
              try simp only [List.getElem_toArray, List.getElem_cons_zero, List.getElem_cons_succ, Act.put, List.setIfInBounds_toArray, List.set_cons_zero, List.set_cons_succ]
              refine late.take (i := 6) [8, 9, 12, 13, 14, 16, 19, 20, 21] (v := ?_) rfl (by kernel_rfl) (by kernel_rfl) (by kernel_rfl) (by kernel_rfl) (fun _ _ _ h => h) (Or.inl ⟨by rfl, ?_⟩) (by assumption) ?_
              rotate_left 1
              · intro w' hSw
                try dsimp only at hSw
                go_simp
                try with_reducible rfl
              try simp only [List.getElem_toArray, List.getElem_cons_zero, List.getElem_cons_succ, Act.put, List.setIfInBounds_toArray, List.set_cons_zero, List.set_cons_succ]
              refine late.take (i := 7) [8, 9, 12, 13, 14, 16, 19, 20, 21] (v := ?_) rfl (by kernel_rfl) (by kernel_rfl) (by kernel_rfl) (by kernel_rfl) (fun _ _ _ h => h) (Or.inl ⟨by rfl, ?_⟩) (by assumption) ?_
              rotate_left 1
              · intro w' hSw
                try dsimp only at hSw
                go_simp
                try with_reducible rfl
              try simp only [List.getElem_toArray, List.getElem_cons_zero, List.getElem_cons_succ, Act.put, List.setIfInBounds_toArray, List.set_cons_zero, List.set_cons_succ]
              refine late.take (i := 8) [9, 12, 13, 14, 16, 19, 20, 21] (v := ?_) rfl (by kernel_rfl) (by kernel_rfl) (by kernel_rfl) (by kernel_rfl) (fun _ _ _ h => h) (Or.inl ⟨by rfl, ?_⟩) (by assumption) ?_
              rotate_left 1
              · intro w' hSw
                try dsimp only at hSw
                go_simp
                try with_reducible rfl
              try simp only [List.getElem_toArray, List.getElem_cons_zero, List.getElem_cons_succ, Act.put, List.setIfInBounds_toArray, List.set_cons_zero, List.set_cons_succ]
              refine late.take (i := 9) [12, 13, 14, 16, 19, 20, 21] (v := ?_) rfl (by kernel_rfl) (by kernel_rfl) (by kernel_rfl) (by kernel_rfl) (fun _ _ _ h => h) (Or.inl ⟨by rfl, ?_⟩) (by assumption) ?_
              rotate_left 1
              · intro w' hSw
                try dsimp only at hSw
                go_simp
                try with_reducible rfl
              try simp only [List.getElem_toArray, List.getElem_cons_zero, List.getElem_cons_succ, Act.put, List.setIfInBounds_toArray, List.set_cons_zero, List.set_cons_succ]
              refine late.take (i := 10) [11, 12, 13, 14, 16, 19, 20, 21] (v := ?_) rfl (by kernel_rfl) (by kernel_rfl) (by kernel_rfl) (by kernel_rfl) (fun _ _ _ h => h) (Or.inl ⟨by rfl, ?_⟩) (by assumption) ?_
              rotate_left 1
              · intro w' hSw
                try dsimp only at hSw
                go_simp
                try with_reducible rfl
              try simp only [List.getElem_toArray, List.getElem_cons_zero, List.getElem_cons_succ, Act.put, List.setIfInBounds_toArray, List.set_cons_zero, List.set_cons_succ]
              refine late.take (i := 11) [12, 13, 14, 16, 19, 20, 21] (v := ?_) rfl (by kernel_rfl) (by kernel_rfl) (by kernel_rfl) (by kernel_rfl) (fun _ _ _ h => h) (Or.inl ⟨by rfl, ?_⟩) (by assumption) ?_
              rotate_left 1
              · intro w' hSw
                try dsimp only at hSw
                go_simp
                try with_reducible rfl
              try simp only [List.getElem_toArray, List.getElem_cons_zero, List.getElem_cons_succ, Act.put, List.setIfInBounds_toArray, List.set_cons_zero, List.set_cons_succ]
              refine late.take (i := 12) [13, 14, 16, 19, 20, 21] (v := ?_) rfl (by kernel_rfl) (by kernel_rfl) (by kernel_rfl) (by kernel_rfl) (fun _ _ _ h => h) (Or.inl ⟨by rfl, ?_⟩) (by assumption) ?_
              rotate_left 1
              · intro w' hSw
                try dsimp only at hSw
                go_simp
                try with_reducible rfl
              try simp only [List.getElem_toArray, List.getElem_cons_zero, List.getElem_cons_succ, Act.put, List.setIfInBounds_toArray, List.set_cons_zero, List.set_cons_succ]
              refine late.take (i := 13) [14, 16, 19, 20, 21] (v := ?_) rfl (by kernel_rfl) (by kernel_rfl) (by kernel_rfl) (by kernel_rfl) (fun _ _ _ h => h) (Or.inl ⟨by rfl, ?_⟩) (by assumption) ?_
              rotate_left 1
              · intro w' hSw
                try dsimp only at hSw
                go_simp
                try with_reducible rfl
              try simp only [List.getElem_toArray, List.getElem_cons_zero, List.getElem_cons_succ, Act.put, List.setIfInBounds_toArray, List.set_cons_zero, List.set_cons_succ]
              refine late.take (i := 14) [16, 19, 20, 21] (v := ?_) rfl (by kernel_rfl) (by kernel_rfl) (by kernel_rfl) (by kernel_rfl) (fun _ _ _ h => h) (Or.inl ⟨by rfl, ?_⟩) (by assumption) ?_
              rotate_left 1
              · intro w' hSw
                try dsimp only at hSw
                go_simp
                try with_reducible rfl
              try simp only [List.getElem_toArray, List.getElem_cons_zero, List.getElem_cons_succ, Act.put, List.setIfInBounds_toArray, List.set_cons_zero, List.set_cons_succ]
              refine late.take (i := 15) [16, 19, 20, 21] (v := ?_) rfl (by kernel_rfl) (by kernel_rfl) (by kernel_rfl) (by kernel_rfl) (fun _ _ _ h => h) (Or.inl ⟨by rfl, ?_⟩) (by assumption) ?_
              rotate_left 1
              · intro w' hSw
                try dsimp only at hSw
                go_simp
                try with_reducible rfl
              try simp only [List.getElem_toArray, List.getElem_cons_zero, List.getElem_cons_succ, Act.put, List.setIfInBounds_toArray, List.set_cons_zero, List.set_cons_succ]
              refine late.take (i := 16) [19, 20, 21] (v := ?_) rfl (by kernel_rfl) (by kernel_rfl) (by kernel_rfl) (by kernel_rfl) (fun _ _ _ h => h) (Or.inl ⟨by rfl, ?_⟩) (by assumption) ?_
              rotate_left 1
              · intro w' hSw
                try dsimp only at hSw
                go_simp
                try with_reducible rfl
              try simp only [List.getElem_toArray, List.getElem_cons_zero, List.getElem_cons_succ, Act.put, List.setIfInBounds_toArray, List.set_cons_zero, List.set_cons_succ]
              refine late.take (i := 17) [18, 19, 20, 21] (v := ?_) rfl (by kernel_rfl) (by kernel_rfl) (by kernel_rfl) (by kernel_rfl) (fun _ _ _ h => h) (Or.inl ⟨by rfl, ?_⟩) (by assumption) ?_
              rotate_left 1
              · intro w' hSw
                try dsimp only at hSw
                go_simp
                try with_reducible rfl
              try simp only [List.getElem_toArray, List.getElem_cons_zero, List.getElem_cons_succ, Act.put, List.setIfInBounds_toArray, List.set_cons_zero, List.set_cons_succ]
              refine late.take (i := 18) [19, 20, 21] (v := ?_) rfl (by kernel_rfl) (by kernel_rfl) (by kernel_rfl) (by kernel_rfl) (fun _ _ _ h => h) (Or.inl ⟨by rfl, ?_⟩) (by assumption) ?_
              rotate_left 1
              · intro w' hSw
                try dsimp only at hSw
                go_simp
                try with_reducible rfl
              try simp only [List.getElem_toArray, List.getElem_cons_zero, List.getElem_cons_succ, Act.put, List.setIfInBounds_toArray, List.set_cons_zero, List.set_cons_succ]
              refine late.take (i := 19) [20, 21] (v := ?_) rfl (by kernel_rfl) (by kernel_rfl) (by kernel_rfl) (by kernel_rfl) (fun _ _ _ h => h) (Or.inl ⟨by rfl, ?_⟩) (by assumption) ?_
              rotate_left 1
              · intro w' hSw
                try dsimp only at hSw
                go_simp
                try with_reducible rfl
              try simp only [List.getElem_toArray, List.getElem_cons_zero, List.getElem_cons_succ, Act.put, List.setIfInBounds_toArray, List.set_cons_zero, List.set_cons_succ]
              refine late.take (i := 20) [21] (v := ?_) rfl (by kernel_rfl) (by kernel_rfl) (by kernel_rfl) (by kernel_rfl) (fun _ _ _ h => h) (Or.inl ⟨by rfl, ?_⟩) (by assumption) ?_
              rotate_left 1
              · intro w' hSw
                try dsimp only at hSw
                go_simp
                try with_reducible rfl
              try simp only [List.getElem_toArray, List.getElem_cons_zero, List.getElem_cons_succ, Act.put, List.setIfInBounds_toArray, List.set_cons_zero, List.set_cons_succ]
              refine late.ready (rs := [21]) (by kernel_rfl) (by simp) ?_
              refine late.Each.cons rfl (fun K hK => ?_) late.Each.nil
              clear hHeld
              try simp only [List.getElem_toArray, List.getElem_cons_zero, List.getElem_cons_succ]
              go_simp
              refine hK.out _ _ (fun h => by cases h) (fun _ => ?_)
              clear hK K
              try simp only [List.getElem_toArray, List.getElem_cons_zero, List.getElem_cons_succ, Act.put, List.setIfInBounds_toArray, List.set_cons_zero, List.set_cons_succ]
              refine late.done (by kernel_rfl) ?_ _
              refine NoPanic.normal ?_
              go_wp2_with fail
              go_roundw
              case rel => exact ⟨j + 1, by omega, by go_num, HS9, Lib.hid (HO.out.trans HO9.out)⟩
              case measure => simp [intOf]; omega
            · obtain rfl : j = i := by omega
              have HEN : Hid (BkAt wr p A' ∧ Only (fun q => q = p) w wr) := Lib.hid ⟨by rw [HFA.out.2, ← HFN.out]; exact HBJ.out, (Only.p p HO2.out).trans HO.out⟩
              go_wp2_with fail
              go_ret
              exact ⟨by rw [HFA.out.1]; rfl, HEN.out⟩
    · rw [HDP.out] at HIS
      have hE : holdE A l ls x = 1 := by unfold holdE; rw [if_neg (fun q => hx q.2)]
      have hT : holdA A l ls x = A := by unfold holdA; rw [hE]; rfl
      rw [hE, hT]
      clear hE hT
      by_cases x1 : 1 ≤ x
      · have x2 : ¬ x ≤ 9007199254740992 := fun q => hx ⟨x1, q⟩
        clear hx
        clear hpl HDP
        go_enter Try.func67, Try.ntmps67
        go_wp2_with fail
        refine (HIS.out).mono ?_
        rintro _ w1 ⟨rfl, ho⟩
        have HO := Lib.hid ho
        clear ho
        go_wp2_with fail
        go_ret
        exact ⟨rfl, HB.out.only HO.out (fun f => f), Only.p p HO.out⟩
      · clear hx
        clear hpl HDP
        go_enter Try.func67, Try.ntmps67
        go_wp2_with fail
        refine (HIS.out).mono ?_
        rintro _ w1 ⟨rfl, ho⟩
        have HO := Lib.hid ho
        clear ho
        go_wp2_with fail
        go_ret
        exact ⟨rfl, HB.out.only HO.out (fun f => f), Only.p p HO.out⟩
  · have HDP : Hid (decide (PathOk l ∧ m = n ∧ LOk ls m) = false) := Lib.hid (decide_eq_false hpl)
    rw [HDP.out] at HIS
    have hE : holdE A l ls x = 1 := by unfold holdE; rw [if_neg (fun q => hpl ⟨q.1.1, by rw [HLN.out, HLN2.out] at q; exact q.1.2.1, by rw [HLN2.out] at q; exact q.1.2.2⟩)]
    have hT : holdA A l ls x = A := by unfold holdA; rw [hE]; rfl
    rw [hE, hT]
    clear hE hT
    clear hpl HDP
    go_enter Try.func67, Try.ntmps67
    go_wp2_with fail
    refine (HIS.out).mono ?_
    rintro _ w1 ⟨rfl, ho⟩
    have HO := Lib.hid ho
    clear ho
    go_wp2_with fail
    go_ret
    exact ⟨rfl, HB.out.only HO.out (fun f => f), Only.p p HO.out⟩
end Go.Proofs.Ytfpeimihlihphaa.fnd
