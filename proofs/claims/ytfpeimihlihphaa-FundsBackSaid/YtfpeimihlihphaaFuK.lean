/- Books: an act, done to both. -/
import Derived.Test.YtfpeimihlihphaaFuJ
import Derived.Test.YtfpeimihlihphaaTrP
namespace Go.Proofs.Ytfpeimihlihphaa.fnd
open Go.RowKit mem tre
set_option linter.unusedVariables false

set_option maxRecDepth 100000 in
set_option maxHeartbeats 8000000 in
theorem rright_any (a : Ac) (w : World) : Calls Try.prog 71 #[aggA a] w fun e w' => e = .returned (.bool (decide (Right a))) ∧ Only (fun _ => False) w w' := by
  have HAV : Hid (∀ w1, Parts a → _) := Lib.hid (fun w1 h => left_any a w1 h)
  obtain ⟨at_, ac, ae, au, ah⟩ := a
  unfold aggA at HAV ⊢
  obtain ⟨e0, e1, e2, e3, e4, ho9⟩ := node_box 69 (.int .i64 at_) (.int .i64 ac) (.int .i64 ae) (.int .i64 au) (.int .i64 ah) (Only.refl (fun _ => False) w)
  have HO9 := Lib.hid ho9
  clear ho9
  dsimp only at HAV ⊢
  by_cases hk : 0 ≤ at_ ∧ at_ ≤ 9007199254740992
  · obtain ⟨a0, b0⟩ := hk
    by_cases hk : 0 ≤ ac ∧ ac ≤ 9007199254740992
    · obtain ⟨a1, b1⟩ := hk
      by_cases hk : 0 ≤ ae ∧ ae ≤ 9007199254740992
      · obtain ⟨a2, b2⟩ := hk
        by_cases hk : 0 ≤ au ∧ au ≤ 9007199254740992
        · obtain ⟨a3, b3⟩ := hk
          by_cases hk : 0 ≤ ah ∧ ah ≤ 9007199254740992
          · obtain ⟨a4, b4⟩ := hk
            have hp : Parts ⟨at_, ac, ae, au, ah⟩ := ⟨⟨a0, b0⟩, ⟨a1, b1⟩, ⟨a2, b2⟩, ⟨a3, b3⟩, ⟨a4, b4⟩⟩
            have HV := fun w1 => Lib.hid (HAV.out w1 hp)
            have HP := Lib.hid hp
            have qs : IntKind.i64.wrap (at_ + ac) = at_ + ac := w64 _ (by omega) (by omega)
            clear hp HAV
            by_cases hs : at_ + ac ≤ 9007199254740992
            · have HR : Hid (decide (Right ⟨at_, ac, ae, au, ah⟩) = decide (0 ≤ left ⟨at_, ac, ae, au, ah⟩)) := Lib.hid (decide_eq_decide.2 ⟨fun q => q.2.2, fun q => ⟨HP.out, hs, q⟩⟩)
              generalize left ⟨at_, ac, ae, au, ah⟩ = v at *
              go_enter Try.func71, Try.ntmps71
              go_wp2_with fail
              refine (rin_yes _ _ a0 b0).mono ?_
              rintro _ _ ⟨rfl, rfl⟩
              go_wp2_with fail
              refine (rin_yes _ _ a1 b1).mono ?_
              rintro _ _ ⟨rfl, rfl⟩
              go_wp2_with fail
              refine (rin_yes _ _ a2 b2).mono ?_
              rintro _ _ ⟨rfl, rfl⟩
              go_wp2_with fail
              refine (rin_yes _ _ a3 b3).mono ?_
              rintro _ _ ⟨rfl, rfl⟩
              go_wp2_with fail
              refine (rin_yes _ _ a4 b4).mono ?_
              rintro _ _ ⟨rfl, rfl⟩
              go_wp2_with fail
              refine (HV _).out.mono ?_
              rintro _ w2 ⟨rfl, ho⟩
              have HO2 : Hid (Only (fun _ => False) w w2) := Lib.hid (HO9.out.trans ho)
              clear ho
              go_wp2_with fail
              go_ret
              exact ⟨by rw [HR.out]; rfl, HO2.out⟩
            · have HR : Hid (decide (Right ⟨at_, ac, ae, au, ah⟩) = false) := Lib.hid (decide_eq_false (fun q => hs q.2.1))
              go_enter Try.func71, Try.ntmps71
              go_wp2_with fail
              refine (rin_yes _ _ a0 b0).mono ?_
              rintro _ _ ⟨rfl, rfl⟩
              go_wp2_with fail
              refine (rin_yes _ _ a1 b1).mono ?_
              rintro _ _ ⟨rfl, rfl⟩
              go_wp2_with fail
              refine (rin_yes _ _ a2 b2).mono ?_
              rintro _ _ ⟨rfl, rfl⟩
              go_wp2_with fail
              refine (rin_yes _ _ a3 b3).mono ?_
              rintro _ _ ⟨rfl, rfl⟩
              go_wp2_with fail
              refine (rin_yes _ _ a4 b4).mono ?_
              rintro _ _ ⟨rfl, rfl⟩
              go_wp2_with fail
              go_ret
              exact ⟨by rw [HR.out]; rfl, HO9.out⟩
          · have HF : Hid (decide (Right ⟨at_, ac, ae, au, ah⟩) = false) := Lib.hid (decide_eq_false (fun q => hk q.1.2.2.2.2))
            rw [HF.out]
            go_enter Try.func71, Try.ntmps71
            go_wp2_with fail
            refine (rin_yes _ _ a0 b0).mono ?_
            rintro _ _ ⟨rfl, rfl⟩
            go_wp2_with fail
            refine (rin_yes _ _ a1 b1).mono ?_
            rintro _ _ ⟨rfl, rfl⟩
            go_wp2_with fail
            refine (rin_yes _ _ a2 b2).mono ?_
            rintro _ _ ⟨rfl, rfl⟩
            go_wp2_with fail
            refine (rin_yes _ _ a3 b3).mono ?_
            rintro _ _ ⟨rfl, rfl⟩
            go_wp2_with fail
            refine (rin_no _ _ hk).mono ?_
            rintro _ _ ⟨rfl, rfl⟩
            go_wp2_with fail
            go_ret
            exact ⟨rfl, HO9.out⟩
        · have HF : Hid (decide (Right ⟨at_, ac, ae, au, ah⟩) = false) := Lib.hid (decide_eq_false (fun q => hk q.1.2.2.2.1))
          rw [HF.out]
          go_enter Try.func71, Try.ntmps71
          go_wp2_with fail
          refine (rin_yes _ _ a0 b0).mono ?_
          rintro _ _ ⟨rfl, rfl⟩
          go_wp2_with fail
          refine (rin_yes _ _ a1 b1).mono ?_
          rintro _ _ ⟨rfl, rfl⟩
          go_wp2_with fail
          refine (rin_yes _ _ a2 b2).mono ?_
          rintro _ _ ⟨rfl, rfl⟩
          go_wp2_with fail
          refine (rin_no _ _ hk).mono ?_
          rintro _ _ ⟨rfl, rfl⟩
          go_wp2_with fail
          go_ret
          exact ⟨rfl, HO9.out⟩
      · have HF : Hid (decide (Right ⟨at_, ac, ae, au, ah⟩) = false) := Lib.hid (decide_eq_false (fun q => hk q.1.2.2.1))
        rw [HF.out]
        go_enter Try.func71, Try.ntmps71
        go_wp2_with fail
        refine (rin_yes _ _ a0 b0).mono ?_
        rintro _ _ ⟨rfl, rfl⟩
        go_wp2_with fail
        refine (rin_yes _ _ a1 b1).mono ?_
        rintro _ _ ⟨rfl, rfl⟩
        go_wp2_with fail
        refine (rin_no _ _ hk).mono ?_
        rintro _ _ ⟨rfl, rfl⟩
        go_wp2_with fail
        go_ret
        exact ⟨rfl, HO9.out⟩
    · have HF : Hid (decide (Right ⟨at_, ac, ae, au, ah⟩) = false) := Lib.hid (decide_eq_false (fun q => hk q.1.2.1))
      rw [HF.out]
      go_enter Try.func71, Try.ntmps71
      go_wp2_with fail
      refine (rin_yes _ _ a0 b0).mono ?_
      rintro _ _ ⟨rfl, rfl⟩
      go_wp2_with fail
      refine (rin_no _ _ hk).mono ?_
      rintro _ _ ⟨rfl, rfl⟩
      go_wp2_with fail
      go_ret
      exact ⟨rfl, HO9.out⟩
  · have HF : Hid (decide (Right ⟨at_, ac, ae, au, ah⟩) = false) := Lib.hid (decide_eq_false (fun q => hk q.1.1))
    rw [HF.out]
    go_enter Try.func71, Try.ntmps71
    go_wp2_with fail
    refine (rin_no _ _ hk).mono ?_
    rintro _ _ ⟨rfl, rfl⟩
    go_wp2_with fail
    go_ret
    exact ⟨rfl, HO9.out⟩
/-- both books: the same accounts -/
def FB (b : Nat) (w : World) (p q : Nat) (A : List Ac) : Prop := BkAt w p A ∧ BkAt w q A ∧ b ≤ p ∧ b ≤ q ∧ p ≠ q ∧ Bok A
theorem FB.only {b p q : Nat} {w w' : World} {A : List Ac} (h : FB b w p q A) (ho : Only (fun _ => False) w w') : FB b w' p q A :=
  ⟨h.1.only ho (fun f => f), h.2.1.only ho (fun f => f), h.2.2⟩
set_option maxRecDepth 100000 in
set_option maxHeartbeats 8000000 in
theorem do_any (b p q : Nat) (A : List Ac) (what node : Int) (pa : Option Addr) (pn pc : Nat) (pl : List Int) (la : Option Addr) (ln lc : Nat) (ll : List Int) (amt : Int) (carry : Bool) (x : Ac) (w : World) (h : FB b w p q A) (h1 : ReadsI w pa pn pl) (k1 : pn ≤ pc) (h2 : ReadsI w la ln ll) (k2 : ln ≤ lc) :
    Calls Try.prog 42 #[aggAct what node pa pn pc la ln lc amt carry x, .pointer (some ⟨p, 0, none⟩), .pointer (some ⟨q, 0, none⟩)] w fun e w' => e = .returned (.bool true) ∧ (∃ A', FB b w' p q A') ∧ Only (fun x => x = p ∨ x = q) w w' := by
  obtain ⟨xt, xc, xe, xu, xh⟩ := x
  have HZ := Lib.hid (tmod_in what 7 (by decide) (by decide))
  have HLS : Hid (∀ w1, Only (fun _ => False) w w1 → _) := Lib.hid (fun w1 ho => lists_any what node pa pn pc pl la ln lc ll amt carry ⟨xt, xc, xe, xu, xh⟩ w1 (h1.only ho (fun _ _ f => f)) k1 (h2.only ho (fun _ _ f => f)) k2)
  have HPB : Hid (b ≤ p ∧ b ≤ q) := Lib.hid ⟨h.2.2.1, h.2.2.2.1⟩
  have HPQ := Lib.hid h.2.2.2.2.1
  have HOK := Lib.hid h.2.2.2.2.2
  have HH := Lib.hid h
  have HLT : Hid (p < w.heap.size ∧ q < w.heap.size) := Lib.hid ⟨h.1.lt, h.2.1.lt⟩
  clear h h1 h2
  unfold aggAct at HLS ⊢
  dsimp only at HLS ⊢
  obtain ⟨w1, hw1⟩ : ∃ zz, zz = w.alloc (.cells #[.int .i64 what, .int .i64 node, .slice pa pn pc, .slice la ln lc, .int .i64 amt, .bool carry, .int .i64 xt, .int .i64 xc, .int .i64 xe, .int .i64 xu, .int .i64 xh] 74) := ⟨_, rfl⟩
  obtain ⟨g, hg⟩ : ∃ zz, zz = w.heap.size := ⟨_, rfl⟩
  have d0 : w1.cell? ⟨g, 0, none⟩ = some (.int .i64 what) := by rw [hw1]; exact alloc_cell hg rfl
  have d1 : w1.cell? ⟨g, 1, none⟩ = some (.int .i64 node) := by rw [hw1]; exact alloc_cell hg rfl
  have d2 : w1.cell? ⟨g, 2, none⟩ = some (.slice pa pn pc) := by rw [hw1]; exact alloc_cell hg rfl
  have d3 : w1.cell? ⟨g, 3, none⟩ = some (.slice la ln lc) := by rw [hw1]; exact alloc_cell hg rfl
  have d4 : w1.cell? ⟨g, 4, none⟩ = some (.int .i64 amt) := by rw [hw1]; exact alloc_cell hg rfl
  have d5 : w1.cell? ⟨g, 5, none⟩ = some (.bool carry) := by rw [hw1]; exact alloc_cell hg rfl
  have d6 : w1.cell? ⟨g, 6, none⟩ = some (.int .i64 xt) := by rw [hw1]; exact alloc_cell hg rfl
  have d7 : w1.cell? ⟨g, 7, none⟩ = some (.int .i64 xc) := by rw [hw1]; exact alloc_cell hg rfl
  have d8 : w1.cell? ⟨g, 8, none⟩ = some (.int .i64 xe) := by rw [hw1]; exact alloc_cell hg rfl
  have d9 : w1.cell? ⟨g, 9, none⟩ = some (.int .i64 xu) := by rw [hw1]; exact alloc_cell hg rfl
  have d10 : w1.cell? ⟨g, 10, none⟩ = some (.int .i64 xh) := by rw [hw1]; exact alloc_cell hg rfl
  have ho1 : Only (fun _ => False) w w1 := by rw [hw1]; exact (Only.refl _ _).alloc _
  have HGE : Hid (g ≠ p ∧ g ≠ q) := Lib.hid ⟨by have := HLT.out; omega, by have := HLT.out; omega⟩
  go_enter Try.func42, Try.ntmps42
  go_upto_region 1 with fail
  simp only [← hw1, ← hg]
  clear hw1 hg
  go_wp2_with fail
  refine (HLS.out _ ho1).mono ?_
  rintro _ w2 ⟨a1, c1, a2, c2, rfl, hr1, hc1, hr2, hc2, hb1, hb2, ho⟩
  replace d0 := ho.cell' d0 (fun f => f)
  replace d1 := ho.cell' d1 (fun f => f)
  replace d4 := ho.cell' d4 (fun f => f)
  replace d5 := ho.cell' d5 (fun f => f)
  replace d6 := ho.cell' d6 (fun f => f)
  replace d7 := ho.cell' d7 (fun f => f)
  replace d8 := ho.cell' d8 (fun f => f)
  replace d9 := ho.cell' d9 (fun f => f)
  replace d10 := ho.cell' d10 (fun f => f)
  have HO2 := Lib.hid (ho1.trans ho)
  have HT : Hid (BkAt w2 p A) := Lib.hid (HH.out.1.only (ho1.trans ho) (fun f => f))
  have HR : Hid (BkAt w2 q A) := Lib.hid (HH.out.2.1.only (ho1.trans ho) (fun f => f))
  have hsz : w.heap.size ≤ w1.heap.size := ho1.size
  have HPA : Hid (∀ y, a1 = some y → y.block ≠ p) := Lib.hid (fun y hy e => by have := hb1 y hy; have := HLT.out; omega)
  have HQA : Hid (∀ y, a1 = some y → y.block ≠ q) := Lib.hid (fun y hy e => by have := hb1 y hy; have := HLT.out; omega)
  have HPB2 : Hid (∀ y, a2 = some y → y.block ≠ p ∧ y.block ≠ q) := Lib.hid (fun y hy => by have := hb2 y hy; have := HLT.out; omega)
  obtain ⟨P, hP⟩ : ∃ P, P = pl.take 5 := ⟨_, rfl⟩
  obtain ⟨L, hL⟩ : ∃ L, L = ll.take 5 := ⟨_, rfl⟩
  rw [← hP] at hr1 hc1 ⊢
  rw [← hL] at hr2 hc2 ⊢
  obtain ⟨pn2, hpn2⟩ : ∃ n, n = P.length := ⟨_, rfl⟩
  obtain ⟨ln2, hln2⟩ : ∃ n, n = L.length := ⟨_, rfl⟩
  rw [← hpn2] at hr1 hc1 ⊢
  rw [← hln2] at hr2 hc2 ⊢
  have HRA : Hid (∀ w', Only (fun x => x = p ∨ x = q) w2 w' → ReadsI w' a1 pn2 P) := Lib.hid (fun w' ho => hr1.only ho (fun y hy hs => hs.elim (HPA.out y hy) (HQA.out y hy)))
  have HRB : Hid (∀ w', Only (fun x => x = p ∨ x = q) w2 w' → ReadsI w' a2 ln2 L) := Lib.hid (fun w' ho => hr2.only ho (fun y hy hs => hs.elim (HPB2.out y hy).1 (HPB2.out y hy).2))
  have HC1 := Lib.hid hc1
  have HC2 := Lib.hid hc2
  have HSL : Hid (∀ w', Only (fun x => x = p ∨ x = q) w2 w' → w'.cell? ⟨g, 1, none⟩ = some (.int .i64 node) ∧ w'.cell? ⟨g, 4, none⟩ = some (.int .i64 amt) ∧ w'.cell? ⟨g, 5, none⟩ = some (.bool carry) ∧ w'.cell? ⟨g, 6, none⟩ = some (.int .i64 xt) ∧ w'.cell? ⟨g, 7, none⟩ = some (.int .i64 xc) ∧ w'.cell? ⟨g, 8, none⟩ = some (.int .i64 xe) ∧ w'.cell? ⟨g, 9, none⟩ = some (.int .i64 xu) ∧ w'.cell? ⟨g, 10, none⟩ = some (.int .i64 xh)) := Lib.hid (fun w' ho => by
    have hn : ¬ (g = p ∨ g = q) := fun e => e.elim HGE.out.1 HGE.out.2
    exact ⟨ho.cell' d1 hn, ho.cell' d4 hn, ho.cell' d5 hn, ho.cell' d6 hn, ho.cell' d7 hn, ho.cell' d8 hn, ho.cell' d9 hn, ho.cell' d10 hn⟩)
  clear hr1 hr2 hc1 hc2 hb1 hb2 ho ho1 hsz hP hL hpn2 hln2 d2 d3 HLS HH HPB2
  go_upto_region 3 with fail
  clear d0
  generalize wrap64 ((IntKind.u64.wrap what).tmod 7) = z at *
  obtain ⟨hz0, hz7⟩ := HZ.out
  clear HZ
  have hzz : z = 0 ∨ z = 1 ∨ z = 2 ∨ z = 3 ∨ z = 4 ∨ z = 5 ∨ z = 6 := by omega
  clear hz0 hz7
  rcases hzz with rfl | rfl | rfl | rfl | rfl | rfl | rfl
  · go_upto_region 4 with fail
    refine wp_region_noPanic ?_
    refine wp_region_held_drew (S := (fun w' => w'.cell? ⟨g, 1, none⟩ = some (.int .i64 node) ∧ w'.cell? ⟨g, 4, none⟩ = some (.int .i64 amt) ∧ w'.cell? ⟨g, 5, none⟩ = some (.bool carry) ∧ w'.cell? ⟨g, 6, none⟩ = some (.int .i64 xt) ∧ w'.cell? ⟨g, 7, none⟩ = some (.int .i64 xc) ∧ w'.cell? ⟨g, 8, none⟩ = some (.int .i64 xe) ∧ w'.cell? ⟨g, 9, none⟩ = some (.int .i64 xu) ∧ w'.cell? ⟨g, 10, none⟩ = some (.int .i64 xh))) (by kernel_rfl) (HSL.out _ (Only.refl _ _).drew) (fun hHeld => ?_)
    have hot : Hid (Only (fun x => x = p ∨ x = q) w2 w2.drew) := Lib.hid ((Only.refl (fun x => x = p ∨ x = q) w2).drew)
    have HT1 : Hid (BkAt w2.drew p A) := Lib.hid (HT.out.only ((Only.refl (fun _ => False) w2).drew) (fun f => f))
    have HR1 : Hid (BkAt w2.drew q A) := Lib.hid (HR.out.only ((Only.refl (fun _ => False) w2).drew) (fun f => f))
    refine wpAnyH_take (i := 0) (v := ?_) rfl (by kernel_rfl) (by kernel_rfl) (by kernel_rfl) (fun _ _ _ h => h) (Or.inl ⟨by rfl, ?_⟩) (by assumption) ?_
    rotate_left 1
    · intro w' hSw
      try dsimp only at hSw
      go_simp
      try with_reducible rfl
    try simp only [List.getElem_toArray, List.getElem_cons_zero, Act.put, List.setIfInBounds_toArray, List.set_cons_zero, List.set_cons_succ]
    refine wpAnyH_take (i := 1) (v := ?_) rfl (by kernel_rfl) (by kernel_rfl) (by kernel_rfl) (fun _ _ _ h => h) (Or.inl ⟨by rfl, ?_⟩) (by assumption) ?_
    rotate_left 1
    · intro w' hSw
      try dsimp only at hSw
      go_simp
      try with_reducible rfl
    try simp only [List.getElem_toArray, List.getElem_cons_zero, List.getElem_cons_succ, Act.put, List.setIfInBounds_toArray, List.set_cons_zero, List.set_cons_succ]
    refine wpAnyH_take (i := 2) (v := ?_) rfl (by kernel_rfl) (by kernel_rfl) (by kernel_rfl) (fun _ _ _ h => h) (Or.inl ⟨by rfl, ?_⟩) (by assumption) ?_
    rotate_left 1
    · intro w' hSw
      try dsimp only at hSw
      go_simp
      try with_reducible rfl
    try simp only [List.getElem_toArray, List.getElem_cons_zero, List.getElem_cons_succ, Act.put, List.setIfInBounds_toArray, List.set_cons_zero, List.set_cons_succ]
    refine wpAnyH_take (i := 3) (v := ?_) rfl (by kernel_rfl) (by kernel_rfl) (by kernel_rfl) (fun _ _ _ h => h) (Or.inl ⟨by rfl, ?_⟩) (by assumption) ?_
    rotate_left 1
    · intro w' hSw
      try dsimp only at hSw
      go_simp
      try with_reducible rfl
    try simp only [List.getElem_toArray, List.getElem_cons_zero, List.getElem_cons_succ, Act.put, List.setIfInBounds_toArray, List.set_cons_zero, List.set_cons_succ]
    refine wpAnyH_take (i := 4) (v := ?_) rfl (by kernel_rfl) (by kernel_rfl) (by kernel_rfl) (fun _ _ _ h => h) (Or.inl ⟨by rfl, ?_⟩) (by assumption) ?_
    rotate_left 1
    · intro w' hSw
      try dsimp only at hSw
      go_simp
      try with_reducible rfl
    try simp only [List.getElem_toArray, List.getElem_cons_zero, List.getElem_cons_succ, Act.put, List.setIfInBounds_toArray, List.set_cons_zero, List.set_cons_succ]
    refine wpAnyH_take (i := 6) (v := ?_) rfl (by kernel_rfl) (by kernel_rfl) (by kernel_rfl) (fun _ _ _ h => h) (Or.inl ⟨by rfl, ?_⟩) (by assumption) ?_
    rotate_left 1
    · intro w' hSw
      try dsimp only at hSw
      go_simp
      try with_reducible rfl
    try simp only [List.getElem_toArray, List.getElem_cons_zero, List.getElem_cons_succ, Act.put, List.setIfInBounds_toArray, List.set_cons_zero, List.set_cons_succ]
    refine wpAnyH_take (i := 7) (v := ?_) rfl (by kernel_rfl) (by kernel_rfl) (by kernel_rfl) (fun _ _ _ h => h) (Or.inl ⟨by rfl, ?_⟩) (by assumption) ?_
    rotate_left 1
    · intro w' hSw
      try dsimp only at hSw
      go_simp
      try with_reducible rfl
    try simp only [List.getElem_toArray, List.getElem_cons_zero, List.getElem_cons_succ, Act.put, List.setIfInBounds_toArray, List.set_cons_zero, List.set_cons_succ]
    refine wpAnyH_take (i := 8) (v := ?_) rfl (by kernel_rfl) (by kernel_rfl) (by kernel_rfl) (fun _ _ _ h => h) (Or.inl ⟨by rfl, ?_⟩) (by assumption) ?_
    rotate_left 1
    · intro w' hSw
      try dsimp only at hSw
      go_simp
      try with_reducible rfl
    try simp only [List.getElem_toArray, List.getElem_cons_zero, List.getElem_cons_succ, Act.put, List.setIfInBounds_toArray, List.set_cons_zero, List.set_cons_succ]
    refine wpAnyH_take (i := 9) (v := ?_) rfl (by kernel_rfl) (by kernel_rfl) (by kernel_rfl) (fun _ _ _ h => h) (Or.inl ⟨by rfl, ?_⟩) (by assumption) ?_
    rotate_left 1
    · intro w' hSw
      try dsimp only at hSw
      go_simp
      try with_reducible rfl
    try simp only [List.getElem_toArray, List.getElem_cons_zero, List.getElem_cons_succ, Act.put, List.setIfInBounds_toArray, List.set_cons_zero, List.set_cons_succ]
    refine wpAnyH_take (i := 10) (v := ?_) rfl (by kernel_rfl) (by kernel_rfl) (by kernel_rfl) (fun _ _ _ h => h) (Or.inl ⟨by rfl, ?_⟩) (by assumption) ?_
    rotate_left 1
    · intro w' hSw
      try dsimp only at hSw
      go_simp
      try with_reducible rfl
    try simp only [List.getElem_toArray, List.getElem_cons_zero, List.getElem_cons_succ, Act.put, List.setIfInBounds_toArray, List.set_cons_zero, List.set_cons_succ]
    refine wpAnyH_ready (rs := [5]) (by kernel_rfl) (by simp) ?_
    refine AllReadyH.cons rfl (fun K hK => ?_) AllReadyH.nil
    try simp only [List.getElem_toArray, List.getElem_cons_zero, List.getElem_cons_succ]
    go_simp
    go_at_call 36
    with_reducible refine (topup_any p A node amt _ HT1.out HOK.out).mono ?_
    rintro _ wn ⟨rfl, ht, ho⟩
    have HRA2 := Lib.hid (HRA.out _ (hot.out.trans (ho.mono (fun k _ e => show k = p ∨ k = q from .inl e))))
    have HRB2 := Lib.hid (HRB.out _ (hot.out.trans (ho.mono (fun k _ e => show k = p ∨ k = q from .inl e))))
    replace hot := Lib.hid (hot.out.trans (ho.mono (fun k _ e => show k = p ∨ k = q from .inl e)))
    have HT2 := Lib.hid ht
    have HR2 := Lib.hid (HR1.out.only ho (fun e => HPQ.out e.symm))
    clear ho ht
    try dsimp only
    refine hK.out _ _ (HSL.out _ hot.out) (fun hHeld1 => ?_)
    clear hK K
    try simp only [List.getElem_toArray, List.getElem_cons_zero, List.getElem_cons_succ, Act.put, List.setIfInBounds_toArray, List.set_cons_zero, List.set_cons_succ]
    refine wpAnyH_ready (rs := [11]) (by kernel_rfl) (by simp) ?_
    refine AllReadyH.cons rfl (fun K hK => ?_) AllReadyH.nil
    try simp only [List.getElem_toArray, List.getElem_cons_zero, List.getElem_cons_succ]
    go_simp
    go_at_call 66
    with_reducible refine (rtop_any q A node amt _ HR2.out HOK.out).mono ?_
    rintro _ wm ⟨rfl, ht, ho⟩
    replace hot := Lib.hid (hot.out.trans (ho.mono (fun k _ e => show k = p ∨ k = q from .inr e)))
    have HR3 := Lib.hid ht
    have HT3 := Lib.hid (HT2.out.only ho HPQ.out)
    clear ho ht
    try dsimp only
    refine hK.out _ _ (HSL.out _ hot.out) (fun hHeld2 => ?_)
    clear hK K
    try simp only [List.getElem_toArray, List.getElem_cons_zero, List.getElem_cons_succ, Act.put, List.setIfInBounds_toArray, List.set_cons_zero, List.set_cons_succ]
    refine wpAnyH_take (i := 12) (v := ?_) rfl (by kernel_rfl) (by kernel_rfl) (by kernel_rfl) (fun _ _ _ h => h) (Or.inl ⟨by rfl, ?_⟩) (by assumption) ?_
    rotate_left 1
    · intro w' hSw
      try dsimp only at hSw
      go_simp
      try with_reducible rfl
    try simp only [List.getElem_toArray, List.getElem_cons_zero, List.getElem_cons_succ, Act.put, List.setIfInBounds_toArray, List.set_cons_zero, List.set_cons_succ]
    refine wpAnyH_take (i := 13) (v := ?_) rfl (by kernel_rfl) (by kernel_rfl) (by kernel_rfl) (fun _ _ _ h => h) (Or.inl ⟨by rfl, ?_⟩) (by assumption) ?_
    rotate_left 1
    · intro w' hSw
      try dsimp only at hSw
      go_simp
      try with_reducible rfl
    try simp only [List.getElem_toArray, List.getElem_cons_zero, List.getElem_cons_succ, Act.put, List.setIfInBounds_toArray, List.set_cons_zero, List.set_cons_succ]
    refine wpAnyH_done (by kernel_rfl) ?_ _
    refine NoPanic.normal ?_
    have HB : Hid (FB b wm p q (topA A node amt)) := Lib.hid ⟨HT3.out, HR3.out, HPB.out.1, HPB.out.2, HPQ.out, HOK.out.topA _ _⟩
    have HOF : Hid (Only (fun x => x = p ∨ x = q) w wm) := Lib.hid ((HO2.out.mono (fun _ _ f => f.elim)).trans hot.out)
    generalize topE A node amt = e' at *
    have hee : (e' == e') = true := by simp
    clear HSL hot HT3 HR3 HT2 HR2 HRA HRB HRA2 HRB2
    go_wp2_with fail
    go_ret
    exact ⟨rfl, ⟨_, HB.out⟩, HOF.out⟩
  · go_upto_region 6 with fail
    refine wp_region_noPanic ?_
    refine wp_region_held_drew (S := (fun w' => w'.cell? ⟨g, 1, none⟩ = some (.int .i64 node) ∧ w'.cell? ⟨g, 4, none⟩ = some (.int .i64 amt) ∧ w'.cell? ⟨g, 5, none⟩ = some (.bool carry) ∧ w'.cell? ⟨g, 6, none⟩ = some (.int .i64 xt) ∧ w'.cell? ⟨g, 7, none⟩ = some (.int .i64 xc) ∧ w'.cell? ⟨g, 8, none⟩ = some (.int .i64 xe) ∧ w'.cell? ⟨g, 9, none⟩ = some (.int .i64 xu) ∧ w'.cell? ⟨g, 10, none⟩ = some (.int .i64 xh))) (by kernel_rfl) (HSL.out _ (Only.refl _ _).drew) (fun hHeld => ?_)
    have hot : Hid (Only (fun x => x = p ∨ x = q) w2 w2.drew) := Lib.hid ((Only.refl (fun x => x = p ∨ x = q) w2).drew)
    have HT1 : Hid (BkAt w2.drew p A) := Lib.hid (HT.out.only ((Only.refl (fun _ => False) w2).drew) (fun f => f))
    have HR1 : Hid (BkAt w2.drew q A) := Lib.hid (HR.out.only ((Only.refl (fun _ => False) w2).drew) (fun f => f))
    refine wpAnyH_take (i := 0) (v := ?_) rfl (by kernel_rfl) (by kernel_rfl) (by kernel_rfl) (fun _ _ _ h => h) (Or.inl ⟨by rfl, ?_⟩) (by assumption) ?_
    rotate_left 1
    · intro w' hSw
      try dsimp only at hSw
      go_simp
      try with_reducible rfl
    try simp only [List.getElem_toArray, List.getElem_cons_zero, Act.put, List.setIfInBounds_toArray, List.set_cons_zero, List.set_cons_succ]
    refine wpAnyH_take (i := 1) (v := ?_) rfl (by kernel_rfl) (by kernel_rfl) (by kernel_rfl) (fun _ _ _ h => h) (Or.inl ⟨by rfl, ?_⟩) (by assumption) ?_
    rotate_left 1
    · intro w' hSw
      try dsimp only at hSw
      go_simp
      try with_reducible rfl
    try simp only [List.getElem_toArray, List.getElem_cons_zero, List.getElem_cons_succ, Act.put, List.setIfInBounds_toArray, List.set_cons_zero, List.set_cons_succ]
    refine wpAnyH_take (i := 2) (v := ?_) rfl (by kernel_rfl) (by kernel_rfl) (by kernel_rfl) (fun _ _ _ h => h) (Or.inl ⟨by rfl, ?_⟩) (by assumption) ?_
    rotate_left 1
    · intro w' hSw
      try dsimp only at hSw
      go_simp
      try with_reducible rfl
    try simp only [List.getElem_toArray, List.getElem_cons_zero, List.getElem_cons_succ, Act.put, List.setIfInBounds_toArray, List.set_cons_zero, List.set_cons_succ]
    refine wpAnyH_take (i := 3) (v := ?_) rfl (by kernel_rfl) (by kernel_rfl) (by kernel_rfl) (fun _ _ _ h => h) (Or.inl ⟨by rfl, ?_⟩) (by assumption) ?_
    rotate_left 1
    · intro w' hSw
      try dsimp only at hSw
      go_simp
      try with_reducible rfl
    try simp only [List.getElem_toArray, List.getElem_cons_zero, List.getElem_cons_succ, Act.put, List.setIfInBounds_toArray, List.set_cons_zero, List.set_cons_succ]
    refine wpAnyH_take (i := 4) (v := ?_) rfl (by kernel_rfl) (by kernel_rfl) (by kernel_rfl) (fun _ _ _ h => h) (Or.inl ⟨by rfl, ?_⟩) (by assumption) ?_
    rotate_left 1
    · intro w' hSw
      try dsimp only at hSw
      go_simp
      try with_reducible rfl
    try simp only [List.getElem_toArray, List.getElem_cons_zero, List.getElem_cons_succ, Act.put, List.setIfInBounds_toArray, List.set_cons_zero, List.set_cons_succ]
    refine wpAnyH_take (i := 6) (v := ?_) rfl (by kernel_rfl) (by kernel_rfl) (by kernel_rfl) (fun _ _ _ h => h) (Or.inl ⟨by rfl, ?_⟩) (by assumption) ?_
    rotate_left 1
    · intro w' hSw
      try dsimp only at hSw
      go_simp
      try with_reducible rfl
    try simp only [List.getElem_toArray, List.getElem_cons_zero, List.getElem_cons_succ, Act.put, List.setIfInBounds_toArray, List.set_cons_zero, List.set_cons_succ]
    refine wpAnyH_take (i := 7) (v := ?_) rfl (by kernel_rfl) (by kernel_rfl) (by kernel_rfl) (fun _ _ _ h => h) (Or.inl ⟨by rfl, ?_⟩) (by assumption) ?_
    rotate_left 1
    · intro w' hSw
      try dsimp only at hSw
      go_simp
      try with_reducible rfl
    try simp only [List.getElem_toArray, List.getElem_cons_zero, List.getElem_cons_succ, Act.put, List.setIfInBounds_toArray, List.set_cons_zero, List.set_cons_succ]
    refine wpAnyH_take (i := 8) (v := ?_) rfl (by kernel_rfl) (by kernel_rfl) (by kernel_rfl) (fun _ _ _ h => h) (Or.inl ⟨by rfl, ?_⟩) (by assumption) ?_
    rotate_left 1
    · intro w' hSw
      try dsimp only at hSw
      go_simp
      try with_reducible rfl
    try simp only [List.getElem_toArray, List.getElem_cons_zero, List.getElem_cons_succ, Act.put, List.setIfInBounds_toArray, List.set_cons_zero, List.set_cons_succ]
    refine wpAnyH_take (i := 9) (v := ?_) rfl (by kernel_rfl) (by kernel_rfl) (by kernel_rfl) (fun _ _ _ h => h) (Or.inl ⟨by rfl, ?_⟩) (by assumption) ?_
    rotate_left 1
    · intro w' hSw
      try dsimp only at hSw
      go_simp
      try with_reducible rfl
    try simp only [List.getElem_toArray, List.getElem_cons_zero, List.getElem_cons_succ, Act.put, List.setIfInBounds_toArray, List.set_cons_zero, List.set_cons_succ]
    refine wpAnyH_take (i := 10) (v := ?_) rfl (by kernel_rfl) (by kernel_rfl) (by kernel_rfl) (fun _ _ _ h => h) (Or.inl ⟨by rfl, ?_⟩) (by assumption) ?_
    rotate_left 1
    · intro w' hSw
      try dsimp only at hSw
      go_simp
      try with_reducible rfl
    try simp only [List.getElem_toArray, List.getElem_cons_zero, List.getElem_cons_succ, Act.put, List.setIfInBounds_toArray, List.set_cons_zero, List.set_cons_succ]
    refine wpAnyH_ready (rs := [5]) (by kernel_rfl) (by simp) ?_
    refine AllReadyH.cons rfl (fun K hK => ?_) AllReadyH.nil
    try simp only [List.getElem_toArray, List.getElem_cons_zero, List.getElem_cons_succ]
    go_simp
    go_at_call 37
    with_reducible refine (hold_any p A a1 _ c1 P a2 _ c2 L amt _ HT1.out HOK.out (HRA.out _ hot.out) HC1.out (HRB.out _ hot.out) HPA.out).mono ?_
    rintro _ wn ⟨rfl, ht, ho⟩
    have HRA2 := Lib.hid (HRA.out _ (hot.out.trans (ho.mono (fun k _ e => show k = p ∨ k = q from .inl e))))
    have HRB2 := Lib.hid (HRB.out _ (hot.out.trans (ho.mono (fun k _ e => show k = p ∨ k = q from .inl e))))
    replace hot := Lib.hid (hot.out.trans (ho.mono (fun k _ e => show k = p ∨ k = q from .inl e)))
    have HT2 := Lib.hid ht
    have HR2 := Lib.hid (HR1.out.only ho (fun e => HPQ.out e.symm))
    clear ho ht
    try dsimp only
    refine hK.out _ _ (HSL.out _ hot.out) (fun hHeld1 => ?_)
    clear hK K
    try simp only [List.getElem_toArray, List.getElem_cons_zero, List.getElem_cons_succ, Act.put, List.setIfInBounds_toArray, List.set_cons_zero, List.set_cons_succ]
    refine wpAnyH_ready (rs := [11]) (by kernel_rfl) (by simp) ?_
    refine AllReadyH.cons rfl (fun K hK => ?_) AllReadyH.nil
    try simp only [List.getElem_toArray, List.getElem_cons_zero, List.getElem_cons_succ]
    go_simp
    go_at_call 67
    with_reducible refine (rhold_any q A a1 _ c1 P a2 _ c2 L amt _ HR2.out HOK.out HRA2.out HC1.out HRB2.out HQA.out).mono ?_
    rintro _ wm ⟨rfl, ht, ho⟩
    replace hot := Lib.hid (hot.out.trans (ho.mono (fun k _ e => show k = p ∨ k = q from .inr e)))
    have HR3 := Lib.hid ht
    have HT3 := Lib.hid (HT2.out.only ho HPQ.out)
    clear ho ht
    try dsimp only
    refine hK.out _ _ (HSL.out _ hot.out) (fun hHeld2 => ?_)
    clear hK K
    try simp only [List.getElem_toArray, List.getElem_cons_zero, List.getElem_cons_succ, Act.put, List.setIfInBounds_toArray, List.set_cons_zero, List.set_cons_succ]
    refine wpAnyH_take (i := 12) (v := ?_) rfl (by kernel_rfl) (by kernel_rfl) (by kernel_rfl) (fun _ _ _ h => h) (Or.inl ⟨by rfl, ?_⟩) (by assumption) ?_
    rotate_left 1
    · intro w' hSw
      try dsimp only at hSw
      go_simp
      try with_reducible rfl
    try simp only [List.getElem_toArray, List.getElem_cons_zero, List.getElem_cons_succ, Act.put, List.setIfInBounds_toArray, List.set_cons_zero, List.set_cons_succ]
    refine wpAnyH_take (i := 13) (v := ?_) rfl (by kernel_rfl) (by kernel_rfl) (by kernel_rfl) (fun _ _ _ h => h) (Or.inl ⟨by rfl, ?_⟩) (by assumption) ?_
    rotate_left 1
    · intro w' hSw
      try dsimp only at hSw
      go_simp
      try with_reducible rfl
    try simp only [List.getElem_toArray, List.getElem_cons_zero, List.getElem_cons_succ, Act.put, List.setIfInBounds_toArray, List.set_cons_zero, List.set_cons_succ]
    refine wpAnyH_done (by kernel_rfl) ?_ _
    refine NoPanic.normal ?_
    have HB : Hid (FB b wm p q (holdA A P L amt)) := Lib.hid ⟨HT3.out, HR3.out, HPB.out.1, HPB.out.2, HPQ.out, HOK.out.holdA _ _ _⟩
    have HOF : Hid (Only (fun x => x = p ∨ x = q) w wm) := Lib.hid ((HO2.out.mono (fun _ _ f => f.elim)).trans hot.out)
    generalize holdE A P L amt = e' at *
    have hee : (e' == e') = true := by simp
    clear HSL hot HT3 HR3 HT2 HR2 HRA HRB HRA2 HRB2
    go_wp2_with fail
    go_ret
    exact ⟨rfl, ⟨_, HB.out⟩, HOF.out⟩
  · go_upto_region 8 with fail
    refine wp_region_noPanic ?_
    refine wp_region_held_drew (S := (fun w' => w'.cell? ⟨g, 1, none⟩ = some (.int .i64 node) ∧ w'.cell? ⟨g, 4, none⟩ = some (.int .i64 amt) ∧ w'.cell? ⟨g, 5, none⟩ = some (.bool carry) ∧ w'.cell? ⟨g, 6, none⟩ = some (.int .i64 xt) ∧ w'.cell? ⟨g, 7, none⟩ = some (.int .i64 xc) ∧ w'.cell? ⟨g, 8, none⟩ = some (.int .i64 xe) ∧ w'.cell? ⟨g, 9, none⟩ = some (.int .i64 xu) ∧ w'.cell? ⟨g, 10, none⟩ = some (.int .i64 xh))) (by kernel_rfl) (HSL.out _ (Only.refl _ _).drew) (fun hHeld => ?_)
    have hot : Hid (Only (fun x => x = p ∨ x = q) w2 w2.drew) := Lib.hid ((Only.refl (fun x => x = p ∨ x = q) w2).drew)
    have HT1 : Hid (BkAt w2.drew p A) := Lib.hid (HT.out.only ((Only.refl (fun _ => False) w2).drew) (fun f => f))
    have HR1 : Hid (BkAt w2.drew q A) := Lib.hid (HR.out.only ((Only.refl (fun _ => False) w2).drew) (fun f => f))
    refine wpAnyH_take (i := 0) (v := ?_) rfl (by kernel_rfl) (by kernel_rfl) (by kernel_rfl) (fun _ _ _ h => h) (Or.inl ⟨by rfl, ?_⟩) (by assumption) ?_
    rotate_left 1
    · intro w' hSw
      try dsimp only at hSw
      go_simp
      try with_reducible rfl
    try simp only [List.getElem_toArray, List.getElem_cons_zero, Act.put, List.setIfInBounds_toArray, List.set_cons_zero, List.set_cons_succ]
    refine wpAnyH_take (i := 1) (v := ?_) rfl (by kernel_rfl) (by kernel_rfl) (by kernel_rfl) (fun _ _ _ h => h) (Or.inl ⟨by rfl, ?_⟩) (by assumption) ?_
    rotate_left 1
    · intro w' hSw
      try dsimp only at hSw
      go_simp
      try with_reducible rfl
    try simp only [List.getElem_toArray, List.getElem_cons_zero, List.getElem_cons_succ, Act.put, List.setIfInBounds_toArray, List.set_cons_zero, List.set_cons_succ]
    refine wpAnyH_take (i := 2) (v := ?_) rfl (by kernel_rfl) (by kernel_rfl) (by kernel_rfl) (fun _ _ _ h => h) (Or.inl ⟨by rfl, ?_⟩) (by assumption) ?_
    rotate_left 1
    · intro w' hSw
      try dsimp only at hSw
      go_simp
      try with_reducible rfl
    try simp only [List.getElem_toArray, List.getElem_cons_zero, List.getElem_cons_succ, Act.put, List.setIfInBounds_toArray, List.set_cons_zero, List.set_cons_succ]
    refine wpAnyH_take (i := 3) (v := ?_) rfl (by kernel_rfl) (by kernel_rfl) (by kernel_rfl) (fun _ _ _ h => h) (Or.inl ⟨by rfl, ?_⟩) (by assumption) ?_
    rotate_left 1
    · intro w' hSw
      try dsimp only at hSw
      go_simp
      try with_reducible rfl
    try simp only [List.getElem_toArray, List.getElem_cons_zero, List.getElem_cons_succ, Act.put, List.setIfInBounds_toArray, List.set_cons_zero, List.set_cons_succ]
    refine wpAnyH_take (i := 5) (v := ?_) rfl (by kernel_rfl) (by kernel_rfl) (by kernel_rfl) (fun _ _ _ h => h) (Or.inl ⟨by rfl, ?_⟩) (by assumption) ?_
    rotate_left 1
    · intro w' hSw
      try dsimp only at hSw
      go_simp
      try with_reducible rfl
    try simp only [List.getElem_toArray, List.getElem_cons_zero, List.getElem_cons_succ, Act.put, List.setIfInBounds_toArray, List.set_cons_zero, List.set_cons_succ]
    refine wpAnyH_take (i := 6) (v := ?_) rfl (by kernel_rfl) (by kernel_rfl) (by kernel_rfl) (fun _ _ _ h => h) (Or.inl ⟨by rfl, ?_⟩) (by assumption) ?_
    rotate_left 1
    · intro w' hSw
      try dsimp only at hSw
      go_simp
      try with_reducible rfl
    try simp only [List.getElem_toArray, List.getElem_cons_zero, List.getElem_cons_succ, Act.put, List.setIfInBounds_toArray, List.set_cons_zero, List.set_cons_succ]
    refine wpAnyH_take (i := 7) (v := ?_) rfl (by kernel_rfl) (by kernel_rfl) (by kernel_rfl) (fun _ _ _ h => h) (Or.inl ⟨by rfl, ?_⟩) (by assumption) ?_
    rotate_left 1
    · intro w' hSw
      try dsimp only at hSw
      go_simp
      try with_reducible rfl
    try simp only [List.getElem_toArray, List.getElem_cons_zero, List.getElem_cons_succ, Act.put, List.setIfInBounds_toArray, List.set_cons_zero, List.set_cons_succ]
    refine wpAnyH_take (i := 8) (v := ?_) rfl (by kernel_rfl) (by kernel_rfl) (by kernel_rfl) (fun _ _ _ h => h) (Or.inl ⟨by rfl, ?_⟩) (by assumption) ?_
    rotate_left 1
    · intro w' hSw
      try dsimp only at hSw
      go_simp
      try with_reducible rfl
    try simp only [List.getElem_toArray, List.getElem_cons_zero, List.getElem_cons_succ, Act.put, List.setIfInBounds_toArray, List.set_cons_zero, List.set_cons_succ]
    refine wpAnyH_ready (rs := [4]) (by kernel_rfl) (by simp) ?_
    refine AllReadyH.cons rfl (fun K hK => ?_) AllReadyH.nil
    try simp only [List.getElem_toArray, List.getElem_cons_zero, List.getElem_cons_succ]
    go_simp
    go_at_call 38
    with_reducible refine (release_any p A a1 _ c1 P amt _ HT1.out HOK.out (HRA.out _ hot.out) HC1.out HPA.out).mono ?_
    rintro _ wn ⟨rfl, ht, ho⟩
    have HRA2 := Lib.hid (HRA.out _ (hot.out.trans (ho.mono (fun k _ e => show k = p ∨ k = q from .inl e))))
    have HRB2 := Lib.hid (HRB.out _ (hot.out.trans (ho.mono (fun k _ e => show k = p ∨ k = q from .inl e))))
    replace hot := Lib.hid (hot.out.trans (ho.mono (fun k _ e => show k = p ∨ k = q from .inl e)))
    have HT2 := Lib.hid ht
    have HR2 := Lib.hid (HR1.out.only ho (fun e => HPQ.out e.symm))
    clear ho ht
    try dsimp only
    refine hK.out _ _ (HSL.out _ hot.out) (fun hHeld1 => ?_)
    clear hK K
    try simp only [List.getElem_toArray, List.getElem_cons_zero, List.getElem_cons_succ, Act.put, List.setIfInBounds_toArray, List.set_cons_zero, List.set_cons_succ]
    refine wpAnyH_ready (rs := [9]) (by kernel_rfl) (by simp) ?_
    refine AllReadyH.cons rfl (fun K hK => ?_) AllReadyH.nil
    try simp only [List.getElem_toArray, List.getElem_cons_zero, List.getElem_cons_succ]
    go_simp
    go_at_call 68
    with_reducible refine (rmove0_any q A a1 _ c1 P amt _ HR2.out HOK.out HRA2.out HC1.out HQA.out).mono ?_
    rintro _ wm ⟨rfl, ht, ho⟩
    replace hot := Lib.hid (hot.out.trans (ho.mono (fun k _ e => show k = p ∨ k = q from .inr e)))
    have HR3 := Lib.hid ht
    have HT3 := Lib.hid (HT2.out.only ho HPQ.out)
    clear ho ht
    try dsimp only
    refine hK.out _ _ (HSL.out _ hot.out) (fun hHeld2 => ?_)
    clear hK K
    try simp only [List.getElem_toArray, List.getElem_cons_zero, List.getElem_cons_succ, Act.put, List.setIfInBounds_toArray, List.set_cons_zero, List.set_cons_succ]
    refine wpAnyH_take (i := 10) (v := ?_) rfl (by kernel_rfl) (by kernel_rfl) (by kernel_rfl) (fun _ _ _ h => h) (Or.inl ⟨by rfl, ?_⟩) (by assumption) ?_
    rotate_left 1
    · intro w' hSw
      try dsimp only at hSw
      go_simp
      try with_reducible rfl
    try simp only [List.getElem_toArray, List.getElem_cons_zero, List.getElem_cons_succ, Act.put, List.setIfInBounds_toArray, List.set_cons_zero, List.set_cons_succ]
    refine wpAnyH_take (i := 11) (v := ?_) rfl (by kernel_rfl) (by kernel_rfl) (by kernel_rfl) (fun _ _ _ h => h) (Or.inl ⟨by rfl, ?_⟩) (by assumption) ?_
    rotate_left 1
    · intro w' hSw
      try dsimp only at hSw
      go_simp
      try with_reducible rfl
    try simp only [List.getElem_toArray, List.getElem_cons_zero, List.getElem_cons_succ, Act.put, List.setIfInBounds_toArray, List.set_cons_zero, List.set_cons_succ]
    refine wpAnyH_done (by kernel_rfl) ?_ _
    refine NoPanic.normal ?_
    have HB : Hid (FB b wm p q (shA A P amt (-amt) (0))) := Lib.hid ⟨HT3.out, HR3.out, HPB.out.1, HPB.out.2, HPQ.out, HOK.out.shA P amt (fun h => by obtain ⟨q1, q2⟩ := h; omega)⟩
    have HOF : Hid (Only (fun x => x = p ∨ x = q) w wm) := Lib.hid ((HO2.out.mono (fun _ _ f => f.elim)).trans hot.out)
    generalize shE A P amt (-amt) (0) = e' at *
    have hee : (e' == e') = true := by simp
    clear HSL hot HT3 HR3 HT2 HR2 HRA HRB HRA2 HRB2
    go_wp2_with fail
    go_ret
    exact ⟨rfl, ⟨_, HB.out⟩, HOF.out⟩
  · go_upto_region 10 with fail
    refine wp_region_noPanic ?_
    refine wp_region_held_drew (S := (fun w' => w'.cell? ⟨g, 1, none⟩ = some (.int .i64 node) ∧ w'.cell? ⟨g, 4, none⟩ = some (.int .i64 amt) ∧ w'.cell? ⟨g, 5, none⟩ = some (.bool carry) ∧ w'.cell? ⟨g, 6, none⟩ = some (.int .i64 xt) ∧ w'.cell? ⟨g, 7, none⟩ = some (.int .i64 xc) ∧ w'.cell? ⟨g, 8, none⟩ = some (.int .i64 xe) ∧ w'.cell? ⟨g, 9, none⟩ = some (.int .i64 xu) ∧ w'.cell? ⟨g, 10, none⟩ = some (.int .i64 xh))) (by kernel_rfl) (HSL.out _ (Only.refl _ _).drew) (fun hHeld => ?_)
    have hot : Hid (Only (fun x => x = p ∨ x = q) w2 w2.drew) := Lib.hid ((Only.refl (fun x => x = p ∨ x = q) w2).drew)
    have HT1 : Hid (BkAt w2.drew p A) := Lib.hid (HT.out.only ((Only.refl (fun _ => False) w2).drew) (fun f => f))
    have HR1 : Hid (BkAt w2.drew q A) := Lib.hid (HR.out.only ((Only.refl (fun _ => False) w2).drew) (fun f => f))
    refine wpAnyH_take (i := 0) (v := ?_) rfl (by kernel_rfl) (by kernel_rfl) (by kernel_rfl) (fun _ _ _ h => h) (Or.inl ⟨by rfl, ?_⟩) (by assumption) ?_
    rotate_left 1
    · intro w' hSw
      try dsimp only at hSw
      go_simp
      try with_reducible rfl
    try simp only [List.getElem_toArray, List.getElem_cons_zero, Act.put, List.setIfInBounds_toArray, List.set_cons_zero, List.set_cons_succ]
    refine wpAnyH_take (i := 1) (v := ?_) rfl (by kernel_rfl) (by kernel_rfl) (by kernel_rfl) (fun _ _ _ h => h) (Or.inl ⟨by rfl, ?_⟩) (by assumption) ?_
    rotate_left 1
    · intro w' hSw
      try dsimp only at hSw
      go_simp
      try with_reducible rfl
    try simp only [List.getElem_toArray, List.getElem_cons_zero, List.getElem_cons_succ, Act.put, List.setIfInBounds_toArray, List.set_cons_zero, List.set_cons_succ]
    refine wpAnyH_take (i := 2) (v := ?_) rfl (by kernel_rfl) (by kernel_rfl) (by kernel_rfl) (fun _ _ _ h => h) (Or.inl ⟨by rfl, ?_⟩) (by assumption) ?_
    rotate_left 1
    · intro w' hSw
      try dsimp only at hSw
      go_simp
      try with_reducible rfl
    try simp only [List.getElem_toArray, List.getElem_cons_zero, List.getElem_cons_succ, Act.put, List.setIfInBounds_toArray, List.set_cons_zero, List.set_cons_succ]
    refine wpAnyH_take (i := 3) (v := ?_) rfl (by kernel_rfl) (by kernel_rfl) (by kernel_rfl) (fun _ _ _ h => h) (Or.inl ⟨by rfl, ?_⟩) (by assumption) ?_
    rotate_left 1
    · intro w' hSw
      try dsimp only at hSw
      go_simp
      try with_reducible rfl
    try simp only [List.getElem_toArray, List.getElem_cons_zero, List.getElem_cons_succ, Act.put, List.setIfInBounds_toArray, List.set_cons_zero, List.set_cons_succ]
    refine wpAnyH_take (i := 5) (v := ?_) rfl (by kernel_rfl) (by kernel_rfl) (by kernel_rfl) (fun _ _ _ h => h) (Or.inl ⟨by rfl, ?_⟩) (by assumption) ?_
    rotate_left 1
    · intro w' hSw
      try dsimp only at hSw
      go_simp
      try with_reducible rfl
    try simp only [List.getElem_toArray, List.getElem_cons_zero, List.getElem_cons_succ, Act.put, List.setIfInBounds_toArray, List.set_cons_zero, List.set_cons_succ]
    refine wpAnyH_take (i := 6) (v := ?_) rfl (by kernel_rfl) (by kernel_rfl) (by kernel_rfl) (fun _ _ _ h => h) (Or.inl ⟨by rfl, ?_⟩) (by assumption) ?_
    rotate_left 1
    · intro w' hSw
      try dsimp only at hSw
      go_simp
      try with_reducible rfl
    try simp only [List.getElem_toArray, List.getElem_cons_zero, List.getElem_cons_succ, Act.put, List.setIfInBounds_toArray, List.set_cons_zero, List.set_cons_succ]
    refine wpAnyH_take (i := 7) (v := ?_) rfl (by kernel_rfl) (by kernel_rfl) (by kernel_rfl) (fun _ _ _ h => h) (Or.inl ⟨by rfl, ?_⟩) (by assumption) ?_
    rotate_left 1
    · intro w' hSw
      try dsimp only at hSw
      go_simp
      try with_reducible rfl
    try simp only [List.getElem_toArray, List.getElem_cons_zero, List.getElem_cons_succ, Act.put, List.setIfInBounds_toArray, List.set_cons_zero, List.set_cons_succ]
    refine wpAnyH_take (i := 8) (v := ?_) rfl (by kernel_rfl) (by kernel_rfl) (by kernel_rfl) (fun _ _ _ h => h) (Or.inl ⟨by rfl, ?_⟩) (by assumption) ?_
    rotate_left 1
    · intro w' hSw
      try dsimp only at hSw
      go_simp
      try with_reducible rfl
    try simp only [List.getElem_toArray, List.getElem_cons_zero, List.getElem_cons_succ, Act.put, List.setIfInBounds_toArray, List.set_cons_zero, List.set_cons_succ]
    refine wpAnyH_ready (rs := [4]) (by kernel_rfl) (by simp) ?_
    refine AllReadyH.cons rfl (fun K hK => ?_) AllReadyH.nil
    try simp only [List.getElem_toArray, List.getElem_cons_zero, List.getElem_cons_succ]
    go_simp
    go_at_call 39
    with_reducible refine (commit_any p A a1 _ c1 P amt _ HT1.out HOK.out (HRA.out _ hot.out) HC1.out HPA.out).mono ?_
    rintro _ wn ⟨rfl, ht, ho⟩
    have HRA2 := Lib.hid (HRA.out _ (hot.out.trans (ho.mono (fun k _ e => show k = p ∨ k = q from .inl e))))
    have HRB2 := Lib.hid (HRB.out _ (hot.out.trans (ho.mono (fun k _ e => show k = p ∨ k = q from .inl e))))
    replace hot := Lib.hid (hot.out.trans (ho.mono (fun k _ e => show k = p ∨ k = q from .inl e)))
    have HT2 := Lib.hid ht
    have HR2 := Lib.hid (HR1.out.only ho (fun e => HPQ.out e.symm))
    clear ho ht
    try dsimp only
    refine hK.out _ _ (HSL.out _ hot.out) (fun hHeld1 => ?_)
    clear hK K
    try simp only [List.getElem_toArray, List.getElem_cons_zero, List.getElem_cons_succ, Act.put, List.setIfInBounds_toArray, List.set_cons_zero, List.set_cons_succ]
    refine wpAnyH_ready (rs := [9]) (by kernel_rfl) (by simp) ?_
    refine AllReadyH.cons rfl (fun K hK => ?_) AllReadyH.nil
    try simp only [List.getElem_toArray, List.getElem_cons_zero, List.getElem_cons_succ]
    go_simp
    go_at_call 68
    with_reducible refine (rmove1_any q A a1 _ c1 P amt _ HR2.out HOK.out HRA2.out HC1.out HQA.out).mono ?_
    rintro _ wm ⟨rfl, ht, ho⟩
    replace hot := Lib.hid (hot.out.trans (ho.mono (fun k _ e => show k = p ∨ k = q from .inr e)))
    have HR3 := Lib.hid ht
    have HT3 := Lib.hid (HT2.out.only ho HPQ.out)
    clear ho ht
    try dsimp only
    refine hK.out _ _ (HSL.out _ hot.out) (fun hHeld2 => ?_)
    clear hK K
    try simp only [List.getElem_toArray, List.getElem_cons_zero, List.getElem_cons_succ, Act.put, List.setIfInBounds_toArray, List.set_cons_zero, List.set_cons_succ]
    refine wpAnyH_take (i := 10) (v := ?_) rfl (by kernel_rfl) (by kernel_rfl) (by kernel_rfl) (fun _ _ _ h => h) (Or.inl ⟨by rfl, ?_⟩) (by assumption) ?_
    rotate_left 1
    · intro w' hSw
      try dsimp only at hSw
      go_simp
      try with_reducible rfl
    try simp only [List.getElem_toArray, List.getElem_cons_zero, List.getElem_cons_succ, Act.put, List.setIfInBounds_toArray, List.set_cons_zero, List.set_cons_succ]
    refine wpAnyH_take (i := 11) (v := ?_) rfl (by kernel_rfl) (by kernel_rfl) (by kernel_rfl) (fun _ _ _ h => h) (Or.inl ⟨by rfl, ?_⟩) (by assumption) ?_
    rotate_left 1
    · intro w' hSw
      try dsimp only at hSw
      go_simp
      try with_reducible rfl
    try simp only [List.getElem_toArray, List.getElem_cons_zero, List.getElem_cons_succ, Act.put, List.setIfInBounds_toArray, List.set_cons_zero, List.set_cons_succ]
    refine wpAnyH_done (by kernel_rfl) ?_ _
    refine NoPanic.normal ?_
    have HB : Hid (FB b wm p q (shA A P amt (-amt) (amt))) := Lib.hid ⟨HT3.out, HR3.out, HPB.out.1, HPB.out.2, HPQ.out, HOK.out.shA P amt (fun h => by obtain ⟨q1, q2⟩ := h; omega)⟩
    have HOF : Hid (Only (fun x => x = p ∨ x = q) w wm) := Lib.hid ((HO2.out.mono (fun _ _ f => f.elim)).trans hot.out)
    generalize shE A P amt (-amt) (amt) = e' at *
    have hee : (e' == e') = true := by simp
    clear HSL hot HT3 HR3 HT2 HR2 HRA HRB HRA2 HRB2
    go_wp2_with fail
    go_ret
    exact ⟨rfl, ⟨_, HB.out⟩, HOF.out⟩
  · go_upto_region 12 with fail
    refine wp_region_noPanic ?_
    refine wp_region_held_drew (S := (fun w' => w'.cell? ⟨g, 1, none⟩ = some (.int .i64 node) ∧ w'.cell? ⟨g, 4, none⟩ = some (.int .i64 amt) ∧ w'.cell? ⟨g, 5, none⟩ = some (.bool carry) ∧ w'.cell? ⟨g, 6, none⟩ = some (.int .i64 xt) ∧ w'.cell? ⟨g, 7, none⟩ = some (.int .i64 xc) ∧ w'.cell? ⟨g, 8, none⟩ = some (.int .i64 xe) ∧ w'.cell? ⟨g, 9, none⟩ = some (.int .i64 xu) ∧ w'.cell? ⟨g, 10, none⟩ = some (.int .i64 xh))) (by kernel_rfl) (HSL.out _ (Only.refl _ _).drew) (fun hHeld => ?_)
    have hot : Hid (Only (fun x => x = p ∨ x = q) w2 w2.drew) := Lib.hid ((Only.refl (fun x => x = p ∨ x = q) w2).drew)
    have HT1 : Hid (BkAt w2.drew p A) := Lib.hid (HT.out.only ((Only.refl (fun _ => False) w2).drew) (fun f => f))
    have HR1 : Hid (BkAt w2.drew q A) := Lib.hid (HR.out.only ((Only.refl (fun _ => False) w2).drew) (fun f => f))
    refine wpAnyH_take (i := 0) (v := ?_) rfl (by kernel_rfl) (by kernel_rfl) (by kernel_rfl) (fun _ _ _ h => h) (Or.inl ⟨by rfl, ?_⟩) (by assumption) ?_
    rotate_left 1
    · intro w' hSw
      try dsimp only at hSw
      go_simp
      try with_reducible rfl
    try simp only [List.getElem_toArray, List.getElem_cons_zero, Act.put, List.setIfInBounds_toArray, List.set_cons_zero, List.set_cons_succ]
    refine wpAnyH_take (i := 1) (v := ?_) rfl (by kernel_rfl) (by kernel_rfl) (by kernel_rfl) (fun _ _ _ h => h) (Or.inl ⟨by rfl, ?_⟩) (by assumption) ?_
    rotate_left 1
    · intro w' hSw
      try dsimp only at hSw
      go_simp
      try with_reducible rfl
    try simp only [List.getElem_toArray, List.getElem_cons_zero, List.getElem_cons_succ, Act.put, List.setIfInBounds_toArray, List.set_cons_zero, List.set_cons_succ]
    refine wpAnyH_take (i := 2) (v := ?_) rfl (by kernel_rfl) (by kernel_rfl) (by kernel_rfl) (fun _ _ _ h => h) (Or.inl ⟨by rfl, ?_⟩) (by assumption) ?_
    rotate_left 1
    · intro w' hSw
      try dsimp only at hSw
      go_simp
      try with_reducible rfl
    try simp only [List.getElem_toArray, List.getElem_cons_zero, List.getElem_cons_succ, Act.put, List.setIfInBounds_toArray, List.set_cons_zero, List.set_cons_succ]
    refine wpAnyH_take (i := 3) (v := ?_) rfl (by kernel_rfl) (by kernel_rfl) (by kernel_rfl) (fun _ _ _ h => h) (Or.inl ⟨by rfl, ?_⟩) (by assumption) ?_
    rotate_left 1
    · intro w' hSw
      try dsimp only at hSw
      go_simp
      try with_reducible rfl
    try simp only [List.getElem_toArray, List.getElem_cons_zero, List.getElem_cons_succ, Act.put, List.setIfInBounds_toArray, List.set_cons_zero, List.set_cons_succ]
    refine wpAnyH_take (i := 5) (v := ?_) rfl (by kernel_rfl) (by kernel_rfl) (by kernel_rfl) (fun _ _ _ h => h) (Or.inl ⟨by rfl, ?_⟩) (by assumption) ?_
    rotate_left 1
    · intro w' hSw
      try dsimp only at hSw
      go_simp
      try with_reducible rfl
    try simp only [List.getElem_toArray, List.getElem_cons_zero, List.getElem_cons_succ, Act.put, List.setIfInBounds_toArray, List.set_cons_zero, List.set_cons_succ]
    refine wpAnyH_take (i := 6) (v := ?_) rfl (by kernel_rfl) (by kernel_rfl) (by kernel_rfl) (fun _ _ _ h => h) (Or.inl ⟨by rfl, ?_⟩) (by assumption) ?_
    rotate_left 1
    · intro w' hSw
      try dsimp only at hSw
      go_simp
      try with_reducible rfl
    try simp only [List.getElem_toArray, List.getElem_cons_zero, List.getElem_cons_succ, Act.put, List.setIfInBounds_toArray, List.set_cons_zero, List.set_cons_succ]
    refine wpAnyH_take (i := 7) (v := ?_) rfl (by kernel_rfl) (by kernel_rfl) (by kernel_rfl) (fun _ _ _ h => h) (Or.inl ⟨by rfl, ?_⟩) (by assumption) ?_
    rotate_left 1
    · intro w' hSw
      try dsimp only at hSw
      go_simp
      try with_reducible rfl
    try simp only [List.getElem_toArray, List.getElem_cons_zero, List.getElem_cons_succ, Act.put, List.setIfInBounds_toArray, List.set_cons_zero, List.set_cons_succ]
    refine wpAnyH_take (i := 8) (v := ?_) rfl (by kernel_rfl) (by kernel_rfl) (by kernel_rfl) (fun _ _ _ h => h) (Or.inl ⟨by rfl, ?_⟩) (by assumption) ?_
    rotate_left 1
    · intro w' hSw
      try dsimp only at hSw
      go_simp
      try with_reducible rfl
    try simp only [List.getElem_toArray, List.getElem_cons_zero, List.getElem_cons_succ, Act.put, List.setIfInBounds_toArray, List.set_cons_zero, List.set_cons_succ]
    refine wpAnyH_ready (rs := [4]) (by kernel_rfl) (by simp) ?_
    refine AllReadyH.cons rfl (fun K hK => ?_) AllReadyH.nil
    try simp only [List.getElem_toArray, List.getElem_cons_zero, List.getElem_cons_succ]
    go_simp
    go_at_call 40
    with_reducible refine (refund_any p A a1 _ c1 P amt _ HT1.out HOK.out (HRA.out _ hot.out) HC1.out HPA.out).mono ?_
    rintro _ wn ⟨rfl, ht, ho⟩
    have HRA2 := Lib.hid (HRA.out _ (hot.out.trans (ho.mono (fun k _ e => show k = p ∨ k = q from .inl e))))
    have HRB2 := Lib.hid (HRB.out _ (hot.out.trans (ho.mono (fun k _ e => show k = p ∨ k = q from .inl e))))
    replace hot := Lib.hid (hot.out.trans (ho.mono (fun k _ e => show k = p ∨ k = q from .inl e)))
    have HT2 := Lib.hid ht
    have HR2 := Lib.hid (HR1.out.only ho (fun e => HPQ.out e.symm))
    clear ho ht
    try dsimp only
    refine hK.out _ _ (HSL.out _ hot.out) (fun hHeld1 => ?_)
    clear hK K
    try simp only [List.getElem_toArray, List.getElem_cons_zero, List.getElem_cons_succ, Act.put, List.setIfInBounds_toArray, List.set_cons_zero, List.set_cons_succ]
    refine wpAnyH_ready (rs := [9]) (by kernel_rfl) (by simp) ?_
    refine AllReadyH.cons rfl (fun K hK => ?_) AllReadyH.nil
    try simp only [List.getElem_toArray, List.getElem_cons_zero, List.getElem_cons_succ]
    go_simp
    go_at_call 68
    with_reducible refine (rmove2_any q A a1 _ c1 P amt _ HR2.out HOK.out HRA2.out HC1.out HQA.out).mono ?_
    rintro _ wm ⟨rfl, ht, ho⟩
    replace hot := Lib.hid (hot.out.trans (ho.mono (fun k _ e => show k = p ∨ k = q from .inr e)))
    have HR3 := Lib.hid ht
    have HT3 := Lib.hid (HT2.out.only ho HPQ.out)
    clear ho ht
    try dsimp only
    refine hK.out _ _ (HSL.out _ hot.out) (fun hHeld2 => ?_)
    clear hK K
    try simp only [List.getElem_toArray, List.getElem_cons_zero, List.getElem_cons_succ, Act.put, List.setIfInBounds_toArray, List.set_cons_zero, List.set_cons_succ]
    refine wpAnyH_take (i := 10) (v := ?_) rfl (by kernel_rfl) (by kernel_rfl) (by kernel_rfl) (fun _ _ _ h => h) (Or.inl ⟨by rfl, ?_⟩) (by assumption) ?_
    rotate_left 1
    · intro w' hSw
      try dsimp only at hSw
      go_simp
      try with_reducible rfl
    try simp only [List.getElem_toArray, List.getElem_cons_zero, List.getElem_cons_succ, Act.put, List.setIfInBounds_toArray, List.set_cons_zero, List.set_cons_succ]
    refine wpAnyH_take (i := 11) (v := ?_) rfl (by kernel_rfl) (by kernel_rfl) (by kernel_rfl) (fun _ _ _ h => h) (Or.inl ⟨by rfl, ?_⟩) (by assumption) ?_
    rotate_left 1
    · intro w' hSw
      try dsimp only at hSw
      go_simp
      try with_reducible rfl
    try simp only [List.getElem_toArray, List.getElem_cons_zero, List.getElem_cons_succ, Act.put, List.setIfInBounds_toArray, List.set_cons_zero, List.set_cons_succ]
    refine wpAnyH_done (by kernel_rfl) ?_ _
    refine NoPanic.normal ?_
    have HB : Hid (FB b wm p q (shA A P amt (0) (-amt))) := Lib.hid ⟨HT3.out, HR3.out, HPB.out.1, HPB.out.2, HPQ.out, HOK.out.shA P amt (fun h => by obtain ⟨q1, q2⟩ := h; omega)⟩
    have HOF : Hid (Only (fun x => x = p ∨ x = q) w wm) := Lib.hid ((HO2.out.mono (fun _ _ f => f.elim)).trans hot.out)
    generalize shE A P amt (0) (-amt) = e' at *
    have hee : (e' == e') = true := by simp
    clear HSL hot HT3 HR3 HT2 HR2 HRA HRB HRA2 HRB2
    go_wp2_with fail
    go_ret
    exact ⟨rfl, ⟨_, HB.out⟩, HOF.out⟩
  · go_wp2_with fail
    refine (roll_any p A node carry _ HT.out HOK.out).mono ?_
    rintro _ w3 ⟨rfl, ht, ho⟩
    have HT2 := Lib.hid ht
    have HR2 := Lib.hid (HR.out.only ho (fun e => HPQ.out e.symm))
    have HS2 := Lib.hid (HSL.out _ (ho.mono (fun k _ e => show k = p ∨ k = q from .inl e)))
    have HO3 := Lib.hid ((HO2.out.mono (fun _ _ f => f.elim)).trans (ho.mono (fun k _ e => show k = p ∨ k = q from .inl e)))
    obtain ⟨s1, s4, s5, -⟩ := HS2.out
    clear ht ho HS2 d1 d4 d5 d6 d7 d8 d9 d10
    go_wp2_with fail
    refine (rroll_any q A node carry _ HR2.out HOK.out).mono ?_
    rintro _ w4 ⟨rfl, ht, ho⟩
    have HB : Hid (FB b w4 p q (rollA A node carry)) := Lib.hid ⟨HT2.out.only ho HPQ.out, ht, HPB.out.1, HPB.out.2, HPQ.out, HOK.out.rollA _ _⟩
    have HOF : Hid (Only (fun x => x = p ∨ x = q) w w4) := Lib.hid (HO3.out.trans (ho.mono (fun k _ e => show k = p ∨ k = q from .inr e)))
    clear ht ho HT2 HR2 HO3 HSL HRA HRB
    generalize rollN A node carry = rn at *
    generalize rollE node = re at *
    have h1 : (rn == rn) = true := by simp
    have h2 : (re == re) = true := by simp
    go_wp2_with fail
    go_ret
    exact ⟨rfl, ⟨_, HB.out⟩, HOF.out⟩
  · have HTO : Hid (∀ w1, _) := Lib.hid (fun w1 => to_any ⟨xt, xc, xe, xu, xh⟩ w1)
    have HSE : Hid (∀ w1, BkAt w1 p A → _) := Lib.hid (fun w1 h => set_any p A node ⟨xt, xc, xe, xu, xh⟩ w1 h HOK.out.len)
    have HRI : Hid (∀ w1, _) := Lib.hid (fun w1 => rright_any ⟨xt, xc, xe, xu, xh⟩ w1)
    unfold aggA at HTO HSE HRI
    dsimp only at HTO HSE HRI
    by_cases hn : NodeOk node
    · by_cases hr : Right ⟨xt, xc, xe, xu, xh⟩
      · have HSA : Hid (setA A node ⟨xt, xc, xe, xu, xh⟩ = A.set node.toNat ⟨xt, xc, xe, xu, xh⟩ ∧ setE node ⟨xt, xc, xe, xu, xh⟩ = 0) := Lib.hid (by
          have e : setE node ⟨xt, xc, xe, xu, xh⟩ = 0 := by unfold setE; rw [if_pos ⟨hn, hr⟩]
          exact ⟨by unfold setA; rw [if_pos e], e⟩)
        have HRD : Hid (decide (Right ⟨xt, xc, xe, xu, xh⟩) = true) := Lib.hid (decide_eq_true hr)
        rw [HSA.out.1, HSA.out.2] at HSE
        rw [HRD.out] at HRI
        have HRR := Lib.hid hr
        obtain ⟨i1, i2⟩ := hn
        obtain ⟨k, rfl⟩ : ∃ k : Nat, node = k := ⟨node.toNat, by omega⟩
        rw [Int.toNat_natCast] at HSE
        have hk : k < 33 := by omega
        have hk2 : (k : Int) < 33 := by omega
        have hk0 : (0 : Int) ≤ k := by omega
        clear hr HSA HRD
        go_upto_region 17 with fail
        refine wp_region_noPanic ?_
        refine wp_region_held_drew (S := (fun w' => w'.cell? ⟨g, 1, none⟩ = some (.int .i64 (k : Int)) ∧ w'.cell? ⟨g, 4, none⟩ = some (.int .i64 amt) ∧ w'.cell? ⟨g, 5, none⟩ = some (.bool carry) ∧ w'.cell? ⟨g, 6, none⟩ = some (.int .i64 xt) ∧ w'.cell? ⟨g, 7, none⟩ = some (.int .i64 xc) ∧ w'.cell? ⟨g, 8, none⟩ = some (.int .i64 xe) ∧ w'.cell? ⟨g, 9, none⟩ = some (.int .i64 xu) ∧ w'.cell? ⟨g, 10, none⟩ = some (.int .i64 xh))) (by kernel_rfl) (HSL.out _ (Only.refl _ _).drew) (fun hHeld => ?_)
        have hot : Hid (Only (fun x => x = p ∨ x = q) w2 w2.drew) := Lib.hid ((Only.refl (fun x => x = p ∨ x = q) w2).drew)
        have HT1 : Hid (BkAt w2.drew p A) := Lib.hid (HT.out.only ((Only.refl (fun _ => False) w2).drew) (fun f => f))
        have HR1 : Hid (BkAt w2.drew q A) := Lib.hid (HR.out.only ((Only.refl (fun _ => False) w2).drew) (fun f => f))
        refine wpAnyH_take (i := 0) (v := ?_) rfl (by kernel_rfl) (by kernel_rfl) (by kernel_rfl) (fun _ _ _ h => h) (Or.inl ⟨by rfl, ?_⟩) (by assumption) ?_
        rotate_left 1
        · intro w' hSw
          try dsimp only at hSw
          go_simp
          try with_reducible rfl
        try simp only [List.getElem_toArray, List.getElem_cons_zero, Act.put, List.setIfInBounds_toArray, List.set_cons_zero, List.set_cons_succ]
        refine wpAnyH_take (i := 1) (v := ?_) rfl (by kernel_rfl) (by kernel_rfl) (by kernel_rfl) (fun _ _ _ h => h) (Or.inl ⟨by rfl, ?_⟩) (by assumption) ?_
        rotate_left 1
        · intro w' hSw
          try dsimp only at hSw
          go_simp
          try with_reducible rfl
        try simp only [List.getElem_toArray, List.getElem_cons_zero, List.getElem_cons_succ, Act.put, List.setIfInBounds_toArray, List.set_cons_zero, List.set_cons_succ]
        refine wpAnyH_take (i := 2) (v := ?_) rfl (by kernel_rfl) (by kernel_rfl) (by kernel_rfl) (fun _ _ _ h => h) (Or.inl ⟨by rfl, ?_⟩) (by assumption) ?_
        rotate_left 1
        · intro w' hSw
          try dsimp only at hSw
          go_simp
          try with_reducible rfl
        try simp only [List.getElem_toArray, List.getElem_cons_zero, List.getElem_cons_succ, Act.put, List.setIfInBounds_toArray, List.set_cons_zero, List.set_cons_succ]
        refine wpAnyH_take (i := 3) (v := ?_) rfl (by kernel_rfl) (by kernel_rfl) (by kernel_rfl) (fun _ _ _ h => h) (Or.inl ⟨by rfl, ?_⟩) (by assumption) ?_
        rotate_left 1
        · intro w' hSw
          try dsimp only at hSw
          go_simp
          try with_reducible rfl
        try simp only [List.getElem_toArray, List.getElem_cons_zero, List.getElem_cons_succ, Act.put, List.setIfInBounds_toArray, List.set_cons_zero, List.set_cons_succ]
        refine wpAnyH_take (i := 4) (v := ?_) rfl (by kernel_rfl) (by kernel_rfl) (by kernel_rfl) (fun _ _ _ h => h) (Or.inl ⟨by rfl, ?_⟩) (by assumption) ?_
        rotate_left 1
        · intro w' hSw
          try dsimp only at hSw
          go_simp
          try with_reducible rfl
        try simp only [List.getElem_toArray, List.getElem_cons_zero, List.getElem_cons_succ, Act.put, List.setIfInBounds_toArray, List.set_cons_zero, List.set_cons_succ]
        refine wpAnyH_ready (rs := [5]) (by kernel_rfl) (by simp) ?_
        refine AllReadyH.cons rfl (fun K hK => ?_) AllReadyH.nil
        try simp only [List.getElem_toArray, List.getElem_cons_zero, List.getElem_cons_succ]
        go_simp
        go_at_call 70
        with_reducible refine (HTO.out _).mono ?_
        rintro _ wn ⟨rfl, ho⟩
        have HT2 := Lib.hid (HT1.out.only ho (fun f => f))
        have HR2 := Lib.hid (HR1.out.only ho (fun f => f))
        replace hot := Lib.hid (hot.out.trans (ho.mono (fun k _ f => f.elim)))
        clear ho
        try dsimp only
        refine hK.out _ _ (HSL.out _ hot.out) (fun hHeld1 => ?_)
        clear hK K
        try simp only [List.getElem_toArray, List.getElem_cons_zero, List.getElem_cons_succ, Act.put, List.setIfInBounds_toArray, List.set_cons_zero, List.set_cons_succ]
        refine wpAnyH_ready (rs := [6]) (by kernel_rfl) (by simp) ?_
        refine AllReadyH.cons rfl (fun K hK => ?_) AllReadyH.nil
        try simp only [List.getElem_toArray, List.getElem_cons_zero, List.getElem_cons_succ]
        go_simp
        go_at_call 34
        with_reducible refine (HSE.out _ HT2.out).mono ?_
        rintro _ wm ⟨rfl, ht, ho⟩
        replace hot := Lib.hid (hot.out.trans (ho.mono (fun k _ e => show k = p ∨ k = q from .inl e)))
        have HT3 := Lib.hid ht
        have HR3 := Lib.hid (HR2.out.only ho (fun e => HPQ.out e.symm))
        clear ho ht
        try dsimp only
        refine hK.out _ _ (HSL.out _ hot.out) (fun hHeld2 => ?_)
        clear hK K
        try simp only [List.getElem_toArray, List.getElem_cons_zero, List.getElem_cons_succ, Act.put, List.setIfInBounds_toArray, List.set_cons_zero, List.set_cons_succ]
        refine wpAnyH_take (i := 7) (v := ?_) rfl (by kernel_rfl) (by kernel_rfl) (by kernel_rfl) (fun _ _ _ h => h) (Or.inl ⟨by rfl, ?_⟩) (by assumption) ?_
        rotate_left 1
        · intro w' hSw
          try dsimp only at hSw
          go_simp
          try with_reducible rfl
        try simp only [List.getElem_toArray, List.getElem_cons_zero, List.getElem_cons_succ, Act.put, List.setIfInBounds_toArray, List.set_cons_zero, List.set_cons_succ]
        refine wpAnyH_done (by kernel_rfl) ?_ _
        refine NoPanic.normal ?_
        have HS2 := Lib.hid (HSL.out _ hot.out)
        have HO3 : Hid (Only (fun x => x = p ∨ x = q) w wm) := Lib.hid ((HO2.out.mono (fun _ _ f => f.elim)).trans hot.out)
        obtain ⟨s1, s4, s5, s6, s7, s8, s9, s10⟩ := HS2.out
        clear HS2 d1 d4 d5 d6 d7 d8 d9 d10 hot HRA HRB HT2 HR2 HSE HTO
        go_wp2_with fail
        refine (rNode_yes _ _ i1 i2).mono ?_
        rintro _ _ ⟨rfl, rfl⟩
        go_wp2_with fail
        refine (HRI.out _).mono ?_
        rintro _ w5 ⟨rfl, ho⟩
        have HT5 := Lib.hid (HT3.out.only ho (fun f => f))
        have HR5 := Lib.hid (HR3.out.only ho (fun f => f))
        have HO5 := Lib.hid (HO3.out.trans (ho.mono (fun k _ f => f.elim)))
        replace s1 := ho.cell' s1 (fun f => f)
        replace s6 := ho.cell' s6 (fun f => f)
        replace s7 := ho.cell' s7 (fun f => f)
        replace s8 := ho.cell' s8 (fun f => f)
        replace s9 := ho.cell' s9 (fun f => f)
        replace s10 := ho.cell' s10 (fun f => f)
        clear ho HT3 HR3 HO3 HSL
        go_upto_region 20 with fail
        refine wp_region_noPanic ?_
        refine late.region (fun w' => ∀ q, w'.cell? q = w5.cell? q) (fun j => [8].contains j) (by kernel_rfl) (fun q => by simp) (fun hHeld => ?_)
        obtain ⟨z0, hz0⟩ : ∃ x, x = w5.drew := ⟨_, rfl⟩
        rw [← hz0] at hHeld ⊢
        have hou : Only (fun _ => False) w5 z0 := by rw [hz0]; exact (Only.refl _ _).drew
        have hb1 := HR5.out.only hou (fun f => f)
        obtain ⟨⟨u0, y0⟩, ⟨u1, y1⟩, ⟨u2, y2⟩, ⟨u3, y3⟩, ⟨u4, y4⟩, f0, f1, f2, f3, f4⟩ := hb1.room k hk
        have hps := put5_only z0 q (k * 5) (.int .i64 xt) (.int .i64 xc) (.int .i64 xe) (.int .i64 xu) (.int .i64 xh)
        have HW9 : Hid (FB b (put5 z0 q (k * 5) (.int .i64 xt) (.int .i64 xc) (.int .i64 xe) (.int .i64 xu) (.int .i64 xh)) p q (A.set k ⟨xt, xc, xe, xu, xh⟩)) := Lib.hid ⟨(HT5.out.only hou (fun f => f)).only hps HPQ.out, hb1.put HOK.out.len k ⟨xt, xc, xe, xu, xh⟩ hk, HPB.out.1, HPB.out.2, HPQ.out, HOK.out.set hk (by omega) HRR.out⟩
        have HW8 : Hid (Only (fun x => x = p ∨ x = q) w (put5 z0 q (k * 5) (.int .i64 xt) (.int .i64 xc) (.int .i64 xe) (.int .i64 xu) (.int .i64 xh))) := Lib.hid ((HO5.out.trans (hou.mono (fun _ _ f => f.elim))).trans (hps.mono (fun k _ e => show k = p ∨ k = q from .inr e)))
        unfold put5 at HW9 HW8
        clear hb1 hps
        clear hou hz0
        refine late.take (i := 0) [5, 6, 7, 8] (v := ?_) rfl (by kernel_rfl) (by kernel_rfl) (by kernel_rfl) (by kernel_rfl) (fun _ _ _ h => h) (Or.inl ⟨by rfl, ?_⟩) (by assumption) ?_
        rotate_left 1
        · intro w' hSw
          try dsimp only at hSw
          go_simp
          try with_reducible rfl
        try simp only [List.getElem_toArray, List.getElem_cons_zero, Act.put, List.setIfInBounds_toArray, List.set_cons_zero, List.set_cons_succ]
        refine late.take (i := 1) [2, 7, 8] (v := ?_) rfl (by kernel_rfl) (by kernel_rfl) (by kernel_rfl) (by kernel_rfl) (fun _ _ _ h => h) (Or.inl ⟨by rfl, ?_⟩) (by assumption) ?_
        rotate_left 1
        · intro w' hSw
          try dsimp only at hSw
          go_simp
          try with_reducible rfl
        try simp only [List.getElem_toArray, List.getElem_cons_zero, List.getElem_cons_succ, Act.put, List.setIfInBounds_toArray, List.set_cons_zero, List.set_cons_succ]
        refine late.take (i := 2) [7, 8] (v := ?_) rfl (by kernel_rfl) (by kernel_rfl) (by kernel_rfl) (by kernel_rfl) (fun _ _ _ h => h) (Or.inl ⟨by rfl, ?_⟩) (by assumption) ?_
        rotate_left 1
        · intro w' hSw
          try dsimp only at hSw
          go_simp
          try with_reducible rfl
        try simp only [List.getElem_toArray, List.getElem_cons_zero, List.getElem_cons_succ, Act.put, List.setIfInBounds_toArray, List.set_cons_zero, List.set_cons_succ]
        refine late.take (i := 3) [4, 7, 8] (v := ?_) rfl (by kernel_rfl) (by kernel_rfl) (by kernel_rfl) (by kernel_rfl) (fun _ _ _ h => h) (Or.inl ⟨by rfl, ?_⟩) (by assumption) ?_
        rotate_left 1
        · intro w' hSw
          try dsimp only at hSw
          go_simp
          try with_reducible rfl
        try simp only [List.getElem_toArray, List.getElem_cons_zero, List.getElem_cons_succ, Act.put, List.setIfInBounds_toArray, List.set_cons_zero, List.set_cons_succ]
        refine late.take (i := 4) [7, 8] (v := ?_) rfl (by kernel_rfl) (by kernel_rfl) (by kernel_rfl) (by kernel_rfl) (fun _ _ _ h => h) (Or.inl ⟨by rfl, ?_⟩) (by assumption) ?_
        rotate_left 1
        · intro w' hSw
          try dsimp only at hSw
          go_simp
          try with_reducible rfl
        try simp only [List.getElem_toArray, List.getElem_cons_zero, List.getElem_cons_succ, Act.put, List.setIfInBounds_toArray, List.set_cons_zero, List.set_cons_succ]
        refine late.take (i := 5) [6, 7, 8] (v := ?_) rfl (by kernel_rfl) (by kernel_rfl) (by kernel_rfl) (by kernel_rfl) (fun _ _ _ h => h) (Or.inl ⟨by rfl, ?_⟩) (by assumption) ?_
        rotate_left 1
        · intro w' hSw
          try dsimp only at hSw
          go_simp
          try with_reducible rfl
        try simp only [List.getElem_toArray, List.getElem_cons_zero, List.getElem_cons_succ, Act.put, List.setIfInBounds_toArray, List.set_cons_zero, List.set_cons_succ]
        refine late.take (i := 6) [7, 8] (v := ?_) rfl (by kernel_rfl) (by kernel_rfl) (by kernel_rfl) (by kernel_rfl) (fun _ _ _ h => h) (Or.inl ⟨by rfl, ?_⟩) (by assumption) ?_
        rotate_left 1
        · intro w' hSw
          try dsimp only at hSw
          go_simp
          try with_reducible rfl
        try simp only [List.getElem_toArray, List.getElem_cons_zero, List.getElem_cons_succ, Act.put, List.setIfInBounds_toArray, List.set_cons_zero, List.set_cons_succ]
        refine late.take (i := 7) [8] (v := ?_) rfl (by kernel_rfl) (by kernel_rfl) (by kernel_rfl) (by kernel_rfl) (fun _ _ _ h => h) (Or.inl ⟨by rfl, ?_⟩) (by assumption) ?_
        rotate_left 1
        · intro w' hSw
          try dsimp only at hSw
          go_simp
          try with_reducible rfl
        try simp only [List.getElem_toArray, List.getElem_cons_zero, List.getElem_cons_succ, Act.put, List.setIfInBounds_toArray, List.set_cons_zero, List.set_cons_succ]
        refine late.ready (rs := [8]) (by kernel_rfl) (by simp) ?_
        refine late.Each.cons rfl (fun K hK => ?_) late.Each.nil
        clear hHeld
        try simp only [List.getElem_toArray, List.getElem_cons_zero, List.getElem_cons_succ]
        go_simp
        refine hK.out _ _ (fun h => by cases h) (fun _ => ?_)
        clear hK K
        try simp only [List.getElem_toArray, List.getElem_cons_zero, List.getElem_cons_succ, Act.put, List.setIfInBounds_toArray, List.set_cons_zero, List.set_cons_succ]
        refine late.done (by kernel_rfl) ?_ _
        refine NoPanic.normal ?_
        go_wp2_with fail
        go_ret
        exact ⟨rfl, ⟨_, HW9.out⟩, HW8.out⟩
      · have HSA : Hid (setA A node ⟨xt, xc, xe, xu, xh⟩ = A ∧ setE node ⟨xt, xc, xe, xu, xh⟩ = 1) := Lib.hid (by
          have e : setE node ⟨xt, xc, xe, xu, xh⟩ = 1 := by unfold setE; rw [if_neg (fun q => hr q.2)]
          exact ⟨by unfold setA; rw [e]; rfl, e⟩)
        have HRD : Hid (decide (Right ⟨xt, xc, xe, xu, xh⟩) = false) := Lib.hid (decide_eq_false hr)
        rw [HSA.out.1, HSA.out.2] at HSE
        rw [HRD.out] at HRI
        obtain ⟨i1, i2⟩ := hn
        clear hr HSA HRD
        go_upto_region 17 with fail
        refine wp_region_noPanic ?_
        refine wp_region_held_drew (S := (fun w' => w'.cell? ⟨g, 1, none⟩ = some (.int .i64 node) ∧ w'.cell? ⟨g, 4, none⟩ = some (.int .i64 amt) ∧ w'.cell? ⟨g, 5, none⟩ = some (.bool carry) ∧ w'.cell? ⟨g, 6, none⟩ = some (.int .i64 xt) ∧ w'.cell? ⟨g, 7, none⟩ = some (.int .i64 xc) ∧ w'.cell? ⟨g, 8, none⟩ = some (.int .i64 xe) ∧ w'.cell? ⟨g, 9, none⟩ = some (.int .i64 xu) ∧ w'.cell? ⟨g, 10, none⟩ = some (.int .i64 xh))) (by kernel_rfl) (HSL.out _ (Only.refl _ _).drew) (fun hHeld => ?_)
        have hot : Hid (Only (fun x => x = p ∨ x = q) w2 w2.drew) := Lib.hid ((Only.refl (fun x => x = p ∨ x = q) w2).drew)
        have HT1 : Hid (BkAt w2.drew p A) := Lib.hid (HT.out.only ((Only.refl (fun _ => False) w2).drew) (fun f => f))
        have HR1 : Hid (BkAt w2.drew q A) := Lib.hid (HR.out.only ((Only.refl (fun _ => False) w2).drew) (fun f => f))
        refine wpAnyH_take (i := 0) (v := ?_) rfl (by kernel_rfl) (by kernel_rfl) (by kernel_rfl) (fun _ _ _ h => h) (Or.inl ⟨by rfl, ?_⟩) (by assumption) ?_
        rotate_left 1
        · intro w' hSw
          try dsimp only at hSw
          go_simp
          try with_reducible rfl
        try simp only [List.getElem_toArray, List.getElem_cons_zero, Act.put, List.setIfInBounds_toArray, List.set_cons_zero, List.set_cons_succ]
        refine wpAnyH_take (i := 1) (v := ?_) rfl (by kernel_rfl) (by kernel_rfl) (by kernel_rfl) (fun _ _ _ h => h) (Or.inl ⟨by rfl, ?_⟩) (by assumption) ?_
        rotate_left 1
        · intro w' hSw
          try dsimp only at hSw
          go_simp
          try with_reducible rfl
        try simp only [List.getElem_toArray, List.getElem_cons_zero, List.getElem_cons_succ, Act.put, List.setIfInBounds_toArray, List.set_cons_zero, List.set_cons_succ]
        refine wpAnyH_take (i := 2) (v := ?_) rfl (by kernel_rfl) (by kernel_rfl) (by kernel_rfl) (fun _ _ _ h => h) (Or.inl ⟨by rfl, ?_⟩) (by assumption) ?_
        rotate_left 1
        · intro w' hSw
          try dsimp only at hSw
          go_simp
          try with_reducible rfl
        try simp only [List.getElem_toArray, List.getElem_cons_zero, List.getElem_cons_succ, Act.put, List.setIfInBounds_toArray, List.set_cons_zero, List.set_cons_succ]
        refine wpAnyH_take (i := 3) (v := ?_) rfl (by kernel_rfl) (by kernel_rfl) (by kernel_rfl) (fun _ _ _ h => h) (Or.inl ⟨by rfl, ?_⟩) (by assumption) ?_
        rotate_left 1
        · intro w' hSw
          try dsimp only at hSw
          go_simp
          try with_reducible rfl
        try simp only [List.getElem_toArray, List.getElem_cons_zero, List.getElem_cons_succ, Act.put, List.setIfInBounds_toArray, List.set_cons_zero, List.set_cons_succ]
        refine wpAnyH_take (i := 4) (v := ?_) rfl (by kernel_rfl) (by kernel_rfl) (by kernel_rfl) (fun _ _ _ h => h) (Or.inl ⟨by rfl, ?_⟩) (by assumption) ?_
        rotate_left 1
        · intro w' hSw
          try dsimp only at hSw
          go_simp
          try with_reducible rfl
        try simp only [List.getElem_toArray, List.getElem_cons_zero, List.getElem_cons_succ, Act.put, List.setIfInBounds_toArray, List.set_cons_zero, List.set_cons_succ]
        refine wpAnyH_ready (rs := [5]) (by kernel_rfl) (by simp) ?_
        refine AllReadyH.cons rfl (fun K hK => ?_) AllReadyH.nil
        try simp only [List.getElem_toArray, List.getElem_cons_zero, List.getElem_cons_succ]
        go_simp
        go_at_call 70
        with_reducible refine (HTO.out _).mono ?_
        rintro _ wn ⟨rfl, ho⟩
        have HT2 := Lib.hid (HT1.out.only ho (fun f => f))
        have HR2 := Lib.hid (HR1.out.only ho (fun f => f))
        replace hot := Lib.hid (hot.out.trans (ho.mono (fun k _ f => f.elim)))
        clear ho
        try dsimp only
        refine hK.out _ _ (HSL.out _ hot.out) (fun hHeld1 => ?_)
        clear hK K
        try simp only [List.getElem_toArray, List.getElem_cons_zero, List.getElem_cons_succ, Act.put, List.setIfInBounds_toArray, List.set_cons_zero, List.set_cons_succ]
        refine wpAnyH_ready (rs := [6]) (by kernel_rfl) (by simp) ?_
        refine AllReadyH.cons rfl (fun K hK => ?_) AllReadyH.nil
        try simp only [List.getElem_toArray, List.getElem_cons_zero, List.getElem_cons_succ]
        go_simp
        go_at_call 34
        with_reducible refine (HSE.out _ HT2.out).mono ?_
        rintro _ wm ⟨rfl, ht, ho⟩
        replace hot := Lib.hid (hot.out.trans (ho.mono (fun k _ e => show k = p ∨ k = q from .inl e)))
        have HT3 := Lib.hid ht
        have HR3 := Lib.hid (HR2.out.only ho (fun e => HPQ.out e.symm))
        clear ho ht
        try dsimp only
        refine hK.out _ _ (HSL.out _ hot.out) (fun hHeld2 => ?_)
        clear hK K
        try simp only [List.getElem_toArray, List.getElem_cons_zero, List.getElem_cons_succ, Act.put, List.setIfInBounds_toArray, List.set_cons_zero, List.set_cons_succ]
        refine wpAnyH_take (i := 7) (v := ?_) rfl (by kernel_rfl) (by kernel_rfl) (by kernel_rfl) (fun _ _ _ h => h) (Or.inl ⟨by rfl, ?_⟩) (by assumption) ?_
        rotate_left 1
        · intro w' hSw
          try dsimp only at hSw
          go_simp
          try with_reducible rfl
        try simp only [List.getElem_toArray, List.getElem_cons_zero, List.getElem_cons_succ, Act.put, List.setIfInBounds_toArray, List.set_cons_zero, List.set_cons_succ]
        refine wpAnyH_done (by kernel_rfl) ?_ _
        refine NoPanic.normal ?_
        have HBB : Hid (FB b wm p q A) := Lib.hid ⟨HT3.out, HR3.out, HPB.out.1, HPB.out.2, HPQ.out, HOK.out⟩
        have HS2 := Lib.hid (HSL.out _ hot.out)
        have HO3 : Hid (Only (fun x => x = p ∨ x = q) w wm) := Lib.hid ((HO2.out.mono (fun _ _ f => f.elim)).trans hot.out)
        obtain ⟨s1, s4, s5, s6, s7, s8, s9, s10⟩ := HS2.out
        clear HS2 d1 d4 d5 d6 d7 d8 d9 d10 hot HRA HRB HT2 HR2 HSE HTO
        go_wp2_with fail
        refine (rNode_yes _ _ i1 i2).mono ?_
        rintro _ _ ⟨rfl, rfl⟩
        go_wp2_with fail
        refine (HRI.out _).mono ?_
        rintro _ w5 ⟨rfl, ho⟩
        have HT5 := Lib.hid (HT3.out.only ho (fun f => f))
        have HR5 := Lib.hid (HR3.out.only ho (fun f => f))
        have HO5 := Lib.hid (HO3.out.trans (ho.mono (fun k _ f => f.elim)))
        replace s1 := ho.cell' s1 (fun f => f)
        replace s6 := ho.cell' s6 (fun f => f)
        replace s7 := ho.cell' s7 (fun f => f)
        replace s8 := ho.cell' s8 (fun f => f)
        replace s9 := ho.cell' s9 (fun f => f)
        replace s10 := ho.cell' s10 (fun f => f)
        clear ho HT3 HR3 HO3 HSL
        have HB5 : Hid (FB b w5 p q A) := Lib.hid ⟨HT5.out, HR5.out, HPB.out.1, HPB.out.2, HPQ.out, HOK.out⟩
        go_wp2_with fail
        go_ret
        exact ⟨rfl, ⟨_, HB5.out⟩, HO5.out⟩
    · have HSA : Hid (setA A node ⟨xt, xc, xe, xu, xh⟩ = A ∧ setE node ⟨xt, xc, xe, xu, xh⟩ = 1) := Lib.hid (by
        have e : setE node ⟨xt, xc, xe, xu, xh⟩ = 1 := by unfold setE; rw [if_neg (fun q => hn q.1)]
        exact ⟨by unfold setA; rw [e]; rfl, e⟩)
      rw [HSA.out.1, HSA.out.2] at HSE
      have hn' : ¬ (1 ≤ node ∧ node ≤ 32) := hn
      clear hn HSA HRI
      go_upto_region 17 with fail
      refine wp_region_noPanic ?_
      refine wp_region_held_drew (S := (fun w' => w'.cell? ⟨g, 1, none⟩ = some (.int .i64 node) ∧ w'.cell? ⟨g, 4, none⟩ = some (.int .i64 amt) ∧ w'.cell? ⟨g, 5, none⟩ = some (.bool carry) ∧ w'.cell? ⟨g, 6, none⟩ = some (.int .i64 xt) ∧ w'.cell? ⟨g, 7, none⟩ = some (.int .i64 xc) ∧ w'.cell? ⟨g, 8, none⟩ = some (.int .i64 xe) ∧ w'.cell? ⟨g, 9, none⟩ = some (.int .i64 xu) ∧ w'.cell? ⟨g, 10, none⟩ = some (.int .i64 xh))) (by kernel_rfl) (HSL.out _ (Only.refl _ _).drew) (fun hHeld => ?_)
      have hot : Hid (Only (fun x => x = p ∨ x = q) w2 w2.drew) := Lib.hid ((Only.refl (fun x => x = p ∨ x = q) w2).drew)
      have HT1 : Hid (BkAt w2.drew p A) := Lib.hid (HT.out.only ((Only.refl (fun _ => False) w2).drew) (fun f => f))
      have HR1 : Hid (BkAt w2.drew q A) := Lib.hid (HR.out.only ((Only.refl (fun _ => False) w2).drew) (fun f => f))
      refine wpAnyH_take (i := 0) (v := ?_) rfl (by kernel_rfl) (by kernel_rfl) (by kernel_rfl) (fun _ _ _ h => h) (Or.inl ⟨by rfl, ?_⟩) (by assumption) ?_
      rotate_left 1
      · intro w' hSw
        try dsimp only at hSw
        go_simp
        try with_reducible rfl
      try simp only [List.getElem_toArray, List.getElem_cons_zero, Act.put, List.setIfInBounds_toArray, List.set_cons_zero, List.set_cons_succ]
      refine wpAnyH_take (i := 1) (v := ?_) rfl (by kernel_rfl) (by kernel_rfl) (by kernel_rfl) (fun _ _ _ h => h) (Or.inl ⟨by rfl, ?_⟩) (by assumption) ?_
      rotate_left 1
      · intro w' hSw
        try dsimp only at hSw
        go_simp
        try with_reducible rfl
      try simp only [List.getElem_toArray, List.getElem_cons_zero, List.getElem_cons_succ, Act.put, List.setIfInBounds_toArray, List.set_cons_zero, List.set_cons_succ]
      refine wpAnyH_take (i := 2) (v := ?_) rfl (by kernel_rfl) (by kernel_rfl) (by kernel_rfl) (fun _ _ _ h => h) (Or.inl ⟨by rfl, ?_⟩) (by assumption) ?_
      rotate_left 1
      · intro w' hSw
        try dsimp only at hSw
        go_simp
        try with_reducible rfl
      try simp only [List.getElem_toArray, List.getElem_cons_zero, List.getElem_cons_succ, Act.put, List.setIfInBounds_toArray, List.set_cons_zero, List.set_cons_succ]
      refine wpAnyH_take (i := 3) (v := ?_) rfl (by kernel_rfl) (by kernel_rfl) (by kernel_rfl) (fun _ _ _ h => h) (Or.inl ⟨by rfl, ?_⟩) (by assumption) ?_
      rotate_left 1
      · intro w' hSw
        try dsimp only at hSw
        go_simp
        try with_reducible rfl
      try simp only [List.getElem_toArray, List.getElem_cons_zero, List.getElem_cons_succ, Act.put, List.setIfInBounds_toArray, List.set_cons_zero, List.set_cons_succ]
      refine wpAnyH_take (i := 4) (v := ?_) rfl (by kernel_rfl) (by kernel_rfl) (by kernel_rfl) (fun _ _ _ h => h) (Or.inl ⟨by rfl, ?_⟩) (by assumption) ?_
      rotate_left 1
      · intro w' hSw
        try dsimp only at hSw
        go_simp
        try with_reducible rfl
      try simp only [List.getElem_toArray, List.getElem_cons_zero, List.getElem_cons_succ, Act.put, List.setIfInBounds_toArray, List.set_cons_zero, List.set_cons_succ]
      refine wpAnyH_ready (rs := [5]) (by kernel_rfl) (by simp) ?_
      refine AllReadyH.cons rfl (fun K hK => ?_) AllReadyH.nil
      try simp only [List.getElem_toArray, List.getElem_cons_zero, List.getElem_cons_succ]
      go_simp
      go_at_call 70
      with_reducible refine (HTO.out _).mono ?_
      rintro _ wn ⟨rfl, ho⟩
      have HT2 := Lib.hid (HT1.out.only ho (fun f => f))
      have HR2 := Lib.hid (HR1.out.only ho (fun f => f))
      replace hot := Lib.hid (hot.out.trans (ho.mono (fun k _ f => f.elim)))
      clear ho
      try dsimp only
      refine hK.out _ _ (HSL.out _ hot.out) (fun hHeld1 => ?_)
      clear hK K
      try simp only [List.getElem_toArray, List.getElem_cons_zero, List.getElem_cons_succ, Act.put, List.setIfInBounds_toArray, List.set_cons_zero, List.set_cons_succ]
      refine wpAnyH_ready (rs := [6]) (by kernel_rfl) (by simp) ?_
      refine AllReadyH.cons rfl (fun K hK => ?_) AllReadyH.nil
      try simp only [List.getElem_toArray, List.getElem_cons_zero, List.getElem_cons_succ]
      go_simp
      go_at_call 34
      with_reducible refine (HSE.out _ HT2.out).mono ?_
      rintro _ wm ⟨rfl, ht, ho⟩
      replace hot := Lib.hid (hot.out.trans (ho.mono (fun k _ e => show k = p ∨ k = q from .inl e)))
      have HT3 := Lib.hid ht
      have HR3 := Lib.hid (HR2.out.only ho (fun e => HPQ.out e.symm))
      clear ho ht
      try dsimp only
      refine hK.out _ _ (HSL.out _ hot.out) (fun hHeld2 => ?_)
      clear hK K
      try simp only [List.getElem_toArray, List.getElem_cons_zero, List.getElem_cons_succ, Act.put, List.setIfInBounds_toArray, List.set_cons_zero, List.set_cons_succ]
      refine wpAnyH_take (i := 7) (v := ?_) rfl (by kernel_rfl) (by kernel_rfl) (by kernel_rfl) (fun _ _ _ h => h) (Or.inl ⟨by rfl, ?_⟩) (by assumption) ?_
      rotate_left 1
      · intro w' hSw
        try dsimp only at hSw
        go_simp
        try with_reducible rfl
      try simp only [List.getElem_toArray, List.getElem_cons_zero, List.getElem_cons_succ, Act.put, List.setIfInBounds_toArray, List.set_cons_zero, List.set_cons_succ]
      refine wpAnyH_done (by kernel_rfl) ?_ _
      refine NoPanic.normal ?_
      have HS2 := Lib.hid (HSL.out _ hot.out)
      have HO3 : Hid (Only (fun x => x = p ∨ x = q) w wm) := Lib.hid ((HO2.out.mono (fun _ _ f => f.elim)).trans hot.out)
      obtain ⟨s1, s4, s5, s6, s7, s8, s9, s10⟩ := HS2.out
      clear HS2 d1 d4 d5 d6 d7 d8 d9 d10 hot HRA HRB HT2 HR2 HSE HTO
      have HB5 : Hid (FB b wm p q A) := Lib.hid ⟨HT3.out, HR3.out, HPB.out.1, HPB.out.2, HPQ.out, HOK.out⟩
      go_wp2_with fail
      refine (rNode_no _ _ hn').mono ?_
      rintro _ _ ⟨rfl, rfl⟩
      go_wp2_with fail
      go_ret
      exact ⟨rfl, ⟨_, HB5.out⟩, HO3.out⟩
end Go.Proofs.Ytfpeimihlihphaa.fnd
