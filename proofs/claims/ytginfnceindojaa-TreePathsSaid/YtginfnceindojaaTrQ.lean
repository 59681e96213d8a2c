/- TreePaths' walk. -/
import Derived.Test.YtginfnceindojaaTrP
import Derived.Test.YtginfnceindojaaHeldL
import Derived.Deep.CutRange
import Derived.Deep.CutBlock
import Derived.IntWalk
namespace Go.Proofs.Ytginfnceindojaa.tre
open Go.RowKit mem
set_option linter.unusedVariables false

theorem RowS.cells {w : World} {a : Option Addr} {len : Nat} (h : RowS w a len) : len ≤ maxLen := h.1
set_option maxRecDepth 100000 in
set_option maxHeartbeats 8000000 in
theorem paths_any (a1 : Option Addr) (l1 c1 : Nat) (w : World) (h1 : RowS w a1 l1) :
    Calls Try.prog 4 #[.slice a1 l1 c1] w fun e w' => e = .returned (.bool true) ∧ Only (fun _ => False) w w' := by
  have H1 := Lib.hid h1
  have hm1 := h1.1
  unfold maxLen at hm1
  clear h1
  go_enter Try.func4, Try.ntmps4
  go_wp2_with fail
  refine (newB w.heap.size w (Nat.le_refl _)).mono ?_
  rintro _ w1 ⟨rfl, ht, ho⟩
  have HT1 := Lib.hid ht
  have HO1 : Hid (Only (fun q => w.heap.size ≤ q) w w1) := Lib.hid (ho.mono (fun _ _ f => f.elim))
  clear ht ho
  obtain ⟨p, hp⟩ : ∃ p, p = w.heap.size := ⟨_, rfl⟩
  simp only [← hp] at HT1 HO1 ⊢
  have HP0 := Lib.hid hp
  clear hp
  go_wp2_with fail
  refine (trees_any _).mono ?_
  rintro _ w3 ⟨rfl, ho⟩
  have HT3 := Lib.hid (HT1.out.only ho)
  have HO3 : Hid (Only (fun q => p ≤ q) w w3) := Lib.hid (HO1.out.trans (ho.mono (fun _ _ f => f.elim)))
  clear ho HO1 HT1
  go_upto_block 0 with fail
  go_cut [4] from 23 to 86 (fun pv wx => ∃ (T : List Nd) (pb : Bool), pv = .bool pb ∧ Hid (TB p wx p T) ∧ Hid (Only (fun q => p ≤ q) w wx))
  case first =>
    go_wp2_with fail
    go_loopw [4, 5] (fun pv iv wr => ∃ (k : Nat) (T : List Nd) (pb : Bool), k ≤ 60 ∧ iv = .int .i64 (k : Int) ∧ pv = .bool pb ∧ Hid (TB p wr p T) ∧ Hid (Only (fun q => p ≤ q) w wr)) (fun _ iv _ => 60 - (intOf iv).toNat)
    case atStart => exact ⟨0, T0, false, by omega, rfl, rfl, HT3, HO3⟩
    case round =>
      obtain ⟨k, T, pb, hk, rfl, rfl, HT, HO⟩ := hrel
      by_cases h8 : k < l1
      · by_cases h20 : k < 60
        · obtain ⟨b, off, rfl, hcell⟩ := H1.out.2.resolve_left (by omega)
          obtain ⟨x0, x1, x2, x3, x4, -, d0, d1, d2, d3, d4⟩ := hcell k h8
          have hnb : ¬ p ≤ b := by
            have := World.block_lt_of_cell? w _ d0
            have := HP0.out
            simp only at *
            omega
          replace d0 := HO.out.cell' d0 hnb
          replace d1 := HO.out.cell' d1 hnb
          replace d2 := HO.out.cell' d2 hnb
          replace d3 := HO.out.cell' d3 hnb
          replace d4 := HO.out.cell' d4 hnb
          clear hcell hnb
          have hk1 : (k : Int) < l1 := by omega
          have hk2 : (k : Int) < 60 := by omega
          have hk0 : (0 : Int) ≤ k := by omega
          have HZ := Lib.hid (tmod_in x0 5 (by decide) (by decide))
          obtain ⟨e0, e1, e2, e3, e4, ho9⟩ := node_box 40 (.int .i64 x0) (.int .i64 x1) (.int .i64 x2) (.int .i64 x3) (.int .i64 x4) (Only.refl (fun _ => False) wr)
          have HT4 := Lib.hid (HT.out.only ho9)
          have HO4 : Hid (Only (fun q => p ≤ q) w _) := Lib.hid (HO.out.trans (ho9.mono (fun _ _ f => f.elim)))
          clear ho9
          go_upto_region 12 with fail
          obtain ⟨w5, hw5⟩ : ∃ x, x = wr.alloc (.cells #[.int .i64 x0, .int .i64 x1, .int .i64 x2, .int .i64 x3, .int .i64 x4] 40) := ⟨_, rfl⟩
          obtain ⟨g5, hg5⟩ : ∃ x, x = wr.heap.size := ⟨_, rfl⟩
          simp only [← hw5, ← hg5] at e0 e1 e2 e3 e4 HT4 HO4 ⊢
          clear hw5 hg5 d0 d1 d2 d3 d4
          generalize wrap64 ((IntKind.u64.wrap x0).tmod 5) = z at *
          obtain ⟨hz0, hz5⟩ := HZ.out
          clear HZ
          have hzz : z = 0 ∨ z = 1 ∨ z = 2 ∨ z = 3 ∨ z = 4 := by omega
          clear hz0 hz5
          rcases hzz with rfl | rfl | rfl | rfl | rfl
          · go_wp2_with fail
            refine (createB HT4.out x1 x2 x3 x4).mono ?_
            rintro _ w6 ⟨rfl, ht, ho⟩
            have HT6 := Lib.hid ht
            have HO6 : Hid (Only (fun q => p ≤ q) w w6) := Lib.hid (HO4.out.trans (ho.mono (fun _ _ e => by omega)))
            clear ht ho HT HO HT4 HO4 e0 e1 e2 e3 e4
            go_wp2_with fail
            go_roundw
            case rel => exact ⟨k + 1, _, pb, by omega, by go_num, rfl, HT6, HO6⟩
            case measure => simp [intOf]; omega
          · go_wp2_with fail
            refine (moveB HT4.out x1 x2).mono ?_
            rintro _ w6 ⟨rfl, ht, ho⟩
            have HT6 := Lib.hid ht
            have HO6 : Hid (Only (fun q => p ≤ q) w w6) := Lib.hid (HO4.out.trans (ho.mono (fun _ _ e => by omega)))
            clear ht ho HT HO HT4 HO4 e0 e1 e2 e3 e4
            go_wp2_with fail
            go_roundw
            case rel => exact ⟨k + 1, _, pb, by omega, by go_num, rfl, HT6, HO6⟩
            case measure => simp [intOf]; omega
          · go_wp2_with fail
            refine (closeB HT4.out x1).mono ?_
            rintro _ w6 ⟨rfl, ht, ho⟩
            have HT6 := Lib.hid ht
            have HO6 : Hid (Only (fun q => p ≤ q) w w6) := Lib.hid (HO4.out.trans (ho.mono (fun _ _ e => by omega)))
            clear ht ho HT HO HT4 HO4 e0 e1 e2 e3 e4
            go_wp2_with fail
            go_roundw
            case rel => exact ⟨k + 1, _, pb, by omega, by go_num, rfl, HT6, HO6⟩
            case measure => simp [intOf]; omega
          · go_wp2_with fail
            refine (limitB HT4.out x1 x4).mono ?_
            rintro _ w6 ⟨rfl, ht, ho⟩
            have HT6 := Lib.hid ht
            have HO6 : Hid (Only (fun q => p ≤ q) w w6) := Lib.hid (HO4.out.trans (ho.mono (fun _ _ e => by omega)))
            clear ht ho HT HO HT4 HO4 e0 e1 e2 e3 e4
            go_wp2_with fail
            go_roundw
            case rel => exact ⟨k + 1, _, pb, by omega, by go_num, rfl, HT6, HO6⟩
            case measure => simp [intOf]; omega
          · go_wp2_with fail
            refine (putB HT4.out x1 x2 x3 x4 true).mono ?_
            rintro _ w6 ⟨rfl, ht, ho⟩
            have HT6 := Lib.hid ht
            have HO6 : Hid (Only (fun q => p ≤ q) w w6) := Lib.hid (HO4.out.trans (ho.mono (fun _ _ e => by omega)))
            clear ht ho HT HO HT4 HO4 e0 e1 e2 e3 e4
            go_wp2_with fail
            go_roundw
            case rel => exact ⟨k + 1, _, true, by omega, by go_num, rfl, HT6, HO6⟩
            case measure => simp [intOf]; omega
        · have hk2 : ¬ (k : Int) < 60 := by omega
          go_wp2_with fail
          go_meet
          exact ⟨T, pb, rfl, HT, HO⟩
      · go_wp2_with fail
        go_meet
        exact ⟨T, pb, rfl, HT, HO⟩
  case rest =>
    obtain ⟨T, pb, rfl, HT, HO⟩ := hcut
    rename World => w4
    clear HT3 HO3
    go_wp2_with fail
    refine (ids_any p T w4 HT.out.1).mono ?_
    rintro _ w5 ⟨⟨v, rfl, a, c, rfl, hr, hb⟩, ho⟩
    have HR := Lib.hid hr
    have HIN := Lib.hid (idsU_in T 33)
    have HT5 := Lib.hid (HT.out.only ho)
    have HO5 : Hid (Only (fun q => p ≤ q) w w5) := Lib.hid (HO.out.trans (ho.mono (fun _ _ f => f.elim)))
    have HIL : Hid (idsL T = idsU T 33) := Lib.hid rfl
    have hn33 : (idsL T).length ≤ 33 := idsU_len T 33
    rw [show idsU T 33 = idsL T from rfl] at HIN
    clear hr hb ho HT HO HIL
    generalize idsL T = IL at *
    generalize hn : IL.length = n at *
    have HN := Lib.hid hn
    clear hn
    go_wp2_with fail
    go_loopw [8] (fun iv wr => ∃ i : Nat, i ≤ n ∧ iv = .int .i64 (i : Int) ∧ Hid (Only (fun _ => False) w5 wr)) (fun iv _ => n - (intOf iv).toNat)
    case atStart => exact ⟨0, by omega, rfl, Lib.hid (Only.refl _ _)⟩
    case round =>
      obtain ⟨i, hi, rfl, HZ⟩ := hrel
      by_cases h9 : i < n
      · obtain ⟨b, off, rfl, hcell⟩ := HR.out.2.2.2.resolve_left (by omega)
        have e1 := HZ.out.cell' (hcell i h9) (fun f => f)
        have hmem : IL.getD i 0 ∈ IL := by
          have : IL.getD i 0 = IL[i]'(by rw [HN.out]; exact h9) := by simp [List.getD, HN.out, h9]
          rw [this]; exact List.getElem_mem _
        generalize IL.getD i 0 = u at *
        obtain ⟨-, -, hu⟩ := HIN.out u hmem
        clear hcell hmem
        have hi1 : (i : Int) < n := by omega
        have hi0 : (0 : Int) ≤ i := by omega
        have HT6 := Lib.hid (HT5.out.only HZ.out)
        have hkp := kindN_pos HT5.out.2.2 hu
        obtain ⟨j, hj⟩ : ∃ j, kindN T u = j + 1 := ⟨kindN T u - 1, by omega⟩
        have hj3 : j ≤ 2 := by omega
        have HGT : Hid (Calls Try.prog 17 #[.pointer (some ⟨p, 0, none⟩), .int .i64 u] wr fun e w' => e = .returned (.tuple #[aggN (T.getD u.toNat default), .int .i64 0]) ∧ Only (fun _ => False) wr w') := Lib.hid (by
          have := get_any p T u wr HT6.out.1
          rw [got_has' hu, show gotE T u = 0 by unfold gotE; rw [if_pos hu]] at this
          exact this)
        have HPA : Hid (∀ wy, TB p wy p T → Calls Try.prog 20 #[.pointer (some ⟨p, 0, none⟩), .int .i64 u] wy fun e w' => (∃ v, e = .returned (.tuple #[v, .int .i64 0]) ∧ RetI (pathL T u) wy v w') ∧ Only (fun _ => False) wy w') := Lib.hid (fun wy hy => by
          have := bigpath_any p T u wy hy.1 hy.2.2.inv
          rw [show gotE T u = 0 by unfold gotE; rw [if_pos hu], if_pos hu] at this
          exact this)
        have HPL : Hid ((pathL T u).length = j + 1) := Lib.hid ((pathL_len T u).trans hj)
        have HPLL : Hid ((pathL T u).getD j 0 = u) := Lib.hid (by have := pathL_last HT5.out.2.2 hu; rw [hj] at this; exact this)
        have hkn : (T.getD u.toNat default).kind = (j : Int) + 1 := by rw [hkp.2.2, hj]; omega
        have HPG : Hid (∀ k, k < j + 1 → hasB T ((pathL T u).getD k 0) = true ∧ (T.getD ((pathL T u).getD k 0).toNat default).kind = k + 1 ∧ ((T.getD ((pathL T u).getD k 0).toNat default).cl = true → (T.getD u.toNat default).cl = true) ∧ (belowL T ((pathL T u).getD k 0)).contains u = true) := Lib.hid (fun k hk => by
          obtain ⟨q1, q2, q3, q4⟩ := pathL_get HT5.out.2.2 hu k (by rw [hj]; exact hk)
          exact ⟨q1, q2, q3, below_has hu q4⟩)
        generalize pathL T u = PL at *
        generalize T.getD u.toNat default = nd at *
        obtain ⟨ni, np, nk, nl, nc⟩ := nd
        unfold aggN at HGT
        dsimp only at hkn HPG HGT
        subst hkn
        have HUS := Lib.hid hu
        clear hu hj hkp
        go_wp2_with fail
        refine HGT.out.mono ?_
        rintro _ w8 ⟨rfl, ho⟩
        obtain ⟨d0, d1, d2, d3, d4, ho9⟩ := node_box 33 (.int .i64 ni) (.int .i64 np) (.int .i64 ((j : Int) + 1)) (.int .i64 nl) (.bool nc) (Only.refl (fun _ => False) w8)
        have HZ9 := Lib.hid (HZ.out.trans (ho.trans ho9))
        replace e1 := (ho.trans ho9).cell' e1 (fun f => f)
        have HT9 := Lib.hid (HT6.out.only (ho.trans ho9))
        clear ho ho9 HGT HT6 HZ d0 d1 d3
        obtain ⟨w9, hw9⟩ : ∃ x, x = w8.alloc (.cells #[.int .i64 ni, .int .i64 np, .int .i64 ((j : Int) + 1), .int .i64 nl, .bool nc] 33) := ⟨_, rfl⟩
        obtain ⟨g8, hg8⟩ : ∃ x, x = w8.heap.size := ⟨_, rfl⟩
        rw [← hw9] at HZ9 e1 HT9
        rw [← hw9, ← hg8] at d2 d4
        go_upto_region 25 with fail
        rw [← hw9, ← hg8]
        clear hw9 hg8
        go_wp2_with fail
        refine (HPA.out _ HT9.out).mono ?_
        rintro _ wz ⟨⟨v, rfl, a2, c2, rfl, hr2, hb2⟩, ho⟩
        rw [HPL.out] at hr2 ⊢
        have HRP := Lib.hid hr2
        obtain ⟨b2, off2, rfl, hcell2⟩ := hr2.2.2.2.resolve_left (by omega)
        have HC2 := Lib.hid hcell2
        have c9 := hcell2 j (by omega)
        rw [HPLL.out] at c9
        replace e1 := ho.cell' e1 (fun f => f)
        replace d2 := ho.cell' d2 (fun f => f)
        replace d4 := ho.cell' d4 (fun f => f)
        have HZ10 := Lib.hid (HZ9.out.trans ho)
        have HT10 := Lib.hid (HT9.out.only ho)
        clear hr2 hb2 ho HZ9 HT9 HPA hcell2
        have hjj : (0 : Int) ≤ j := by omega
        have hjk : (j : Int) < (j : Int) + 1 := by omega
        have hwj : IntKind.i64.wrap (j : Int) = (j : Int) := IntWalk.i64_in _ (by omega)
        go_upto_region 26 with fail
        refine wp_region_noPanic ?_
        refine late.region (fun w' => ∀ q, w'.cell? q = wz.cell? q) (fun j => [].contains j) (by kernel_rfl) (fun q => by simp) (fun hHeld => ?_)
        refine late.take (i := 0) [1, 2, 3, 4, 5, 6, 7, 8, 9, 10, 11, 12, 13, 14, 15, 16, 17, 18, 19, 20, 21, 22, 23, 24, 25] (v := ?_) rfl (by kernel_rfl) (by kernel_rfl) (by kernel_rfl) (by kernel_rfl) (fun _ _ _ h => h) (Or.inl ⟨by rfl, ?_⟩) (by assumption) ?_
        rotate_left 1
        · intro w' hSw
          try dsimp only at hSw
          go_simp
          try with_reducible rfl
        try simp only [List.getElem_toArray, List.getElem_cons_zero, Act.put, List.setIfInBounds_toArray, List.set_cons_zero, List.set_cons_succ]
        refine late.take (i := 1) [2, 3, 4, 5, 6, 7, 8, 9, 10, 11, 12, 13, 14, 15, 16, 17, 18, 19, 20, 21, 22, 23, 24, 25] (v := ?_) rfl (by kernel_rfl) (by kernel_rfl) (by kernel_rfl) (by kernel_rfl) (fun _ _ _ h => h) (Or.inl ⟨by rfl, ?_⟩) (by assumption) ?_
        rotate_left 1
        · intro w' hSw
          try dsimp only at hSw
          go_simp
          try with_reducible rfl
        try simp only [List.getElem_toArray, List.getElem_cons_zero, List.getElem_cons_succ, Act.put, List.setIfInBounds_toArray, List.set_cons_zero, List.set_cons_succ]
        refine late.take (i := 2) [3, 4, 5, 6, 7, 8, 9, 10, 11, 12, 13, 14, 15, 16, 17, 18, 19, 20, 21, 22, 23, 24, 25] (v := ?_) rfl (by kernel_rfl) (by kernel_rfl) (by kernel_rfl) (by kernel_rfl) (fun _ _ _ h => h) (Or.inl ⟨by rfl, ?_⟩) (by assumption) ?_
        rotate_left 1
        · intro w' hSw
          try dsimp only at hSw
          go_simp
          try with_reducible rfl
        try simp only [List.getElem_toArray, List.getElem_cons_zero, List.getElem_cons_succ, Act.put, List.setIfInBounds_toArray, List.set_cons_zero, List.set_cons_succ]
        refine late.take (i := 3) [4, 5, 6, 7, 8, 9, 10, 11, 12, 13, 14, 15, 16, 17, 18, 19, 20, 21, 22, 23, 24, 25] (v := ?_) rfl (by kernel_rfl) (by kernel_rfl) (by kernel_rfl) (by kernel_rfl) (fun _ _ _ h => h) (Or.inl ⟨by rfl, ?_⟩) (by assumption) ?_
        rotate_left 1
        · intro w' hSw
          try dsimp only at hSw
          go_simp
          try with_reducible rfl
        try simp only [List.getElem_toArray, List.getElem_cons_zero, List.getElem_cons_succ, Act.put, List.setIfInBounds_toArray, List.set_cons_zero, List.set_cons_succ]
        refine late.take (i := 4) [5, 6, 7, 8, 9, 10, 11, 12, 13, 14, 15, 16, 17, 18, 19, 20, 21, 22, 23, 24, 25] (v := ?_) rfl (by kernel_rfl) (by kernel_rfl) (by kernel_rfl) (by kernel_rfl) (fun _ _ _ h => h) (Or.inl ⟨by rfl, ?_⟩) (by assumption) ?_
        rotate_left 1
        · intro w' hSw
          try dsimp only at hSw
          go_simp
          try with_reducible rfl
        try simp only [List.getElem_toArray, List.getElem_cons_zero, List.getElem_cons_succ, Act.put, List.setIfInBounds_toArray, List.set_cons_zero, List.set_cons_succ]
        refine late.take (i := 5) [6, 7, 8, 9, 10, 11, 12, 13, 14, 15, 16, 17, 18, 19, 20, 21, 22, 23, 24, 25] (v := ?_) rfl (by kernel_rfl) (by kernel_rfl) (by kernel_rfl) (by kernel_rfl) (fun _ _ _ h => h) (Or.inl ⟨by rfl, ?_⟩) (by assumption) ?_
        rotate_left 1
        · intro w' hSw
          try dsimp only at hSw
          go_simp
          try with_reducible rfl
        try simp only [List.getElem_toArray, List.getElem_cons_zero, List.getElem_cons_succ, Act.put, List.setIfInBounds_toArray, List.set_cons_zero, List.set_cons_succ]
        refine late.take (i := 6) [7, 8, 9, 10, 11, 12, 13, 14, 15, 16, 17, 18, 19, 20, 21, 22, 23, 24, 25] (v := ?_) rfl (by kernel_rfl) (by kernel_rfl) (by kernel_rfl) (by kernel_rfl) (fun _ _ _ h => h) (Or.inl ⟨by rfl, ?_⟩) (by assumption) ?_
        rotate_left 1
        · intro w' hSw
          try dsimp only at hSw
          go_simp
          try with_reducible rfl
        try simp only [List.getElem_toArray, List.getElem_cons_zero, List.getElem_cons_succ, Act.put, List.setIfInBounds_toArray, List.set_cons_zero, List.set_cons_succ]
        refine late.take (i := 7) [8, 11, 12, 13, 14, 15, 16, 17, 18, 19, 20, 21, 22, 23, 24, 25] (v := ?_) rfl (by kernel_rfl) (by kernel_rfl) (by kernel_rfl) (by kernel_rfl) (fun _ _ _ h => h) (Or.inl ⟨by rfl, ?_⟩) (by assumption) ?_
        rotate_left 1
        · intro w' hSw
          try dsimp only at hSw
          go_simp
          try with_reducible rfl
        try simp only [List.getElem_toArray, List.getElem_cons_zero, List.getElem_cons_succ, Act.put, List.setIfInBounds_toArray, List.set_cons_zero, List.set_cons_succ]
        refine late.take (i := 8) [11, 12, 13, 14, 15, 16, 17, 18, 19, 20, 21, 22, 23, 24, 25] (v := ?_) rfl (by kernel_rfl) (by kernel_rfl) (by kernel_rfl) (by kernel_rfl) (fun _ _ _ h => h) (Or.inl ⟨by rfl, ?_⟩) (by assumption) ?_
        rotate_left 1
        · intro w' hSw
          try dsimp only at hSw
          go_simp
          try with_reducible rfl
        try simp only [List.getElem_toArray, List.getElem_cons_zero, List.getElem_cons_succ, Act.put, List.setIfInBounds_toArray, List.set_cons_zero, List.set_cons_succ]
        refine late.take (i := 9) [10, 11, 12, 13, 14, 15, 16, 17, 18, 19, 20, 21, 22, 23, 24, 25] (v := ?_) rfl (by kernel_rfl) (by kernel_rfl) (by kernel_rfl) (by kernel_rfl) (fun _ _ _ h => h) (Or.inl ⟨by rfl, ?_⟩) (by assumption) ?_
        rotate_left 1
        · intro w' hSw
          try dsimp only at hSw
          go_simp
          try with_reducible rfl
        try simp only [List.getElem_toArray, List.getElem_cons_zero, List.getElem_cons_succ, Act.put, List.setIfInBounds_toArray, List.set_cons_zero, List.set_cons_succ]
        refine late.take (i := 10) [11, 12, 13, 14, 15, 16, 17, 18, 19, 20, 21, 22, 23, 24, 25] (v := ?_) rfl (by kernel_rfl) (by kernel_rfl) (by kernel_rfl) (by kernel_rfl) (fun _ _ _ h => h) (Or.inl ⟨by rfl, ?_⟩) (by assumption) ?_
        rotate_left 1
        · intro w' hSw
          try dsimp only at hSw
          go_simp
          try with_reducible rfl
        try simp only [List.getElem_toArray, List.getElem_cons_zero, List.getElem_cons_succ, Act.put, List.setIfInBounds_toArray, List.set_cons_zero, List.set_cons_succ]
        refine late.take (i := 11) [12, 13, 14, 15, 16, 17, 18, 19, 20, 21, 22, 23, 24, 25] (v := ?_) rfl (by kernel_rfl) (by kernel_rfl) (by kernel_rfl) (by kernel_rfl) (fun _ _ _ h => h) (Or.inl ⟨by rfl, ?_⟩) (by assumption) ?_
        rotate_left 1
        · intro w' hSw
          try dsimp only at hSw
          go_simp
          try with_reducible rfl
        try simp only [List.getElem_toArray, List.getElem_cons_zero, List.getElem_cons_succ, Act.put, List.setIfInBounds_toArray, List.set_cons_zero, List.set_cons_succ]
        refine late.take (i := 12) [13, 14, 15, 16, 17, 18, 19, 20, 21, 22, 23, 24, 25] (v := ?_) rfl (by kernel_rfl) (by kernel_rfl) (by kernel_rfl) (by kernel_rfl) (fun _ _ _ h => h) (Or.inl ⟨by rfl, ?_⟩) (by assumption) ?_
        rotate_left 1
        · intro w' hSw
          try dsimp only at hSw
          go_simp
          try with_reducible rfl
        try simp only [List.getElem_toArray, List.getElem_cons_zero, List.getElem_cons_succ, Act.put, List.setIfInBounds_toArray, List.set_cons_zero, List.set_cons_succ]
        refine late.take (i := 13) [14, 15, 16, 17, 18, 19, 20, 21, 22, 23, 24, 25] (v := ?_) rfl (by kernel_rfl) (by kernel_rfl) (by kernel_rfl) (by kernel_rfl) (fun _ _ _ h => h) (Or.inl ⟨by rfl, ?_⟩) (by assumption) ?_
        rotate_left 1
        · intro w' hSw
          try dsimp only at hSw
          go_simp
          try with_reducible rfl
        try simp only [List.getElem_toArray, List.getElem_cons_zero, List.getElem_cons_succ, Act.put, List.setIfInBounds_toArray, List.set_cons_zero, List.set_cons_succ]
        refine late.take (i := 14) [18, 19, 24, 25] (v := ?_) rfl (by kernel_rfl) (by kernel_rfl) (by kernel_rfl) (by kernel_rfl) (fun _ _ _ h => h) (Or.inl ⟨by rfl, ?_⟩) (by assumption) ?_
        rotate_left 1
        · intro w' hSw
          try dsimp only at hSw
          go_simp
          try with_reducible rfl
        try simp only [List.getElem_toArray, List.getElem_cons_zero, List.getElem_cons_succ, Act.put, List.setIfInBounds_toArray, List.set_cons_zero, List.set_cons_succ]
        refine late.take (i := 15) [16, 17, 18, 19, 24, 25] (v := ?_) rfl (by kernel_rfl) (by kernel_rfl) (by kernel_rfl) (by kernel_rfl) (fun _ _ _ h => h) (Or.inl ⟨by rfl, ?_⟩) (by assumption) ?_
        rotate_left 1
        · intro w' hSw
          try dsimp only at hSw
          go_simp
          try with_reducible rfl
        try simp only [List.getElem_toArray, List.getElem_cons_zero, List.getElem_cons_succ, Act.put, List.setIfInBounds_toArray, List.set_cons_zero, List.set_cons_succ]
        refine late.take (i := 16) [17, 18, 19, 24, 25] (v := ?_) rfl (by kernel_rfl) (by kernel_rfl) (by kernel_rfl) (by kernel_rfl) (fun _ _ _ h => h) (Or.inl ⟨by rfl, ?_⟩) (by assumption) ?_
        rotate_left 1
        · intro w' hSw
          try dsimp only at hSw
          go_simp
          try with_reducible rfl
        try simp only [List.getElem_toArray, List.getElem_cons_zero, List.getElem_cons_succ, Act.put, List.setIfInBounds_toArray, List.set_cons_zero, List.set_cons_succ]
        refine late.take (i := 17) [18, 19, 24, 25] (v := ?_) rfl (by kernel_rfl) (by kernel_rfl) (by kernel_rfl) (by kernel_rfl) (fun _ _ _ h => h) (Or.inl ⟨by rfl, ?_⟩) (by assumption) ?_
        rotate_left 1
        · intro w' hSw
          try dsimp only at hSw
          go_simp
          try with_reducible rfl
        try simp only [List.getElem_toArray, List.getElem_cons_zero, List.getElem_cons_succ, Act.put, List.setIfInBounds_toArray, List.set_cons_zero, List.set_cons_succ]
        refine late.take (i := 18) [19, 24, 25] (v := ?_) rfl (by kernel_rfl) (by kernel_rfl) (by kernel_rfl) (by kernel_rfl) (fun _ _ _ h => h) (Or.inl ⟨by rfl, ?_⟩) (by assumption) ?_
        rotate_left 1
        · intro w' hSw
          try dsimp only at hSw
          go_simp
          try with_reducible rfl
        try simp only [List.getElem_toArray, List.getElem_cons_zero, List.getElem_cons_succ, Act.put, List.setIfInBounds_toArray, List.set_cons_zero, List.set_cons_succ]
        refine late.take (i := 19) [24, 25] (v := ?_) rfl (by kernel_rfl) (by kernel_rfl) (by kernel_rfl) (by kernel_rfl) (fun _ _ _ h => h) (Or.inl ⟨by rfl, ?_⟩) (by assumption) ?_
        rotate_left 1
        · intro w' hSw
          try dsimp only at hSw
          go_simp
          try with_reducible rfl
        try simp only [List.getElem_toArray, List.getElem_cons_zero, List.getElem_cons_succ, Act.put, List.setIfInBounds_toArray, List.set_cons_zero, List.set_cons_succ]
        refine late.take (i := 20) [22, 23, 24, 25] (v := ?_) rfl (by kernel_rfl) (by kernel_rfl) (by kernel_rfl) (by kernel_rfl) (fun _ _ _ h => h) (Or.inl ⟨by rfl, ?_⟩) (by assumption) ?_
        rotate_left 1
        · intro w' hSw
          try dsimp only at hSw
          go_simp
          try with_reducible rfl
        try simp only [List.getElem_toArray, List.getElem_cons_zero, List.getElem_cons_succ, Act.put, List.setIfInBounds_toArray, List.set_cons_zero, List.set_cons_succ]
        refine late.take (i := 21) [22, 23, 24, 25] (v := ?_) rfl (by kernel_rfl) (by kernel_rfl) (by kernel_rfl) (by kernel_rfl) (fun _ _ _ h => h) (Or.inl ⟨by rfl, ?_⟩) (by assumption) ?_
        rotate_left 1
        · intro w' hSw
          try dsimp only at hSw
          go_simp
          try with_reducible rfl
        try simp only [List.getElem_toArray, List.getElem_cons_zero, List.getElem_cons_succ, Act.put, List.setIfInBounds_toArray, List.set_cons_zero, List.set_cons_succ]
        refine late.take (i := 22) [23, 24, 25] (v := ?_) rfl (by kernel_rfl) (by kernel_rfl) (by kernel_rfl) (by kernel_rfl) (fun _ _ _ h => h) (Or.inl ⟨by rfl, ?_⟩) (by assumption) ?_
        rotate_left 1
        · intro w' hSw
          try dsimp only at hSw
          go_simp
          try with_reducible rfl
        try simp only [List.getElem_toArray, List.getElem_cons_zero, List.getElem_cons_succ, Act.put, List.setIfInBounds_toArray, List.set_cons_zero, List.set_cons_succ]
        refine late.take (i := 23) [24, 25] (v := ?_) rfl (by kernel_rfl) (by kernel_rfl) (by kernel_rfl) (by kernel_rfl) (fun _ _ _ h => h) (Or.inl ⟨by rfl, ?_⟩) (by assumption) ?_
        rotate_left 1
        · intro w' hSw
          try dsimp only at hSw
          go_simp
          try with_reducible rfl
        try simp only [List.getElem_toArray, List.getElem_cons_zero, List.getElem_cons_succ, Act.put, List.setIfInBounds_toArray, List.set_cons_zero, List.set_cons_succ]
        refine late.take (i := 24) [25] (v := ?_) rfl (by kernel_rfl) (by kernel_rfl) (by kernel_rfl) (by kernel_rfl) (fun _ _ _ h => h) (Or.inl ⟨by rfl, ?_⟩) (by assumption) ?_
        rotate_left 1
        · intro w' hSw
          try dsimp only at hSw
          go_simp
          try with_reducible rfl
        try simp only [List.getElem_toArray, List.getElem_cons_zero, List.getElem_cons_succ, Act.put, List.setIfInBounds_toArray, List.set_cons_zero, List.set_cons_succ]
        refine late.take (i := 25) [] (v := ?_) rfl (by kernel_rfl) (by kernel_rfl) (by kernel_rfl) (by kernel_rfl) (fun _ _ _ h => h) (Or.inl ⟨by rfl, ?_⟩) (by assumption) ?_
        rotate_left 1
        · intro w' hSw
          try dsimp only at hSw
          go_simp
          try with_reducible rfl
        try simp only [List.getElem_toArray, List.getElem_cons_zero, List.getElem_cons_succ, Act.put, List.setIfInBounds_toArray, List.set_cons_zero, List.set_cons_succ]
        refine late.done (by kernel_rfl) ?_ _
        refine NoPanic.normal ?_
        go_wp2_with fail
        go_loopw [13] (fun iv wr => ∃ k : Nat, k ≤ j + 1 ∧ iv = .int .i64 (k : Int) ∧ Hid (Only (fun _ => False) wz wr)) (fun iv _ => j + 1 - (intOf iv).toNat)
        case atStart => exact ⟨0, by omega, rfl, Lib.hid (Only.refl _ _).drew⟩
        case round =>
          obtain ⟨k, hk, rfl, HX⟩ := hrel
          by_cases h10 : k < j + 1
          · have hcx := HX.out.cell' (HC2.out k h10) (fun f => f)
            have hk0 : (0 : Int) ≤ k := by omega
            have hk1 : (k : Int) < (j : Int) + 1 := by omega
            obtain ⟨q1, q2, q3, q4⟩ := HPG.out k h10
            generalize PL.getD k 0 = x at *
            have HTX := Lib.hid (HT10.out.only HX.out)
            have HGX : Hid (Calls Try.prog 17 #[.pointer (some ⟨p, 0, none⟩), .int .i64 x] wr fun e w' => e = .returned (.tuple #[aggN (T.getD x.toNat default), .int .i64 0]) ∧ Only (fun _ => False) wr w') := Lib.hid (by
              have := get_any p T x wr HTX.out.1
              rw [got_has' q1, show gotE T x = 0 by unfold gotE; rw [if_pos q1]] at this
              exact this)
            have HBX : Hid (∀ wy, TB p wy p T → Calls Try.prog 21 #[.pointer (some ⟨p, 0, none⟩), .int .i64 x] wy fun e w' => (∃ v, e = .returned (.tuple #[v, .int .i64 0]) ∧ RetI (belowL T x) wy v w') ∧ Only (fun _ => False) wy w') := Lib.hid (fun wy hy => by
              have := below_any p T x wy hy.1 hy.2.2.inv
              rw [show gotE T x = 0 by unfold gotE; rw [if_pos q1], if_pos q1] at this
              exact this)
            have HBN := Lib.hid (belowL_len T x)
            have HCO := Lib.hid q4
            have HCS := Lib.hid (contains_step (belowL T x) u)
            generalize belowL T x = BL at *
            generalize T.getD x.toNat default = nx at *
            obtain ⟨yi, yp, yk, yl, yc⟩ := nx
            unfold aggN at HGX
            dsimp only at q2 q3 HGX
            subst q2
            have HQ3 := Lib.hid q3
            have e1x := HX.out.cell' e1 (fun f => f)
            have d4x := HX.out.cell' d4 (fun f => f)
            clear q1 q3 q4
            go_wp2_with fail
            refine HGX.out.mono ?_
            rintro _ w11 ⟨rfl, ho⟩
            obtain ⟨f0, f1, f2, f3, f4, ho9⟩ := node_box 33 (.int .i64 yi) (.int .i64 yp) (.int .i64 ((k : Int) + 1)) (.int .i64 yl) (.bool yc) (Only.refl (fun _ => False) w11)
            have HX12 := Lib.hid (HX.out.trans (ho.trans ho9))
            replace e1x := (ho.trans ho9).cell' e1x (fun f => f)
            replace d4x := (ho.trans ho9).cell' d4x (fun f => f)
            replace hcx := (ho.trans ho9).cell' hcx (fun f => f)
            have HTX12 := Lib.hid (HTX.out.only (ho.trans ho9))
            clear ho ho9 HGX HTX f0 f1 f3
            obtain ⟨w12, hw12⟩ : ∃ x, x = w11.alloc (.cells #[.int .i64 yi, .int .i64 yp, .int .i64 ((k : Int) + 1), .int .i64 yl, .bool yc] 33) := ⟨_, rfl⟩
            obtain ⟨g11, hg11⟩ : ∃ x, x = w11.heap.size := ⟨_, rfl⟩
            rw [← hw12] at HX12 e1x d4x hcx HTX12
            rw [← hw12, ← hg11] at f2 f4
            go_upto_region 32 with fail
            rw [← hw12, ← hg11]
            clear hw12 hg11
            go_wp2_with fail
            refine (HBX.out _ HTX12.out).mono ?_
            rintro _ w13 ⟨⟨v, rfl, a3, c3, rfl, hr3, hb3⟩, ho⟩
            have HR3 := Lib.hid hr3
            replace e1x := ho.cell' e1x (fun f => f)
            replace d4x := ho.cell' d4x (fun f => f)
            replace f2 := ho.cell' f2 (fun f => f)
            replace f4 := ho.cell' f4 (fun f => f)
            have HX13 := Lib.hid (HX12.out.trans ho)
            clear hr3 hb3 ho hcx HX12 HTX12 HBX
            generalize hnb : BL.length = nb at *
            have HNB := Lib.hid hnb
            have hnb3 : nb ≤ 33 := HBN.out
            have E1 := Lib.hid e1x
            have D4 := Lib.hid d4x
            have F2 := Lib.hid f2
            have F4 := Lib.hid f4
            clear hnb HBN e1x d4x f2 f4
            go_wp2_with fail
            go_loopw [18, 19] (fun bv iv wr => ∃ s : Nat, s ≤ nb ∧ iv = .int .i64 (s : Int) ∧ bv = .bool ((BL.take s).contains u) ∧ Hid (Only (fun _ => False) w13 wr)) (fun _ iv _ => nb - (intOf iv).toNat)
            case atStart => exact ⟨0, by omega, rfl, rfl, Lib.hid (Only.refl _ _)⟩
            case round =>
              obtain ⟨s, hs, rfl, rfl, HY⟩ := hrel
              by_cases h11 : s < nb
              · obtain ⟨b3, off3, rfl, hcell3⟩ := HR3.out.2.2.2.resolve_left (by omega)
                have c3' := HY.out.cell' (hcell3 s h11) (fun f => f)
                have e1' := HY.out.cell' E1.out (fun f => f)
                clear hcell3
                have hs0 : (0 : Int) ≤ s := by omega
                have hs1 : (s : Int) < nb := by omega
                have hst := HCS.out s h11
                generalize BL.getD s 0 = y at *
                generalize (BL.take s).contains u = inn at *
                have HST := Lib.hid hst
                clear hst
                go_upto_region 37 with fail
                cases inn
                · by_cases hyu : y = u
                  · subst hyu
                    refine wp_region_noPanic ?_
                    refine late.region (fun w' => ∀ q, w'.cell? q = wr.cell? q) (fun j => [].contains j) (by kernel_rfl) (fun q => by simp) (fun hHeld => ?_)
                    refine late.take (i := 0) [] (v := ?_) rfl (by kernel_rfl) (by kernel_rfl) (by kernel_rfl) (by kernel_rfl) (fun _ _ _ h => h) (Or.inl ⟨by rfl, ?_⟩) (by assumption) ?_
                    rotate_left 1
                    · intro w' hSw
                      try dsimp only at hSw
                      go_simp
                      try with_reducible rfl
                    try simp only [List.getElem_toArray, List.getElem_cons_zero, Act.put, List.setIfInBounds_toArray, List.set_cons_zero, List.set_cons_succ]
                    refine late.take (i := 1) [] (v := ?_) rfl (by kernel_rfl) (by kernel_rfl) (by kernel_rfl) (by kernel_rfl) (fun _ _ _ h => h) (Or.inl ⟨by rfl, ?_⟩) (by assumption) ?_
                    rotate_left 1
                    · intro w' hSw
                      try dsimp only at hSw
                      go_simp
                      try with_reducible rfl
                    try simp only [List.getElem_toArray, List.getElem_cons_zero, List.getElem_cons_succ, Act.put, List.setIfInBounds_toArray, List.set_cons_zero, List.set_cons_succ]
                    refine late.take (i := 2) [] (v := ?_) rfl (by kernel_rfl) (by kernel_rfl) (by kernel_rfl) (by kernel_rfl) (fun _ _ _ h => h) (Or.inl ⟨by rfl, ?_⟩) (by assumption) ?_
                    rotate_left 1
                    · intro w' hSw
                      try dsimp only at hSw
                      go_simp
                      try with_reducible rfl
                    try simp only [List.getElem_toArray, List.getElem_cons_zero, List.getElem_cons_succ, Act.put, List.setIfInBounds_toArray, List.set_cons_zero, List.set_cons_succ]
                    refine late.take (i := 3) [] (v := ?_) rfl (by kernel_rfl) (by kernel_rfl) (by kernel_rfl) (by kernel_rfl) (fun _ _ _ h => h) (Or.inl ⟨by rfl, ?_⟩) (by assumption) ?_
                    rotate_left 1
                    · intro w' hSw
                      try dsimp only at hSw
                      go_simp
                      try with_reducible rfl
                    try simp only [List.getElem_toArray, List.getElem_cons_zero, List.getElem_cons_succ, Act.put, List.setIfInBounds_toArray, List.set_cons_zero, List.set_cons_succ]
                    refine late.take (i := 4) [] (v := ?_) rfl (by kernel_rfl) (by kernel_rfl) (by kernel_rfl) (by kernel_rfl) (fun _ _ _ h => h) (Or.inl ⟨by rfl, ?_⟩) (by assumption) ?_
                    rotate_left 1
                    · intro w' hSw
                      try dsimp only at hSw
                      go_simp
                      try with_reducible rfl
                    try simp only [List.getElem_toArray, List.getElem_cons_zero, List.getElem_cons_succ, Act.put, List.setIfInBounds_toArray, List.set_cons_zero, List.set_cons_succ]
                    refine late.take (i := 5) [] (v := ?_) rfl (by kernel_rfl) (by kernel_rfl) (by kernel_rfl) (by kernel_rfl) (fun _ _ _ h => h) (Or.inl ⟨by rfl, ?_⟩) (by assumption) ?_
                    rotate_left 1
                    · intro w' hSw
                      try dsimp only at hSw
                      go_simp
                      try with_reducible rfl
                    try simp only [List.getElem_toArray, List.getElem_cons_zero, List.getElem_cons_succ, Act.put, List.setIfInBounds_toArray, List.set_cons_zero, List.set_cons_succ]
                    refine late.take (i := 6) [] (v := ?_) rfl (by kernel_rfl) (by kernel_rfl) (by kernel_rfl) (by kernel_rfl) (fun _ _ _ h => h) (Or.inl ⟨by rfl, ?_⟩) (by assumption) ?_
                    rotate_left 1
                    · intro w' hSw
                      try dsimp only at hSw
                      go_simp
                      try with_reducible rfl
                    try simp only [List.getElem_toArray, List.getElem_cons_zero, List.getElem_cons_succ, Act.put, List.setIfInBounds_toArray, List.set_cons_zero, List.set_cons_succ]
                    refine late.take (i := 7) [] (v := ?_) rfl (by kernel_rfl) (by kernel_rfl) (by kernel_rfl) (by kernel_rfl) (fun _ _ _ h => h) (Or.inl ⟨by rfl, ?_⟩) (by assumption) ?_
                    rotate_left 1
                    · intro w' hSw
                      try dsimp only at hSw
                      go_simp
                      try with_reducible rfl
                    try simp only [List.getElem_toArray, List.getElem_cons_zero, List.getElem_cons_succ, Act.put, List.setIfInBounds_toArray, List.set_cons_zero, List.set_cons_succ]
                    refine late.take (i := 8) [] (v := ?_) rfl (by kernel_rfl) (by kernel_rfl) (by kernel_rfl) (by kernel_rfl) (fun _ _ _ h => h) (Or.inl ⟨by rfl, ?_⟩) (by assumption) ?_
                    rotate_left 1
                    · intro w' hSw
                      try dsimp only at hSw
                      go_simp
                      try with_reducible rfl
                    try simp only [List.getElem_toArray, List.getElem_cons_zero, List.getElem_cons_succ, Act.put, List.setIfInBounds_toArray, List.set_cons_zero, List.set_cons_succ]
                    refine late.take (i := 9) [] (v := ?_) rfl (by kernel_rfl) (by kernel_rfl) (by kernel_rfl) (by kernel_rfl) (fun _ _ _ h => h) (Or.inl ⟨by rfl, ?_⟩) (by assumption) ?_
                    rotate_left 1
                    · intro w' hSw
                      try dsimp only at hSw
                      go_simp
                      try with_reducible rfl
                    try simp only [List.getElem_toArray, List.getElem_cons_zero, List.getElem_cons_succ, Act.put, List.setIfInBounds_toArray, List.set_cons_zero, List.set_cons_succ]
                    refine late.take (i := 10) [] (v := ?_) rfl (by kernel_rfl) (by kernel_rfl) (by kernel_rfl) (by kernel_rfl) (fun _ _ _ h => h) (Or.inl ⟨by rfl, ?_⟩) (by assumption) ?_
                    rotate_left 1
                    · intro w' hSw
                      try dsimp only at hSw
                      go_simp
                      try with_reducible rfl
                    try simp only [List.getElem_toArray, List.getElem_cons_zero, List.getElem_cons_succ, Act.put, List.setIfInBounds_toArray, List.set_cons_zero, List.set_cons_succ]
                    refine late.take (i := 11) [] (v := ?_) rfl (by kernel_rfl) (by kernel_rfl) (by kernel_rfl) (by kernel_rfl) (fun _ _ _ h => h) (Or.inl ⟨by rfl, ?_⟩) (by assumption) ?_
                    rotate_left 1
                    · intro w' hSw
                      try dsimp only at hSw
                      go_simp
                      try with_reducible rfl
                    try simp only [List.getElem_toArray, List.getElem_cons_zero, List.getElem_cons_succ, Act.put, List.setIfInBounds_toArray, List.set_cons_zero, List.set_cons_succ]
                    refine late.take (i := 12) [] (v := ?_) rfl (by kernel_rfl) (by kernel_rfl) (by kernel_rfl) (by kernel_rfl) (fun _ _ _ h => h) (Or.inl ⟨by rfl, ?_⟩) (by assumption) ?_
                    rotate_left 1
                    · intro w' hSw
                      try dsimp only at hSw
                      go_simp
                      try with_reducible rfl
                    try simp only [List.getElem_toArray, List.getElem_cons_zero, List.getElem_cons_succ, Act.put, List.setIfInBounds_toArray, List.set_cons_zero, List.set_cons_succ]
                    refine late.done (by kernel_rfl) ?_ _
                    refine NoPanic.normal ?_
                    go_wp2_with fail
                    go_roundw
                    case rel => exact ⟨s + 1, by omega, by go_num, by rw [HST.out]; simp, Lib.hid HY.out.drew⟩
                    case measure => simp [intOf]; omega
                  · have hyb : (y == u) = false := by simpa using hyu
                    have HST2 : Hid ((BL.take (s + 1)).contains u = false) := Lib.hid (by rw [HST.out, hyb]; rfl)
                    clear hyu
                    refine wp_region_noPanic ?_
                    refine late.region (fun w' => ∀ q, w'.cell? q = wr.cell? q) (fun j => [].contains j) (by kernel_rfl) (fun q => by simp) (fun hHeld => ?_)
                    refine late.take (i := 0) [] (v := ?_) rfl (by kernel_rfl) (by kernel_rfl) (by kernel_rfl) (by kernel_rfl) (fun _ _ _ h => h) (Or.inl ⟨by rfl, ?_⟩) (by assumption) ?_
                    rotate_left 1
                    · intro w' hSw
                      try dsimp only at hSw
                      go_simp
                      try with_reducible rfl
                    try simp only [List.getElem_toArray, List.getElem_cons_zero, Act.put, List.setIfInBounds_toArray, List.set_cons_zero, List.set_cons_succ]
                    refine late.take (i := 1) [] (v := ?_) rfl (by kernel_rfl) (by kernel_rfl) (by kernel_rfl) (by kernel_rfl) (fun _ _ _ h => h) (Or.inl ⟨by rfl, ?_⟩) (by assumption) ?_
                    rotate_left 1
                    · intro w' hSw
                      try dsimp only at hSw
                      go_simp
                      try with_reducible rfl
                    try simp only [List.getElem_toArray, List.getElem_cons_zero, List.getElem_cons_succ, Act.put, List.setIfInBounds_toArray, List.set_cons_zero, List.set_cons_succ]
                    refine late.take (i := 2) [] (v := ?_) rfl (by kernel_rfl) (by kernel_rfl) (by kernel_rfl) (by kernel_rfl) (fun _ _ _ h => h) (Or.inl ⟨by rfl, ?_⟩) (by assumption) ?_
                    rotate_left 1
                    · intro w' hSw
                      try dsimp only at hSw
                      go_simp
                      try with_reducible rfl
                    try simp only [List.getElem_toArray, List.getElem_cons_zero, List.getElem_cons_succ, Act.put, List.setIfInBounds_toArray, List.set_cons_zero, List.set_cons_succ]
                    refine late.take (i := 3) [] (v := ?_) rfl (by kernel_rfl) (by kernel_rfl) (by kernel_rfl) (by kernel_rfl) (fun _ _ _ h => h) (Or.inl ⟨by rfl, ?_⟩) (by assumption) ?_
                    rotate_left 1
                    · intro w' hSw
                      try dsimp only at hSw
                      go_simp
                      try with_reducible rfl
                    try simp only [List.getElem_toArray, List.getElem_cons_zero, List.getElem_cons_succ, Act.put, List.setIfInBounds_toArray, List.set_cons_zero, List.set_cons_succ]
                    refine late.take (i := 4) [] (v := ?_) rfl (by kernel_rfl) (by kernel_rfl) (by kernel_rfl) (by kernel_rfl) (fun _ _ _ h => h) (Or.inl ⟨by rfl, ?_⟩) (by assumption) ?_
                    rotate_left 1
                    · intro w' hSw
                      try dsimp only at hSw
                      go_simp
                      try with_reducible rfl
                    try simp only [List.getElem_toArray, List.getElem_cons_zero, List.getElem_cons_succ, Act.put, List.setIfInBounds_toArray, List.set_cons_zero, List.set_cons_succ]
                    refine late.take (i := 5) [] (v := ?_) rfl (by kernel_rfl) (by kernel_rfl) (by kernel_rfl) (by kernel_rfl) (fun _ _ _ h => h) (Or.inl ⟨by rfl, ?_⟩) (by assumption) ?_
                    rotate_left 1
                    · intro w' hSw
                      try dsimp only at hSw
                      go_simp
                      try with_reducible rfl
                    try simp only [List.getElem_toArray, List.getElem_cons_zero, List.getElem_cons_succ, Act.put, List.setIfInBounds_toArray, List.set_cons_zero, List.set_cons_succ]
                    refine late.take (i := 6) [] (v := ?_) rfl (by kernel_rfl) (by kernel_rfl) (by kernel_rfl) (by kernel_rfl) (fun _ _ _ h => h) (Or.inl ⟨by rfl, ?_⟩) (by assumption) ?_
                    rotate_left 1
                    · intro w' hSw
                      try dsimp only at hSw
                      go_simp
                      try with_reducible rfl
                    try simp only [List.getElem_toArray, List.getElem_cons_zero, List.getElem_cons_succ, Act.put, List.setIfInBounds_toArray, List.set_cons_zero, List.set_cons_succ]
                    refine late.take (i := 7) [] (v := ?_) rfl (by kernel_rfl) (by kernel_rfl) (by kernel_rfl) (by kernel_rfl) (fun _ _ _ h => h) (Or.inl ⟨by rfl, ?_⟩) (by assumption) ?_
                    rotate_left 1
                    · intro w' hSw
                      try dsimp only at hSw
                      go_simp
                      try with_reducible rfl
                    try simp only [List.getElem_toArray, List.getElem_cons_zero, List.getElem_cons_succ, Act.put, List.setIfInBounds_toArray, List.set_cons_zero, List.set_cons_succ]
                    refine late.take (i := 8) [] (v := ?_) rfl (by kernel_rfl) (by kernel_rfl) (by kernel_rfl) (by kernel_rfl) (fun _ _ _ h => h) (Or.inl ⟨by rfl, ?_⟩) (by assumption) ?_
                    rotate_left 1
                    · intro w' hSw
                      try dsimp only at hSw
                      go_simp
                      try with_reducible rfl
                    try simp only [List.getElem_toArray, List.getElem_cons_zero, List.getElem_cons_succ, Act.put, List.setIfInBounds_toArray, List.set_cons_zero, List.set_cons_succ]
                    refine late.take (i := 9) [] (v := ?_) rfl (by kernel_rfl) (by kernel_rfl) (by kernel_rfl) (by kernel_rfl) (fun _ _ _ h => h) (Or.inl ⟨by rfl, ?_⟩) (by assumption) ?_
                    rotate_left 1
                    · intro w' hSw
                      try dsimp only at hSw
                      go_simp
                      try with_reducible rfl
                    try simp only [List.getElem_toArray, List.getElem_cons_zero, List.getElem_cons_succ, Act.put, List.setIfInBounds_toArray, List.set_cons_zero, List.set_cons_succ]
                    refine late.take (i := 10) [] (v := ?_) rfl (by kernel_rfl) (by kernel_rfl) (by kernel_rfl) (by kernel_rfl) (fun _ _ _ h => h) (Or.inl ⟨by rfl, ?_⟩) (by assumption) ?_
                    rotate_left 1
                    · intro w' hSw
                      try dsimp only at hSw
                      go_simp
                      try with_reducible rfl
                    try simp only [List.getElem_toArray, List.getElem_cons_zero, List.getElem_cons_succ, Act.put, List.setIfInBounds_toArray, List.set_cons_zero, List.set_cons_succ]
                    refine late.take (i := 11) [] (v := ?_) rfl (by kernel_rfl) (by kernel_rfl) (by kernel_rfl) (by kernel_rfl) (fun _ _ _ h => h) (Or.inl ⟨by rfl, ?_⟩) (by assumption) ?_
                    rotate_left 1
                    · intro w' hSw
                      try dsimp only at hSw
                      go_simp
                      try with_reducible rfl
                    try simp only [List.getElem_toArray, List.getElem_cons_zero, List.getElem_cons_succ, Act.put, List.setIfInBounds_toArray, List.set_cons_zero, List.set_cons_succ]
                    refine late.take (i := 12) [] (v := ?_) rfl (by kernel_rfl) (by kernel_rfl) (by kernel_rfl) (by kernel_rfl) (fun _ _ _ h => h) (Or.inl ⟨by rfl, ?_⟩) (by assumption) ?_
                    rotate_left 1
                    · intro w' hSw
                      try dsimp only at hSw
                      go_simp
                      try with_reducible rfl
                    try simp only [List.getElem_toArray, List.getElem_cons_zero, List.getElem_cons_succ, Act.put, List.setIfInBounds_toArray, List.set_cons_zero, List.set_cons_succ]
                    refine late.done (by kernel_rfl) ?_ _
                    refine NoPanic.normal ?_
                    go_wp2_with fail
                    go_roundw
                    case rel => exact ⟨s + 1, by omega, by go_num, by rw [HST2.out], Lib.hid HY.out.drew⟩
                    case measure => simp [intOf]; omega
                · refine wp_region_noPanic ?_
                  refine late.region (fun w' => ∀ q, w'.cell? q = wr.cell? q) (fun j => [].contains j) (by kernel_rfl) (fun q => by simp) (fun hHeld => ?_)
                  refine late.take (i := 0) [] (v := ?_) rfl (by kernel_rfl) (by kernel_rfl) (by kernel_rfl) (by kernel_rfl) (fun _ _ _ h => h) (Or.inl ⟨by rfl, ?_⟩) (by assumption) ?_
                  rotate_left 1
                  · intro w' hSw
                    try dsimp only at hSw
                    go_simp
                    try with_reducible rfl
                  try simp only [List.getElem_toArray, List.getElem_cons_zero, Act.put, List.setIfInBounds_toArray, List.set_cons_zero, List.set_cons_succ]
                  refine late.take (i := 1) [] (v := ?_) rfl (by kernel_rfl) (by kernel_rfl) (by kernel_rfl) (by kernel_rfl) (fun _ _ _ h => h) (Or.inl ⟨by rfl, ?_⟩) (by assumption) ?_
                  rotate_left 1
                  · intro w' hSw
                    try dsimp only at hSw
                    go_simp
                    try with_reducible rfl
                  try simp only [List.getElem_toArray, List.getElem_cons_zero, List.getElem_cons_succ, Act.put, List.setIfInBounds_toArray, List.set_cons_zero, List.set_cons_succ]
                  refine late.take (i := 2) [] (v := undef) rfl (by kernel_rfl) (by kernel_rfl) (by kernel_rfl) (by kernel_rfl) (fun _ _ _ h => h) (Or.inr ⟨rfl, rfl⟩) (by assumption) ?_
                  try simp only [List.getElem_toArray, List.getElem_cons_zero, List.getElem_cons_succ, Act.put, List.setIfInBounds_toArray, List.set_cons_zero, List.set_cons_succ]
                  refine late.take (i := 3) [] (v := undef) rfl (by kernel_rfl) (by kernel_rfl) (by kernel_rfl) (by kernel_rfl) (fun _ _ _ h => h) (Or.inr ⟨rfl, rfl⟩) (by assumption) ?_
                  try simp only [List.getElem_toArray, List.getElem_cons_zero, List.getElem_cons_succ, Act.put, List.setIfInBounds_toArray, List.set_cons_zero, List.set_cons_succ]
                  refine late.take (i := 4) [] (v := undef) rfl (by kernel_rfl) (by kernel_rfl) (by kernel_rfl) (by kernel_rfl) (fun _ _ _ h => h) (Or.inr ⟨rfl, rfl⟩) (by assumption) ?_
                  try simp only [List.getElem_toArray, List.getElem_cons_zero, List.getElem_cons_succ, Act.put, List.setIfInBounds_toArray, List.set_cons_zero, List.set_cons_succ]
                  refine late.take (i := 5) [] (v := undef) rfl (by kernel_rfl) (by kernel_rfl) (by kernel_rfl) (by kernel_rfl) (fun _ _ _ h => h) (Or.inr ⟨rfl, rfl⟩) (by assumption) ?_
                  try simp only [List.getElem_toArray, List.getElem_cons_zero, List.getElem_cons_succ, Act.put, List.setIfInBounds_toArray, List.set_cons_zero, List.set_cons_succ]
                  refine late.take (i := 6) [] (v := undef) rfl (by kernel_rfl) (by kernel_rfl) (by kernel_rfl) (by kernel_rfl) (fun _ _ _ h => h) (Or.inr ⟨rfl, rfl⟩) (by assumption) ?_
                  try simp only [List.getElem_toArray, List.getElem_cons_zero, List.getElem_cons_succ, Act.put, List.setIfInBounds_toArray, List.set_cons_zero, List.set_cons_succ]
                  refine late.take (i := 7) [] (v := undef) rfl (by kernel_rfl) (by kernel_rfl) (by kernel_rfl) (by kernel_rfl) (fun _ _ _ h => h) (Or.inr ⟨rfl, rfl⟩) (by assumption) ?_
                  try simp only [List.getElem_toArray, List.getElem_cons_zero, List.getElem_cons_succ, Act.put, List.setIfInBounds_toArray, List.set_cons_zero, List.set_cons_succ]
                  refine late.take (i := 8) [] (v := undef) rfl (by kernel_rfl) (by kernel_rfl) (by kernel_rfl) (by kernel_rfl) (fun _ _ _ h => h) (Or.inr ⟨rfl, rfl⟩) (by assumption) ?_
                  try simp only [List.getElem_toArray, List.getElem_cons_zero, List.getElem_cons_succ, Act.put, List.setIfInBounds_toArray, List.set_cons_zero, List.set_cons_succ]
                  refine late.take (i := 9) [] (v := undef) rfl (by kernel_rfl) (by kernel_rfl) (by kernel_rfl) (by kernel_rfl) (fun _ _ _ h => h) (Or.inr ⟨rfl, rfl⟩) (by assumption) ?_
                  try simp only [List.getElem_toArray, List.getElem_cons_zero, List.getElem_cons_succ, Act.put, List.setIfInBounds_toArray, List.set_cons_zero, List.set_cons_succ]
                  refine late.take (i := 10) [] (v := undef) rfl (by kernel_rfl) (by kernel_rfl) (by kernel_rfl) (by kernel_rfl) (fun _ _ _ h => h) (Or.inr ⟨rfl, rfl⟩) (by assumption) ?_
                  try simp only [List.getElem_toArray, List.getElem_cons_zero, List.getElem_cons_succ, Act.put, List.setIfInBounds_toArray, List.set_cons_zero, List.set_cons_succ]
                  refine late.take (i := 11) [] (v := ?_) rfl (by kernel_rfl) (by kernel_rfl) (by kernel_rfl) (by kernel_rfl) (fun _ _ _ h => h) (Or.inl ⟨by rfl, ?_⟩) (by assumption) ?_
                  rotate_left 1
                  · intro w' hSw
                    try dsimp only at hSw
                    go_simp
                    try with_reducible rfl
                  try simp only [List.getElem_toArray, List.getElem_cons_zero, List.getElem_cons_succ, Act.put, List.setIfInBounds_toArray, List.set_cons_zero, List.set_cons_succ]
                  refine late.take (i := 12) [] (v := ?_) rfl (by kernel_rfl) (by kernel_rfl) (by kernel_rfl) (by kernel_rfl) (fun _ _ _ h => h) (Or.inl ⟨by rfl, ?_⟩) (by assumption) ?_
                  rotate_left 1
                  · intro w' hSw
                    try dsimp only at hSw
                    go_simp
                    try with_reducible rfl
                  try simp only [List.getElem_toArray, List.getElem_cons_zero, List.getElem_cons_succ, Act.put, List.setIfInBounds_toArray, List.set_cons_zero, List.set_cons_succ]
                  refine late.done (by kernel_rfl) ?_ _
                  refine NoPanic.normal ?_
                  go_wp2_with fail
                  go_roundw
                  case rel => exact ⟨s + 1, by omega, by go_num, by rw [HST.out]; rfl, Lib.hid HY.out.drew⟩
                  case measure => simp [intOf]; omega
              · obtain rfl : s = nb := by omega
                rw [List.take_of_length_le (by rw [HNB.out]; exact Nat.le_refl _), HCO.out]
                have e4' := HY.out.cell' D4.out (fun f => f)
                have f2' := HY.out.cell' F2.out (fun f => f)
                have f4' := HY.out.cell' F4.out (fun f => f)
                have HX14 := Lib.hid (HX13.out.trans HY.out)
                cases yc
                · cases pb
                  all_goals
                    go_wp2_with fail
                    go_roundw
                    case rel => exact ⟨k + 1, by omega, by go_num, HX14⟩
                    case measure => simp [intOf]; omega
                · have hnc : nc = true := HQ3.out rfl
                  subst hnc
                  cases pb
                  all_goals
                    go_wp2_with fail
                    go_roundw
                    case rel => exact ⟨k + 1, by omega, by go_num, HX14⟩
                    case measure => simp [intOf]; omega
          · obtain rfl : k = j + 1 := by omega
            have HZZ := Lib.hid (HZ10.out.trans HX.out)
            go_wp2_with fail
            go_roundw
            case rel => exact ⟨i + 1, by omega, by go_num, HZZ⟩
            case measure => simp [intOf]; omega
      · obtain rfl : i = n := by omega
        have HEND : Hid (Only (fun _ => False) w wr) := Lib.hid ((HO5.out.trans (HZ.out.mono (fun _ _ f => f.elim))).mono (fun k hk hs => by have := HP0.out; omega))
        go_wp2_with fail
        go_ret
        exact ⟨rfl, HEND.out⟩
end Go.Proofs.Ytginfnceindojaa.tre
