/- slices.Delete at a row of structs. -/
import Derived.Test.YthflglejhhebeaaRowZ
import Derived.Deep.RegionHeld3
import Derived.Deep.CutRange
namespace Go.Proofs.Ythflglejhhebeaa.crd
open Go.RowKit mem rowz
set_option linter.unusedVariables false

theorem del_list {cl xs : List Value} {n i j z : Nat} (hij : i ≤ j) (hj : j ≤ n) (h : cl.take (n * z) = xs) (hl : n * z ≤ cl.length) (rest : List Value) : (cl.take (i * z) ++ xs.drop (j * z) ++ rest).take ((i + (n - j)) * z) = xs.take (i * z) ++ xs.drop (j * z) ∧ (xs.drop (j * z)).length = (n - j) * z ∧ xs.length = n * z := by
  have hx : xs.length = n * z := by rw [← h, List.length_take]; exact Nat.min_eq_left hl
  have hA : cl.take (i * z) = xs.take (i * z) := by
    rw [← h, List.take_take, Nat.min_eq_left (Nat.mul_le_mul_right z (by omega))]
  have hB : (xs.drop (j * z)).length = (n - j) * z := by rw [List.length_drop, hx, Nat.sub_mul]
  have hC : (xs.take (i * z)).length = i * z := by rw [List.length_take, hx]; exact Nat.min_eq_left (Nat.mul_le_mul_right z (by omega))
  refine ⟨?_, hB, hx⟩
  rw [hA]
  have e : (i + (n - j)) * z = (xs.take (i * z) ++ xs.drop (j * z)).length := by rw [List.length_append, hC, hB, Nat.add_mul]
  rw [e, List.take_left']
  rfl
theorem take_front {A B : List Value} {k : Nat} (h : A.length = k) : (A ++ B).take k = A := by subst h; exact List.take_left

theorem info_ss : (Try.prog.info? 25).map (fun i => (i.zero, i.size, i.bytes)) = some (some (Value.agg #[.int .i64 0, .int .i64 0, .int .i64 0, .int .i64 0, .slice none 0 0]), 5, 56) := by kernel_rfl
set_option maxRecDepth 100000 in
set_option maxHeartbeats 4000000 in
theorem cdel_any (g n cap : Nat) (xs : List Value) (i j : Nat) (hij : i ≤ j) (hj : j ≤ n) (h1 : ∀ u ∈ xs, u.oneCell' = true) (w : World) (h : w.ownsRow 0 25 5 (.slice (some ⟨g, 0, none⟩) n cap) n xs) :
    Calls Try.prog 30 #[.slice (some ⟨g, 0, none⟩) n cap, .int .i64 i, .int .i64 j] w fun e w' => e = .returned (.slice (some ⟨g, 0, none⟩) (i + (n - j)) cap) ∧ w'.ownsRow 0 25 5 (.slice (some ⟨g, 0, none⟩) (i + (n - j)) cap) (i + (n - j)) (xs.take (i * 5) ++ xs.drop (j * 5)) ∧ Only (fun q => q = g) w w' := by
  obtain ⟨i0, hi, hz0, hz1, hz2⟩ := info_parts info_ss
  obtain ⟨cur, hg, hnc, hcm, hsz, htk⟩ := own_arr h
  have hcap : (cap : Int) ≤ 9223372036854775807 := by unfold maxLen at hcm; omega
  have k0 : (0 : Int) ≤ i := by omega
  have k1 : (i : Int) ≤ j := by omega
  have k2 : (j : Int) ≤ n := by omega
  have k3 : (n : Int) ≤ cap := by omega
  have k4 : (i : Int) ≤ n := by omega
  have k5 : (i : Int) ≤ cap := by omega
  have k6 : (0 : Int) ≤ j := by omega
  by_cases he : i = j
  · subst he
    have e1 : i + (n - i) = n := by omega
    rw [e1, List.take_append_drop]
    clear hg hsz htk hcm h1 hnc hcap e1
    by_cases hni : n = i
    · subst hni
      have HOWN := Lib.hid h
      clear h
      go_enter Try.func30, Try.ntmps30
      go_wp2_with fail
      go_ret
      exact ⟨rfl, HOWN.out, Only.refl _ _⟩
    · have HOWN := Lib.hid h
      clear h
      go_enter Try.func30, Try.ntmps30
      go_wp2_with fail
      go_ret
      exact ⟨rfl, HOWN.out, Only.refl _ _⟩
  · have hb : ((i : Int) == (j : Int)) = false := by rw [beq_eq_false_iff_ne]; omega
    have k7 : ¬ (n = i) := by omega
    have k8 : (i : Int) < n := by omega
    have HD := Lib.hid (And.intro (fun rest => (del_list (z := 5) hij hj htk (by rw [Array.length_toList, hsz]; exact Nat.mul_le_mul_right 5 hnc) rest).1) (del_list (z := 5) hij hj htk (by rw [Array.length_toList, hsz]; exact Nat.mul_le_mul_right 5 hnc) []).2)
    have HH := Lib.hid (And.intro hg (And.intro hsz (And.intro htk (And.intro hcm h1))))
    clear hg hsz htk hcm h1 h
    have k9 : ¬ (cap = i + (n - j)) := by omega
    by_cases hcj : cap = j
    · obtain rfl : n = j := by omega
      obtain rfl : n = cap := by omega
      have hnil : xs.drop (n * 5) = [] := List.eq_nil_of_length_eq_zero (by rw [HD.out.2.1]; simp)
      have e2 : i + (n - n) = i := by omega
      have hd0 := HD.out.1
      have hd1 : ∀ rest, (cur.toList.take (i * 5) ++ ([] : List Value) ++ rest).take (i * 5) = xs.take (i * 5) := fun rest => by
        have h := hd0 rest
        rw [hnil, e2] at h
        simpa using h
      rw [hnil, e2, List.append_nil]
      have HD : Hid ((∀ rest, (cur.toList.take (i * 5) ++ ([] : List Value) ++ rest).take (i * 5) = xs.take (i * 5)) ∧ ([] : List Value).length = 0 * 5 ∧ xs.length = n * 5) := Lib.hid ⟨hd1, rfl, HD.out.2.2⟩
      clear hd0 hd1 e2 hnil hcj k9
      have k9 : ¬ (n = i) := by omega
      go_enter Try.func30, Try.ntmps30
      go_upto_region 5 with fail
      refine wp_region_noPanic ?_
      refine wp_region_held_drew (S := (fun w' => Only (fun q => q = g) w w')) (by kernel_rfl) ((Only.refl _ _).drew) (fun hHeld => ?_)
      obtain ⟨wd, hwd⟩ : ∃ x, x = w.drew := ⟨_, rfl⟩
      rw [← hwd]
      have HOD : Hid (Only (fun q => q = g) w wd) := Lib.hid (by rw [hwd]; exact (Only.refl _ _).drew)
      have hgd : wd.heap[g]? = some (.cells cur 25 (0, 0)) := by rw [hwd]; exact HH.out.1
      have hHeld0 := HOD.out
      clear hHeld hwd
      refine wpAnyH_take (i := 0) (v := ?_) rfl (by kernel_rfl) (by kernel_rfl) (by kernel_rfl) (fun _ _ _ h => h) (Or.inl ⟨by rfl, ?_⟩) (by assumption) ?_
      rotate_left 1
      · intro w' hSw
        try dsimp only at hSw
        go_simp
        try with_reducible rfl
      try simp only [List.getElem_toArray, List.getElem_cons_zero, Act.put, List.setIfInBounds_toArray, List.set_cons_zero, List.set_cons_succ]
      refine wpAnyH_take (i := 1) (v := ?_) rfl (by kernel_rfl) (by kernel_rfl) (by kernel_rfl) (fun _ _ _ h => h) (Or.inl ⟨by rfl, ?_⟩) (by assumption) ?_
      rotate_left 1
      · intro w' hSw
        try dsimp only at hSw
        go_simp
        try with_reducible rfl
      try simp only [List.getElem_toArray, List.getElem_cons_zero, List.getElem_cons_succ, Act.put, List.setIfInBounds_toArray, List.set_cons_zero, List.set_cons_succ]
      refine wpAnyH_take (i := 2) (v := ?_) rfl (by kernel_rfl) (by kernel_rfl) (by kernel_rfl) (fun _ _ _ h => h) (Or.inl ⟨by rfl, ?_⟩) (by assumption) ?_
      rotate_left 1
      · intro w' hSw
        try dsimp only at hSw
        go_simp
        try with_reducible rfl
      try simp only [List.getElem_toArray, List.getElem_cons_zero, List.getElem_cons_succ, Act.put, List.setIfInBounds_toArray, List.set_cons_zero, List.set_cons_succ]
      refine wpAnyH_take (i := 3) (v := ?_) rfl (by kernel_rfl) (by kernel_rfl) (by kernel_rfl) (fun _ _ _ h => h) (Or.inl ⟨by rfl, ?_⟩) (by assumption) ?_
      rotate_left 1
      · intro w' hSw
        try dsimp only at hSw
        go_simp
        try with_reducible rfl
      try simp only [List.getElem_toArray, List.getElem_cons_zero, List.getElem_cons_succ, Act.put, List.setIfInBounds_toArray, List.set_cons_zero, List.set_cons_succ]
      refine wpAnyH_take (i := 4) (v := ?_) rfl (by kernel_rfl) (by kernel_rfl) (by kernel_rfl) (fun _ _ _ h => h) (Or.inl ⟨by rfl, ?_⟩) (by assumption) ?_
      rotate_left 1
      · intro w' hSw
        try dsimp only at hSw
        go_simp
        try with_reducible rfl
      try simp only [List.getElem_toArray, List.getElem_cons_zero, List.getElem_cons_succ, Act.put, List.setIfInBounds_toArray, List.set_cons_zero, List.set_cons_succ]
      refine wpAnyH_take (i := 5) (v := ?_) rfl (by kernel_rfl) (by kernel_rfl) (by kernel_rfl) (fun _ _ _ h => h) (Or.inl ⟨by rfl, ?_⟩) (by assumption) ?_
      rotate_left 1
      · intro w' hSw
        try dsimp only at hSw
        go_simp
        try with_reducible rfl
      try simp only [List.getElem_toArray, List.getElem_cons_zero, List.getElem_cons_succ, Act.put, List.setIfInBounds_toArray, List.set_cons_zero, List.set_cons_succ]
      refine wpAnyH_ready (rs := [6]) (by kernel_rfl) (by simp) ?_
      refine AllReadyH.cons rfl (fun K hK => ?_) AllReadyH.nil
      try simp only [List.getElem_toArray, List.getElem_cons_zero, List.getElem_cons_succ]
      rw [if_pos (by rfl)]
      have hr := run_append_room (P := Try.prog) wd 65 65 25 i0 Try.underlying65 hi g i n cur hgd ⟨g, 0, none⟩ 0 0 ([] : List Value) (by rw [hz1]; exact HD.out.2.1) (by intro a b h; cases h) (fun u hu => by cases hu) (by omega) (by rw [hz1, HD.out.2.1, HH.out.2.1]; omega)
      rw [hz1] at hr
      refine Lib.wp_append_run wd _ _ 65 65 rfl _ _ rfl rfl _ _ hr ?_
      clear hr
      obtain ⟨cur1, hc1⟩ : ∃ c, c = (cur.toList.take (i * 5) ++ ([] : List Value) ++ cur.toList.drop (i * 5 + ([] : List Value).length)).toArray := ⟨_, rfl⟩
      rw [← hc1]
      obtain ⟨W9, hW9⟩ : ∃ x, x = wd.setRow g cur1 := ⟨_, rfl⟩
      rw [← hW9]
      have HG9 : Hid (W9.heap[g]? = some (.cells cur1 25 (0, 0))) := Lib.hid (by rw [hW9]; exact setRow_heap wd g cur cur1 25 (0, 0) hgd)
      have HA9 : Hid (Only (fun q => q = g) w W9) := Lib.hid (by rw [hW9]; exact HOD.out.trans (only_row wd g cur1))
      have HC1 := Lib.hid hc1
      clear hc1 hW9
      refine hK.out _ _ (HA9.out) (fun hHeld1 => ?_)
      clear hK K
      try simp only [Act.put, List.setIfInBounds_toArray, List.set_cons_zero, List.set_cons_succ]
      refine wpAnyH_take (i := 7) (v := ?_) rfl (by kernel_rfl) (by kernel_rfl) (by kernel_rfl) (fun _ _ _ h => h) (Or.inl ⟨by rfl, ?_⟩) (by assumption) ?_
      rotate_left 1
      · intro w' hSw
        try dsimp only at hSw
        go_simp
        try with_reducible rfl
      try simp only [List.getElem_toArray, List.getElem_cons_zero, List.getElem_cons_succ, Act.put, List.setIfInBounds_toArray, List.set_cons_zero]
      refine wpAnyH_done (by kernel_rfl) ?_ _
      refine NoPanic.normal ?_
      have HL1 : Hid (cur1.size = n * 5 ∧ cur1.toList.take (i * 5) = xs.take (i * 5)) := Lib.hid (by
        rw [HC1.out]
        refine ⟨?_, HD.out.1 _⟩
        have h1 := HH.out.2.1
        have h2 := HD.out.2.1
        simp only [List.size_toArray, List.length_append, List.length_take, List.length_drop, Array.length_toList] at h2 ⊢
        omega)
      have hzc : (Builtin.zeroCells (Value.agg #[.int .i64 0, .int .i64 0, .int .i64 0, .int .i64 0, .slice none 0 0]).cells (n - i)).toList.length = (n - i) * 5 := by simp [Builtin.zeroCells, Value.cells]
      have hr := run_clear_rowz (P := Try.prog) W9 65 25 0 25 (Value.agg #[.int .i64 0, .int .i64 0, .int .i64 0, .int .i64 0, .slice none 0 0]) Try.underlying65 (fun w => by simp [zeroValue, typeInfo, hi, hz0]) g (i * 5) (n - i) (n - i) (by omega) cur1 HG9.out (by have := HL1.out.1; simp [Value.cells]; omega) (fun v hv => by
        simp [Builtin.zeroCells, Value.cells] at hv
        obtain ⟨a, _, rfl⟩ := hv
        have : a % 5 < 5 := Nat.mod_lt _ (by omega)
        rcases (show a % 5 = 0 ∨ a % 5 = 1 ∨ a % 5 = 2 ∨ a % 5 = 3 ∨ a % 5 = 4 by omega) with e | e | e | e | e <;> simp [e] <;> rfl)
      obtain ⟨cur2, hc2⟩ : ∃ c, c = (cur1.toList.take (i * 5) ++ (Builtin.zeroCells (Value.agg #[.int .i64 0, .int .i64 0, .int .i64 0, .int .i64 0, .slice none 0 0]).cells (n - i)).toList ++ cur1.toList.drop (i * 5 + (n - i) * (Value.agg #[.int .i64 0, .int .i64 0, .int .i64 0, .int .i64 0, .slice none 0 0]).cells.size)).toArray := ⟨_, rfl⟩
      rw [← hc2] at hr
      have HG10 : Hid ((W9.setRow g cur2).heap[g]? = some (.cells cur2 25 (0, 0))) := Lib.hid (setRow_heap W9 g cur1 cur2 25 (0, 0) HG9.out)
      have HL2 : Hid (cur2.size = n * 5 ∧ cur2.toList.take (i * 5) = xs.take (i * 5)) := Lib.hid (by
        obtain ⟨h1, h2⟩ := HL1.out
        have h3 : (cur1.toList.take (i * 5)).length = i * 5 := by rw [List.length_take, Array.length_toList, h1]; exact Nat.min_eq_left (by omega)
        rw [hc2]
        refine ⟨?_, ?_⟩
        · have h4 : ((Value.agg #[.int .i64 0, .int .i64 0, .int .i64 0, .int .i64 0, .slice none 0 0]) : Value).cells.size = 5 := rfl
          simp only [List.size_toArray, List.length_append, List.length_drop, Array.length_toList, h3, hzc, h4]
          omega
        · rw [← h2, List.append_assoc]
          exact take_front h3)
      clear hc2 hzc
      go_wp2_with (first | (at_builtin; refine wpList_clear_run _ rfl _ _ rfl _ rfl hr ?_))
      clear hr
      go_wp2_with fail
      go_ret
      exact ⟨rfl, arr_own HG10.out (by omega) HH.out.2.2.2.1 HL2.out.1 HL2.out.2, HA9.out.trans (only_row W9 g cur2)⟩
    · go_enter Try.func30, Try.ntmps30
      go_upto_region 5 with fail
      refine wp_region_noPanic ?_
      refine wp_region_held_drew (S := (fun w' => Only (fun q => q = g) w w')) (by kernel_rfl) ((Only.refl _ _).drew) (fun hHeld => ?_)
      obtain ⟨wd, hwd⟩ : ∃ x, x = w.drew := ⟨_, rfl⟩
      rw [← hwd]
      have HOD : Hid (Only (fun q => q = g) w wd) := Lib.hid (by rw [hwd]; exact (Only.refl _ _).drew)
      have hgd : wd.heap[g]? = some (.cells cur 25 (0, 0)) := by rw [hwd]; exact HH.out.1
      have hHeld0 := HOD.out
      clear hHeld hwd
      refine wpAnyH_take (i := 0) (v := ?_) rfl (by kernel_rfl) (by kernel_rfl) (by kernel_rfl) (fun _ _ _ h => h) (Or.inl ⟨by rfl, ?_⟩) (by assumption) ?_
      rotate_left 1
      · intro w' hSw
        try dsimp only at hSw
        go_simp
        try with_reducible rfl
      try simp only [List.getElem_toArray, List.getElem_cons_zero, Act.put, List.setIfInBounds_toArray, List.set_cons_zero, List.set_cons_succ]
      refine wpAnyH_take (i := 1) (v := ?_) rfl (by kernel_rfl) (by kernel_rfl) (by kernel_rfl) (fun _ _ _ h => h) (Or.inl ⟨by rfl, ?_⟩) (by assumption) ?_
      rotate_left 1
      · intro w' hSw
        try dsimp only at hSw
        go_simp
        try with_reducible rfl
      try simp only [List.getElem_toArray, List.getElem_cons_zero, List.getElem_cons_succ, Act.put, List.setIfInBounds_toArray, List.set_cons_zero, List.set_cons_succ]
      refine wpAnyH_take (i := 2) (v := ?_) rfl (by kernel_rfl) (by kernel_rfl) (by kernel_rfl) (fun _ _ _ h => h) (Or.inl ⟨by rfl, ?_⟩) (by assumption) ?_
      rotate_left 1
      · intro w' hSw
        try dsimp only at hSw
        go_simp
        try with_reducible rfl
      try simp only [List.getElem_toArray, List.getElem_cons_zero, List.getElem_cons_succ, Act.put, List.setIfInBounds_toArray, List.set_cons_zero, List.set_cons_succ]
      refine wpAnyH_take (i := 3) (v := ?_) rfl (by kernel_rfl) (by kernel_rfl) (by kernel_rfl) (fun _ _ _ h => h) (Or.inl ⟨by rfl, ?_⟩) (by assumption) ?_
      rotate_left 1
      · intro w' hSw
        try dsimp only at hSw
        go_simp
        try with_reducible rfl
      try simp only [List.getElem_toArray, List.getElem_cons_zero, List.getElem_cons_succ, Act.put, List.setIfInBounds_toArray, List.set_cons_zero, List.set_cons_succ]
      refine wpAnyH_take (i := 4) (v := ?_) rfl (by kernel_rfl) (by kernel_rfl) (by kernel_rfl) (fun _ _ _ h => h) (Or.inl ⟨by rfl, ?_⟩) (by assumption) ?_
      rotate_left 1
      · intro w' hSw
        try dsimp only at hSw
        go_simp
        try with_reducible rfl
      try simp only [List.getElem_toArray, List.getElem_cons_zero, List.getElem_cons_succ, Act.put, List.setIfInBounds_toArray, List.set_cons_zero, List.set_cons_succ]
      refine wpAnyH_take (i := 5) (v := ?_) rfl (by kernel_rfl) (by kernel_rfl) (by kernel_rfl) (fun _ _ _ h => h) (Or.inl ⟨by rfl, ?_⟩) (by assumption) ?_
      rotate_left 1
      · intro w' hSw
        try dsimp only at hSw
        go_simp
        try with_reducible rfl
      try simp only [List.getElem_toArray, List.getElem_cons_zero, List.getElem_cons_succ, Act.put, List.setIfInBounds_toArray, List.set_cons_zero, List.set_cons_succ]
      refine wpAnyH_ready (rs := [6]) (by kernel_rfl) (by simp) ?_
      refine AllReadyH.cons rfl (fun K hK => ?_) AllReadyH.nil
      try simp only [List.getElem_toArray, List.getElem_cons_zero, List.getElem_cons_succ]
      rw [if_pos (by rfl)]
      have hr := run_append_room (P := Try.prog) wd 65 65 25 i0 Try.underlying65 hi g i cap cur hgd ⟨g, j * 5, none⟩ (n - j) (cap - j) (xs.drop (j * 5)) (by rw [hz1]; exact HD.out.2.1) (cells_row hgd HH.out.2.2.1 (j * 5)) (fun u hu => HH.out.2.2.2.2 u (List.mem_of_mem_drop hu)) (by omega) (by rw [hz1, HD.out.2.1, HH.out.2.1]; omega)
      rw [hz1] at hr
      refine Lib.wp_append_run wd _ _ 65 65 rfl _ _ rfl rfl _ _ hr ?_
      clear hr
      obtain ⟨cur1, hc1⟩ : ∃ c, c = (cur.toList.take (i * 5) ++ (xs.drop (j * 5)) ++ cur.toList.drop (i * 5 + (xs.drop (j * 5)).length)).toArray := ⟨_, rfl⟩
      rw [← hc1]
      obtain ⟨W9, hW9⟩ : ∃ x, x = wd.setRow g cur1 := ⟨_, rfl⟩
      rw [← hW9]
      have HG9 : Hid (W9.heap[g]? = some (.cells cur1 25 (0, 0))) := Lib.hid (by rw [hW9]; exact setRow_heap wd g cur cur1 25 (0, 0) hgd)
      have HA9 : Hid (Only (fun q => q = g) w W9) := Lib.hid (by rw [hW9]; exact HOD.out.trans (only_row wd g cur1))
      have HC1 := Lib.hid hc1
      clear hc1 hW9
      refine hK.out _ _ (HA9.out) (fun hHeld1 => ?_)
      clear hK K
      try simp only [Act.put, List.setIfInBounds_toArray, List.set_cons_zero, List.set_cons_succ]
      refine wpAnyH_take (i := 7) (v := ?_) rfl (by kernel_rfl) (by kernel_rfl) (by kernel_rfl) (fun _ _ _ h => h) (Or.inl ⟨by rfl, ?_⟩) (by assumption) ?_
      rotate_left 1
      · intro w' hSw
        try dsimp only at hSw
        go_simp
        try with_reducible rfl
      try simp only [List.getElem_toArray, List.getElem_cons_zero, List.getElem_cons_succ, Act.put, List.setIfInBounds_toArray, List.set_cons_zero]
      refine wpAnyH_done (by kernel_rfl) ?_ _
      refine NoPanic.normal ?_
      have HL1 : Hid (cur1.size = cap * 5 ∧ cur1.toList.take ((i + (n - j)) * 5) = xs.take (i * 5) ++ xs.drop (j * 5)) := Lib.hid (by
        rw [HC1.out]
        refine ⟨?_, HD.out.1 _⟩
        have h1 := HH.out.2.1
        have h2 := HD.out.2.1
        simp only [List.size_toArray, List.length_append, List.length_take, List.length_drop, Array.length_toList] at h2 ⊢
        omega)
      have hzc : (Builtin.zeroCells (Value.agg #[.int .i64 0, .int .i64 0, .int .i64 0, .int .i64 0, .slice none 0 0]).cells (n - (i + (n - j)))).toList.length = (n - (i + (n - j))) * 5 := by simp [Builtin.zeroCells, Value.cells]
      have hr := run_clear_rowz (P := Try.prog) W9 65 25 0 25 (Value.agg #[.int .i64 0, .int .i64 0, .int .i64 0, .int .i64 0, .slice none 0 0]) Try.underlying65 (fun w => by simp [zeroValue, typeInfo, hi, hz0]) g ((i + (n - j)) * 5) (n - (i + (n - j))) (cap - (i + (n - j))) (by omega) cur1 HG9.out (by have := HL1.out.1; simp [Value.cells]; omega) (fun v hv => by
        simp [Builtin.zeroCells, Value.cells] at hv
        obtain ⟨a, _, rfl⟩ := hv
        have : a % 5 < 5 := Nat.mod_lt _ (by omega)
        rcases (show a % 5 = 0 ∨ a % 5 = 1 ∨ a % 5 = 2 ∨ a % 5 = 3 ∨ a % 5 = 4 by omega) with e | e | e | e | e <;> simp [e] <;> rfl)
      obtain ⟨cur2, hc2⟩ : ∃ c, c = (cur1.toList.take ((i + (n - j)) * 5) ++ (Builtin.zeroCells (Value.agg #[.int .i64 0, .int .i64 0, .int .i64 0, .int .i64 0, .slice none 0 0]).cells (n - (i + (n - j)))).toList ++ cur1.toList.drop ((i + (n - j)) * 5 + (n - (i + (n - j))) * (Value.agg #[.int .i64 0, .int .i64 0, .int .i64 0, .int .i64 0, .slice none 0 0]).cells.size)).toArray := ⟨_, rfl⟩
      rw [← hc2] at hr
      have HG10 : Hid ((W9.setRow g cur2).heap[g]? = some (.cells cur2 25 (0, 0))) := Lib.hid (setRow_heap W9 g cur1 cur2 25 (0, 0) HG9.out)
      have HL2 : Hid (cur2.size = cap * 5 ∧ cur2.toList.take ((i + (n - j)) * 5) = xs.take (i * 5) ++ xs.drop (j * 5)) := Lib.hid (by
        obtain ⟨h1, h2⟩ := HL1.out
        have h3 : (cur1.toList.take ((i + (n - j)) * 5)).length = (i + (n - j)) * 5 := by rw [List.length_take, Array.length_toList, h1]; exact Nat.min_eq_left (by omega)
        rw [hc2]
        refine ⟨?_, ?_⟩
        · have h4 : ((Value.agg #[.int .i64 0, .int .i64 0, .int .i64 0, .int .i64 0, .slice none 0 0]) : Value).cells.size = 5 := rfl
          simp only [List.size_toArray, List.length_append, List.length_drop, Array.length_toList, h3, hzc, h4]
          omega
        · rw [← h2, List.append_assoc]
          exact take_front h3)
      clear hc2 hzc
      go_wp2_with (first | (at_builtin; refine wpList_clear_run _ rfl _ _ rfl _ rfl hr ?_))
      clear hr
      go_wp2_with fail
      go_ret
      exact ⟨rfl, arr_own HG10.out (by omega) HH.out.2.2.2.1 HL2.out.1 HL2.out.2, HA9.out.trans (only_row W9 g cur2)⟩
end Go.Proofs.Ythflglejhhebeaa.crd
