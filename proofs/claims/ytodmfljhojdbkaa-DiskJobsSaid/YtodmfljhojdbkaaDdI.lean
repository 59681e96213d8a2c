/- The document's disk: DocWrite of what is taken. -/
import Derived.Test.YtodmfljhojdbkaaDdF
import Derived.Test.YtodmfljhojdbkaaHeldL
namespace Go.Proofs.Ytodmfljhojdbkaa.dskw
open Go.RowKit mem
set_option linter.unusedVariables false

/-- what was written last, and what is in the cache, behind j sectors that were written from f on -/
def wrN (No : Nat → List Nat) (f : Nat) (lb : List Nat) (j : Nat) : Nat → List Nat := fun i => if f ≤ i ∧ i < f + j then bsec lb (i - f) else No i
def wrD (Di : Nat → Bool) (f : Nat) (j : Nat) : Nat → Bool := fun i => if f ≤ i ∧ i < f + j then true else Di i
theorem wrN_zero (No : Nat → List Nat) (f : Nat) (lb : List Nat) : wrN No f lb 0 = No := by
  funext i; unfold wrN; rw [if_neg (by omega)]
theorem wrD_zero (Di : Nat → Bool) (f : Nat) : wrD Di f 0 = Di := by
  funext i; unfold wrD; rw [if_neg (by omega)]
theorem wrN_succ (No : Nat → List Nat) (f : Nat) (lb : List Nat) (j : Nat) : updL (wrN No f lb j) (f + j) (bsec lb j) = wrN No f lb (j + 1) := by
  funext i
  unfold updL wrN
  by_cases e : i = f + j
  · subst e; rw [if_pos rfl, if_pos ⟨by omega, by omega⟩, Nat.add_sub_cancel_left]
  · rw [if_neg e]
    by_cases h : f ≤ i ∧ i < f + j
    · rw [if_pos h, if_pos ⟨h.1, by omega⟩]
    · rw [if_neg h, if_neg (by omega)]
theorem wrD_succ (Di : Nat → Bool) (f : Nat) (j : Nat) : updB (wrD Di f j) (f + j) true = wrD Di f (j + 1) := by
  funext i
  unfold updB wrD
  by_cases e : i = f + j
  · subst e; rw [if_pos rfl, if_pos ⟨by omega, by omega⟩]
  · rw [if_neg e]
    by_cases h : f ≤ i ∧ i < f + j
    · rw [if_pos h, if_pos ⟨h.1, by omega⟩]
    · rw [if_neg h, if_neg (by omega)]
theorem strN_sec (l : List Nat) (i : Nat) : (strN l).extract (64 * i) (64 * i + 64) = strN (bsec l i) := by
  apply ByteArray.ext
  unfold bsec
  simp [strN, ByteArray.data_extract, List.map_drop, List.map_take, Nat.mul_comm]

theorem quo64 {s m : Nat} (h : s = m * 64) : (s : Int).tmod 64 = 0 ∧ (s : Int).tdiv 64 = (m : Int) ∧ (s : Int) % 64 = 0 ∧ (s : Int) / 64 = (m : Int) := by
  have e1 : (s : Int).tmod 64 = ((s % 64 : Nat) : Int) := rfl
  have e2 : (s : Int).tdiv 64 = ((s / 64 : Nat) : Int) := rfl
  refine ⟨by rw [e1]; omega, by rw [e2]; omega, by omega, by omega⟩
set_option maxHeartbeats 4000000 in
theorem rwrite_no (q bL bN bD n cL cN cD : Nat) (La No : Nat → List Nat) (Di : Nat → Bool) (armed f : Int) (m : Nat) (l : List Nat) (w : World) (h : DdAt w q bL bN bD n cL cN cD La No Di armed false) (hl : l.length = m * 64) (hm9 : m ≤ 1000000) (ht : thr n f (m : Int) = false) :
    Calls Try.prog 11 #[.pointer (some ⟨q, 0, none⟩), .int .i64 f, .string (strN l)] w fun e w' => e = .returned (.int .i64 1) ∧ w = w' := by
  have c4 := h.c4
  have HT := Lib.hid (there_any q bL bN bD n cL cN cD La No Di armed false f m w h)
  rw [ht] at HT
  have hs := strN_size l
  obtain ⟨s, hse⟩ : ∃ s, strN l = s := ⟨_, rfl⟩
  rw [hse, hl] at hs
  rw [hse]
  have hz0 : ¬ (64 : Int) = 0 := by decide
  obtain ⟨hm0, hq0, hm1, hq1⟩ := quo64 hs
  have hwm9 : wrap64 (m : Int) = (m : Int) := by unfold wrap64; omega
  clear h hs hse ht hl
  go_enter Try.func11, Try.ntmps11
  go_wp2_with fail
  refine HT.out.mono ?_
  rintro _ w' ⟨rfl, rfl⟩
  go_wp2_with fail
  go_ret
  exact ⟨rfl, rfl⟩

set_option maxRecDepth 100000 in
set_option maxHeartbeats 8000000 in
theorem rwrite_yes (q bL bN bD n cL cN cD : Nat) (La No : Nat → List Nat) (Di : Nat → Bool) (armed : Int) (f m : Nat) (hm : f + m ≤ n) (l : List Nat) (w : World) (h : DdAt w q bL bN bD n cL cN cD La No Di armed false) (hl : l.length = m * 64) (hb : ∀ c ∈ l, c < 256) :
    Calls Try.prog 11 #[.pointer (some ⟨q, 0, none⟩), .int .i64 (f : Int), .string (strN l)] w fun e w' => e = .returned (.int .i64 (wrE armed m)) ∧ DdAt w' q bL bN bD n cL cN cD La (wrN No f l (wrK armed m)) (wrD Di f (wrK armed m)) (cutJ armed (wrK armed m)) (wrOff armed m) ∧ Only (Dd4 q bL bN bD) w w' := by
  have c4 := h.c4
  have h7 := h.h7
  have har := h.ar
  have ht : thr n (f : Int) (m : Int) = true := by unfold thr; simp; omega
  have HT := Lib.hid (there_any q bL bN bD n cL cN cD La No Di armed false f m w h)
  rw [ht] at HT
  have hs := strN_size l
  have HEX0 := Lib.hid (strN_sec l)
  obtain ⟨s, hse⟩ : ∃ s, strN l = s := ⟨_, rfl⟩
  rw [hse, hl] at hs
  rw [hse] at HEX0
  rw [hse]
  have hz0 : ¬ (64 : Int) = 0 := by decide
  obtain ⟨hm0, hq0, hm1, hq1⟩ := quo64 hs
  have hwm9 : wrap64 (m : Int) = (m : Int) := by unfold wrap64; omega
  have HS := Lib.hid hs
  have HD := Lib.hid h
  have HLB : Hid (∀ j, j < m → (bsec l j).length = 64 ∧ ∀ c ∈ bsec l j, c < 256) := Lib.hid (fun j hj => ⟨(bsec_sec hl hb hj).1, (bsec_sec hl hb hj).2⟩)
  clear h hs hse ht hl hb
  go_enter Try.func11, Try.ntmps11
  go_wp2_with fail
  refine HT.out.mono ?_
  rintro _ w' ⟨rfl, rfl⟩
  clear HT c4
  go_wp2_with fail
  go_loopw [7] (fun iv wx => ∃ (i : Nat), i ≤ m ∧ iv = .int .i64 (i : Int) ∧ Hid (0 < armed → (i : Int) < armed) ∧ Hid (DdAt wx q bL bN bD n cL cN cD La (wrN No f l i) (wrD Di f i) (cutJ armed i) false) ∧ Hid (Only (Dd4 q bL bN bD) w wx)) (fun iv _ => m - (intOf iv).toNat)
  case atStart => exact ⟨0, by omega, rfl, Lib.hid (fun h => h), Lib.hid (by rw [wrN_zero, wrD_zero, cutJ_zero]; exact HD.out), Lib.hid (Only.refl _ _)⟩
  case round =>
    obtain ⟨i, hi, rfl, HJ, HDW, HX⟩ := hrel
    rename World => wx
    by_cases h8 : i < m
    · have hin : (i : Int) < (m : Int) := by omega
      have hi0 : (0 : Int) ≤ (i : Int) := by omega
      have hwf : IntKind.i64.wrap ((f : Int) + (i : Int)) = (f : Int) + (i : Int) := by rw [IntKind.wrap_i64]; omega
      have hwm : IntKind.i64.wrap (64 * (i : Int)) = 64 * (i : Int) := by rw [IntKind.wrap_i64]; omega
      have hwa : IntKind.i64.wrap (64 * (i : Int) + 64) = 64 * (i : Int) + 64 := by rw [IntKind.wrap_i64]; omega
      have hj : (f : Int) + (i : Int) < (n : Int) := by omega
      have hj0 : (0 : Int) ≤ (f : Int) + (i : Int) := by omega
      have hfi : ((f : Int) + (i : Int)).toNat = f + i := by omega
      have hsl : 64 * (i : Int) + 64 ≤ (s.size : Int) := by rw [HS.out]; omega
      have hs0 : (0 : Int) ≤ 64 * (i : Int) := by omega
      have hs1 : (64 * (i : Int)) ≤ 64 * (i : Int) + 64 := by omega
      have hs2 : (64 * (i : Int)).toNat = 64 * i := by omega
      have hs3 : (64 * (i : Int) + 64).toNat = 64 * i + 64 := by omega
      obtain ⟨si, hsi⟩ : ∃ x, strN (bsec l i) = x := ⟨_, rfl⟩
      have hext := HEX0.out i
      rw [hsi] at hext
      have HSI := Lib.hid hsi
      have HQ : Hid (∀ w', Only (fun _ => False) wx w' → DdAt w' q bL bN bD n cL cN cD La (wrN No f l i) (wrD Di f i) (cutJ armed i) false) := Lib.hid (fun w' ho => HDW.out.quiet ho)
      clear hsi
      go_upto_region 8 with fail
      refine wp_region_noPanic ?_
      refine late.region (fun w' => w'.cell? ⟨q, 1, none⟩ = some (.slice (some ⟨bN, 0, none⟩) n cN) ∧ w'.cell? ⟨q, 2, none⟩ = some (.slice (some ⟨bD, 0, none⟩) n cD)) (fun j => [].contains j) (by kernel_rfl) (⟨(HQ.out _ (Only.refl _ _).drew).c1, (HQ.out _ (Only.refl _ _).drew).c2⟩) (fun hHeld => ?_)
      obtain ⟨z0, hz0'⟩ : ∃ x, x = wx.drew := ⟨_, rfl⟩
      rw [← hz0'] at hHeld ⊢
      have hot : Hid (Only (fun _ => False) wx z0) := Lib.hid (by rw [hz0']; exact (Only.refl _ _).drew)
      clear hz0'
      refine late.take (i := 0) [1, 2, 3, 21, 22, 23, 24] (v := ?_) rfl (by kernel_rfl) (by kernel_rfl) (by kernel_rfl) (by kernel_rfl) (fun _ _ _ h => h) (Or.inl ⟨by rfl, ?_⟩) (by assumption) ?_
      rotate_left 1
      · intro w' hSw
        try dsimp only at hSw
        go_simp
        try with_reducible rfl
      try simp only [List.getElem_toArray, List.getElem_cons_zero, Act.put, List.setIfInBounds_toArray, List.set_cons_zero, List.set_cons_succ]
      refine late.take (i := 1) [2, 3, 21, 22, 23, 24] (v := ?_) rfl (by kernel_rfl) (by kernel_rfl) (by kernel_rfl) (by kernel_rfl) (fun _ _ _ h => h) (Or.inl ⟨by rfl, ?_⟩) (by assumption) ?_
      rotate_left 1
      · intro w' hSw
        try dsimp only at hSw
        go_simp
        try with_reducible rfl
      try simp only [List.getElem_toArray, List.getElem_cons_zero, List.getElem_cons_succ, Act.put, List.setIfInBounds_toArray, List.set_cons_zero, List.set_cons_succ]
      refine late.take (i := 2) [3, 21, 22, 23, 24] (v := ?_) rfl (by kernel_rfl) (by kernel_rfl) (by kernel_rfl) (by kernel_rfl) (fun _ _ _ h => h) (Or.inl ⟨by rfl, ?_⟩) (by assumption) ?_
      rotate_left 1
      · intro w' hSw
        try dsimp only at hSw
        go_simp
        try with_reducible rfl
      try simp only [List.getElem_toArray, List.getElem_cons_zero, List.getElem_cons_succ, Act.put, List.setIfInBounds_toArray, List.set_cons_zero, List.set_cons_succ]
      refine late.take (i := 3) [21, 22, 23, 24] (v := ?_) rfl (by kernel_rfl) (by kernel_rfl) (by kernel_rfl) (by kernel_rfl) (fun _ _ _ h => h) (Or.inl ⟨by rfl, ?_⟩) (by assumption) ?_
      rotate_left 1
      · intro w' hSw
        try dsimp only at hSw
        go_simp
        try with_reducible rfl
      try simp only [List.getElem_toArray, List.getElem_cons_zero, List.getElem_cons_succ, Act.put, List.setIfInBounds_toArray, List.set_cons_zero, List.set_cons_succ]
      refine late.take (i := 4) [6, 21, 22, 23, 24] (v := ?_) rfl (by kernel_rfl) (by kernel_rfl) (by kernel_rfl) (by kernel_rfl) (fun _ _ _ h => h) (Or.inl ⟨by rfl, ?_⟩) (by assumption) ?_
      rotate_left 1
      · intro w' hSw
        try dsimp only at hSw
        go_simp
        try with_reducible rfl
      try simp only [List.getElem_toArray, List.getElem_cons_zero, List.getElem_cons_succ, Act.put, List.setIfInBounds_toArray, List.set_cons_zero, List.set_cons_succ]
      refine late.take (i := 5) [6, 21, 22, 23, 24] (v := ?_) rfl (by kernel_rfl) (by kernel_rfl) (by kernel_rfl) (by kernel_rfl) (fun _ _ _ h => h) (Or.inl ⟨by rfl, ?_⟩) (by assumption) ?_
      rotate_left 1
      · intro w' hSw
        try dsimp only at hSw
        go_simp
        try with_reducible rfl
      try simp only [List.getElem_toArray, List.getElem_cons_zero, List.getElem_cons_succ, Act.put, List.setIfInBounds_toArray, List.set_cons_zero, List.set_cons_succ]
      refine late.take (i := 6) [21, 22, 23, 24] (v := ?_) rfl (by kernel_rfl) (by kernel_rfl) (by kernel_rfl) (by kernel_rfl) (fun _ _ _ h => h) (Or.inl ⟨by rfl, ?_⟩) (by assumption) ?_
      rotate_left 1
      · intro w' hSw
        try dsimp only at hSw
        go_simp
        try with_reducible rfl
      try simp only [List.getElem_toArray, List.getElem_cons_zero, List.getElem_cons_succ, Act.put, List.setIfInBounds_toArray, List.set_cons_zero, List.set_cons_succ]
      refine late.take (i := 7) [8, 9, 10, 21, 22, 23, 24] (v := ?_) rfl (by kernel_rfl) (by kernel_rfl) (by kernel_rfl) (by kernel_rfl) (fun _ _ _ h => h) (Or.inl ⟨by rfl, ?_⟩) (by assumption) ?_
      rotate_left 1
      · intro w' hSw
        try dsimp only at hSw
        go_simp
        try with_reducible rfl
      try simp only [List.getElem_toArray, List.getElem_cons_zero, List.getElem_cons_succ, Act.put, List.setIfInBounds_toArray, List.set_cons_zero, List.set_cons_succ]
      refine late.take (i := 8) [9, 10, 21, 22, 23, 24] (v := ?_) rfl (by kernel_rfl) (by kernel_rfl) (by kernel_rfl) (by kernel_rfl) (fun _ _ _ h => h) (Or.inl ⟨by rfl, ?_⟩) (by assumption) ?_
      rotate_left 1
      · intro w' hSw
        try dsimp only at hSw
        go_simp
        try with_reducible rfl
      try simp only [List.getElem_toArray, List.getElem_cons_zero, List.getElem_cons_succ, Act.put, List.setIfInBounds_toArray, List.set_cons_zero, List.set_cons_succ]
      refine late.take (i := 9) [10, 21, 22, 23, 24] (v := ?_) rfl (by kernel_rfl) (by kernel_rfl) (by kernel_rfl) (by kernel_rfl) (fun _ _ _ h => h) (Or.inl ⟨by rfl, ?_⟩) (by assumption) ?_
      rotate_left 1
      · intro w' hSw
        try dsimp only at hSw
        go_simp
        try with_reducible rfl
      try simp only [List.getElem_toArray, List.getElem_cons_zero, List.getElem_cons_succ, Act.put, List.setIfInBounds_toArray, List.set_cons_zero, List.set_cons_succ]
      refine late.take (i := 10) [21, 22, 23, 24] (v := ?_) rfl (by kernel_rfl) (by kernel_rfl) (by kernel_rfl) (by kernel_rfl) (fun _ _ _ h => h) (Or.inl ⟨by rfl, ?_⟩) (by assumption) ?_
      rotate_left 1
      · intro w' hSw
        try dsimp only at hSw
        go_simp
        try with_reducible rfl
      try simp only [List.getElem_toArray, List.getElem_cons_zero, List.getElem_cons_succ, Act.put, List.setIfInBounds_toArray, List.set_cons_zero, List.set_cons_succ]
      refine late.take (i := 11) [13, 23, 24] (v := ?_) rfl (by kernel_rfl) (by kernel_rfl) (by kernel_rfl) (by kernel_rfl) (fun _ _ _ h => h) (Or.inl ⟨by rfl, ?_⟩) (by assumption) ?_
      rotate_left 1
      · intro w' hSw
        try dsimp only at hSw
        go_simp
        try with_reducible rfl
      try simp only [List.getElem_toArray, List.getElem_cons_zero, List.getElem_cons_succ, Act.put, List.setIfInBounds_toArray, List.set_cons_zero, List.set_cons_succ]
      refine late.take (i := 12) [13, 23, 24] (v := ?_) rfl (by kernel_rfl) (by kernel_rfl) (by kernel_rfl) (by kernel_rfl) (fun _ _ _ h => h) (Or.inl ⟨by rfl, ?_⟩) (by assumption) ?_
      rotate_left 1
      · intro w' hSw
        try dsimp only at hSw
        go_simp
        try with_reducible rfl
      try simp only [List.getElem_toArray, List.getElem_cons_zero, List.getElem_cons_succ, Act.put, List.setIfInBounds_toArray, List.set_cons_zero, List.set_cons_succ]
      refine late.take (i := 13) [23, 24] (v := ?_) rfl (by kernel_rfl) (by kernel_rfl) (by kernel_rfl) (by kernel_rfl) (fun _ _ _ h => h) (Or.inl ⟨by rfl, ?_⟩) (by assumption) ?_
      rotate_left 1
      · intro w' hSw
        try dsimp only at hSw
        go_simp
        try with_reducible rfl
      try simp only [List.getElem_toArray, List.getElem_cons_zero, List.getElem_cons_succ, Act.put, List.setIfInBounds_toArray, List.set_cons_zero, List.set_cons_succ]
      refine late.take (i := 14) [20, 21, 22, 23, 24] (v := ?_) rfl (by kernel_rfl) (by kernel_rfl) (by kernel_rfl) (by kernel_rfl) (fun _ _ _ h => h) (Or.inl ⟨by rfl, ?_⟩) (by assumption) ?_
      rotate_left 1
      · intro w' hSw
        try dsimp only at hSw
        go_simp
        try with_reducible rfl
      try simp only [List.getElem_toArray, List.getElem_cons_zero, List.getElem_cons_succ, Act.put, List.setIfInBounds_toArray, List.set_cons_zero, List.set_cons_succ]
      refine late.take (i := 15) [16, 20, 21, 22, 23, 24] (v := ?_) rfl (by kernel_rfl) (by kernel_rfl) (by kernel_rfl) (by kernel_rfl) (fun _ _ _ h => h) (Or.inl ⟨by rfl, ?_⟩) (by assumption) ?_
      rotate_left 1
      · intro w' hSw
        try dsimp only at hSw
        go_simp
        try with_reducible rfl
      try simp only [List.getElem_toArray, List.getElem_cons_zero, List.getElem_cons_succ, Act.put, List.setIfInBounds_toArray, List.set_cons_zero, List.set_cons_succ]
      refine late.take (i := 16) [20, 21, 22, 23, 24] (v := ?_) rfl (by kernel_rfl) (by kernel_rfl) (by kernel_rfl) (by kernel_rfl) (fun _ _ _ h => h) (Or.inl ⟨by rfl, ?_⟩) (by assumption) ?_
      rotate_left 1
      · intro w' hSw
        try dsimp only at hSw
        go_simp
        try with_reducible rfl
      try simp only [List.getElem_toArray, List.getElem_cons_zero, List.getElem_cons_succ, Act.put, List.setIfInBounds_toArray, List.set_cons_zero, List.set_cons_succ]
      refine late.take (i := 17) [18, 19, 20, 21, 22, 23, 24] (v := ?_) rfl (by kernel_rfl) (by kernel_rfl) (by kernel_rfl) (by kernel_rfl) (fun _ _ _ h => h) (Or.inl ⟨by rfl, ?_⟩) (by assumption) ?_
      rotate_left 1
      · intro w' hSw
        try dsimp only at hSw
        go_simp
        try with_reducible rfl
      try simp only [List.getElem_toArray, List.getElem_cons_zero, List.getElem_cons_succ, Act.put, List.setIfInBounds_toArray, List.set_cons_zero, List.set_cons_succ]
      refine late.take (i := 18) [19, 20, 21, 22, 23, 24] (v := ?_) rfl (by kernel_rfl) (by kernel_rfl) (by kernel_rfl) (by kernel_rfl) (fun _ _ _ h => h) (Or.inl ⟨by rfl, ?_⟩) (by assumption) ?_
      rotate_left 1
      · intro w' hSw
        try dsimp only at hSw
        go_simp
        try with_reducible rfl
      try simp only [List.getElem_toArray, List.getElem_cons_zero, List.getElem_cons_succ, Act.put, List.setIfInBounds_toArray, List.set_cons_zero, List.set_cons_succ]
      refine late.take (i := 19) [20, 21, 22, 23, 24] (v := ?_) rfl (by kernel_rfl) (by kernel_rfl) (by kernel_rfl) (by kernel_rfl) (fun _ _ _ h => h) (Or.inl ⟨by rfl, ?_⟩) (by assumption) ?_
      rotate_left 1
      · intro w' hSw
        try dsimp only at hSw
        go_simp
        try with_reducible rfl
      try simp only [List.getElem_toArray, List.getElem_cons_zero, List.getElem_cons_succ, Act.put, List.setIfInBounds_toArray, List.set_cons_zero, List.set_cons_succ]
      refine late.take (i := 20) [21, 22, 23, 24] (v := ?_) rfl (by kernel_rfl) (by kernel_rfl) (by kernel_rfl) (by kernel_rfl) (fun _ _ _ h => h) (Or.inl ⟨by rfl, ?_⟩) (by assumption) ?_
      rotate_left 1
      · intro w' hSw
        try dsimp only at hSw
        go_simp
        try with_reducible rfl
      try simp only [List.getElem_toArray, List.getElem_cons_zero, List.getElem_cons_succ, Act.put, List.setIfInBounds_toArray, List.set_cons_zero, List.set_cons_succ]
      refine late.take (i := 21) [22, 23, 24] (v := ?_) rfl (by kernel_rfl) (by kernel_rfl) (by kernel_rfl) (by kernel_rfl) (fun _ _ _ h => h) (Or.inl ⟨by rfl, ?_⟩) (by assumption) ?_
      rotate_left 1
      · intro w' hSw
        try dsimp only at hSw
        go_simp
        try with_reducible rfl
      try simp only [List.getElem_toArray, List.getElem_cons_zero, List.getElem_cons_succ, Act.put, List.setIfInBounds_toArray, List.set_cons_zero, List.set_cons_succ]
      refine late.ready (rs := [22]) (by kernel_rfl) (by simp) ?_
      refine late.Each.cons rfl (fun K hK => ?_) late.Each.nil
      try simp only [List.getElem_toArray, List.getElem_cons_zero, List.getElem_cons_succ]
      go_simp
      have hk8 := HQ.out _ hot.out
      have x1 := hk8.c1
      have e0 := (hk8.rN (f + i) (by omega)).1
      have e1 := (hk8.rN (f + i) (by omega)).2
      have hk9 := hk8.setN (f + i) (by omega) (bsec l i) (HLB.out i h8)
      rw [HSI.out] at hk9
      have HK9 := Lib.hid hk9
      have HO9 : Hid (Only (Dd4 q bL bN bD) wx (z0.setCell ⟨bN, f + i, none⟩ (.string si))) := Lib.hid ((hot.out.mono (fun _ _ f => f.elim)).trans ((Only.refl _ z0).setCell (p := ⟨bN, f + i, none⟩) (.inl (.inr (.inr (.inl rfl)))) _))
      clear hk8 hk9
      go_simp
      refine hK.out _ _ (fun _ => ⟨HK9.out.c1, HK9.out.c2⟩) (fun hHeld1 => ?_)
      replace hHeld1 := hHeld1 rfl
      clear hK K
      clear x1 e0 e1
      try simp only [List.getElem_toArray, List.getElem_cons_zero, List.getElem_cons_succ, Act.put, List.setIfInBounds_toArray, List.set_cons_zero, List.set_cons_succ]
      refine late.take (i := 23) [24] (v := ?_) rfl (by kernel_rfl) (by kernel_rfl) (by kernel_rfl) (by kernel_rfl) (fun _ _ _ h => h) (Or.inl ⟨by rfl, ?_⟩) (by assumption) ?_
      rotate_left 1
      · intro w' hSw
        try dsimp only at hSw
        go_simp
        try with_reducible rfl
      try simp only [List.getElem_toArray, List.getElem_cons_zero, List.getElem_cons_succ, Act.put, List.setIfInBounds_toArray, List.set_cons_zero, List.set_cons_succ]
      refine late.ready (rs := [24]) (by kernel_rfl) (by simp) ?_
      refine late.Each.cons rfl (fun K hK => ?_) late.Each.nil
      try simp only [List.getElem_toArray, List.getElem_cons_zero, List.getElem_cons_succ]
      go_simp
      have x2 := HK9.out.c2
      have e0 := (HK9.out.rD (f + i) (by omega)).1
      have e1 := ((HQ.out _ hot.out).rD (f + i) (by omega)).2
      have hk10 := HK9.out.setD (f + i) (by omega) true
      rw [wrN_succ, wrD_succ] at hk10
      have HK10 := Lib.hid hk10
      have HO10 : Hid (Only (Dd4 q bL bN bD) wx ((z0.setCell ⟨bN, f + i, none⟩ (.string si)).setCell ⟨bD, f + i, none⟩ (.bool true))) := Lib.hid (HO9.out.trans ((Only.refl _ _).setCell (p := ⟨bD, f + i, none⟩) (.inl (.inr (.inr (.inr rfl)))) _))
      clear hk10
      go_simp
      refine hK.out _ _ (fun _ => ⟨HK10.out.c1, HK10.out.c2⟩) (fun hHeld2 => ?_)
      replace hHeld2 := hHeld2 rfl
      clear hK K
      clear x2 e0 e1
      try simp only [List.getElem_toArray, List.getElem_cons_zero, List.getElem_cons_succ, Act.put, List.setIfInBounds_toArray, List.set_cons_zero, List.set_cons_succ]
      refine late.done (by kernel_rfl) ?_ _
      refine NoPanic.normal ?_
      clear hHeld
      obtain ⟨wz, hwz⟩ : ∃ y, y = (z0.setCell ⟨bN, f + i, none⟩ (.string si)).setCell ⟨bD, f + i, none⟩ (.bool true) := ⟨_, rfl⟩
      rw [← hwz] at HK10 HO10
      try simp only [← hwz]
      have HXN : Hid (Only (Dd4 q bL bN bD) w wz) := Lib.hid (HX.out.trans HO10.out)
      clear hwz hot HQ HK9 HO9 HO10
      by_cases ha : 0 < armed
      · have hci : cutJ armed i = armed - (i : Int) := by unfold cutJ; rw [if_pos ha]
        have hai := HJ.out ha
        rw [hci] at HK10
        obtain ⟨a, hae⟩ : ∃ a : Int, armed - (i : Int) = a := ⟨_, rfl⟩
        rw [hae] at HK10
        have hap : 0 < a := by omega
        have x3 := HK10.out.c3
        have f3 := HK10.out.f3
        have hwa1 : IntKind.i64.wrap (a - 1) = a - 1 := by rw [IntKind.wrap_i64]; omega
        have HKA := Lib.hid (HK10.out.setA (a - 1) (by omega))
        have hnb : bN ≠ q := HK10.out.n2
        by_cases hk : a = 1
        · have HK : Hid (wrK armed m = i + 1 ∧ wrOff armed m = true ∧ wrE armed m = 12 ∧ cutJ armed (i + 1) = 0) := Lib.hid (by
            have h1 : 0 < armed ∧ armed ≤ (m : Int) := by omega
            unfold wrE wrK wrOff cutJ
            rw [if_pos h1, decide_eq_true h1, if_pos ha]
            exact ⟨by omega, rfl, rfl, by omega⟩)
          subst hk
          have hz : (1 : Int) - 1 = 0 := by omega
          rw [hz] at HKA
          have f4 := HKA.out.f4
          have x4 := HKA.out.c4
          have x5 := HKA.out.c3
          have HKO := Lib.hid (HKA.out.setO true)
          have HO5 : Hid (Only (Dd4 q bL bN bD) w ((wz.setCell ⟨q, 3, none⟩ (.int .i64 0)).setCell ⟨q, 4, none⟩ (.bool true))) := Lib.hid ((HXN.out.setCell (p := ⟨q, 3, none⟩) (.inl (.inl rfl)) _).setCell (p := ⟨q, 4, none⟩) (.inl (.inl rfl)) _)
          clear hai hae hci HXN HX HJ HKA HK10
          go_wp2_with fail
          go_ret
          rw [HK.out.1, HK.out.2.1, HK.out.2.2.1, HK.out.2.2.2]
          exact ⟨rfl, HKO.out, HO5.out⟩
        · have hk0 : ¬ a - 1 = 0 := by omega
          have hk1 : (a - 1 == 0) = false := by rw [beq_eq_false_iff_ne]; omega
          have x5 := HKA.out.c3
          have HJN : Hid (0 < armed → ((i + 1 : Nat) : Int) < armed) := Lib.hid (fun _ => by omega)
          have hcn : cutJ armed (i + 1) = a - 1 := by unfold cutJ; rw [if_pos ha]; omega
          have HNX : Hid (DdAt (wz.setCell ⟨q, 3, none⟩ (.int .i64 (a - 1))) q bL bN bD n cL cN cD La (wrN No f l (i + 1)) (wrD Di f (i + 1)) (cutJ armed (i + 1)) false) := Lib.hid (by rw [hcn]; exact HKA.out)
          have HO5 : Hid (Only (Dd4 q bL bN bD) w (wz.setCell ⟨q, 3, none⟩ (.int .i64 (a - 1)))) := Lib.hid (HXN.out.setCell (p := ⟨q, 3, none⟩) (.inl (.inl rfl)) _)
          clear hai hae hci hcn HXN HX HJ HKA HK10
          go_wp2_with fail
          go_roundw
          case rel => exact ⟨i + 1, by omega, by go_num, HJN, HNX, HO5⟩
          case measure => (simp [intOf]; omega)
      · have hci : cutJ armed i = armed := by unfold cutJ; rw [if_neg ha]
        have hcn : cutJ armed (i + 1) = armed := by unfold cutJ; rw [if_neg ha]
        rw [hci] at HK10
        have x3 := HK10.out.c3
        have HNX : Hid (DdAt wz q bL bN bD n cL cN cD La (wrN No f l (i + 1)) (wrD Di f (i + 1)) (cutJ armed (i + 1)) false) := Lib.hid (by rw [hcn]; exact HK10.out)
        have HJN : Hid (0 < armed → ((i + 1 : Nat) : Int) < armed) := Lib.hid (fun h => absurd h ha)
        clear hci hcn HJ HK10
        go_wp2_with fail
        go_roundw
        case rel => exact ⟨i + 1, by omega, by go_num, HJN, HNX, HXN⟩
        case measure => (simp [intOf]; omega)
    · have hin : ¬ (i : Int) < (m : Int) := by omega
      obtain rfl : m = i := by omega
      have HK : Hid (wrK armed m = m ∧ wrOff armed m = false ∧ wrE armed m = 0) := Lib.hid (by
        have h1 : ¬ (0 < armed ∧ armed ≤ (m : Int)) := fun h => by have := HJ.out h.1; omega
        unfold wrE wrK wrOff
        rw [if_neg h1, decide_eq_false h1]
        exact ⟨rfl, rfl, rfl⟩)
      go_wp2_with fail
      go_ret
      rw [HK.out.1, HK.out.2.1, HK.out.2.2]
      exact ⟨rfl, HDW.out, HX.out⟩
end Go.Proofs.Ytodmfljhojdbkaa.dskw
