/- DiskNews: where there is such a disk; the whole. -/
import Derived.Test.YtmkakpfbolpfcaaDskD
import Derived.Test.YtmkakpfbolpfcaaDskS
import Derived.Deep.RegionHeld
import Derived.WalkSpells
namespace Go.Proofs.Ytmkakpfbolpfcaa.dskw
open Go.RowKit mem Go.Maps
set_option linter.unusedVariables false

set_option maxRecDepth 100000 in
set_option maxHeartbeats 4000000 in
theorem news_big (n : Int) (h50 : 50 < n) (h8192 : n ≤ 8192) (w : World) : Calls Try.prog 3 #[.int .i64 n] w fun e w' => e = .returned (.bool true) ∧ Only (fun _ => False) w w' := by
    obtain ⟨N, hN, hN1, hN2⟩ : ∃ N : Nat, (8192 - n % 2 : Int) = (N : Int) ∧ 1 ≤ N ∧ N ≤ 8192 := ⟨(8192 - n % 2).toNat, by omega, by omega, by omega⟩
    go_enter Try.func3, Try.ntmps3
    go_wp2_with (first
      | (go_at_call 9; refine (none_any _).mono ?_; rintro _ _ ⟨rfl, rfl⟩)
      | (go_at_call 10; refine (cut_nil _ _).mono ?_; rintro _ _ ⟨rfl, rfl⟩)
      | (go_at_call 11; refine (crash_nil _ _ _ _).mono ?_; rintro _ _ ⟨rfl, rfl⟩)
      | (go_at_call 12; refine (read_nil _ _ _).mono ?_; rintro _ _ ⟨rfl, rfl⟩)
      | (go_at_call 14; refine (write_nil _ _).mono ?_; rintro _ _ ⟨rfl, rfl⟩)
      | (go_at_call 15; refine (sync_nil _).mono ?_; rintro _ _ ⟨rfl, rfl⟩)
      | (go_at_call 16; refine (size_nil _).mono ?_; rintro _ _ ⟨rfl, rfl⟩)
      | (go_at_call 17; refine (dirty_nil _).mono ?_; rintro _ _ ⟨rfl, rfl⟩)
      | (go_at_call 18; refine (offs_nil _).mono ?_; rintro _ _ ⟨rfl, rfl⟩)
      | (go_at_call 13; refine (disks_any _).mono ?_; rintro _ w1 ⟨rfl, ho1⟩; have HO1 := Lib.hid ho1; clear ho1))
    have HNW := Lib.hid (new_any N hN1 hN2 w1)
    refine (HNW.out).mono ?_
    rintro e1 w2 ⟨p, bl, bm, rfl, hd2, ho2, hp, hbl, hbm⟩
    have HD2 := Lib.hid hd2
    have HO2 := Lib.hid (HO1.out.then ho2 (fun _ _ f => f))
    have hz : secs (cur (fun _ => zeros) (fun _ => none)) (N - 1) 1 = zeros := by simp [secs, cur]
    have hrd := read_yes p bl bm N (fun _ => zeros) (fun _ => none) 0 (N - 1) 1 (by omega) w2 hd2
    have hcc : ((N - 1 : Nat) : Int) = (N : Int) - 1 := by omega
    rw [hz, hcc] at hrd
    have HRD : Hid (Calls Try.prog 12 #[.pointer (some ⟨p, 0, none⟩), .int .i64 ((N : Int) - 1), .int .i64 1] w2 (ReadIs w2 zeros)) := Lib.hid hrd
    clear hd2 ho2 hz hrd hcc HNW HO1
    go_wp2_with fail
    refine (HRD.out).mono ?_
    rintro e3 w3 ⟨g3, cap3, rfl, hb3, ho3, hg3⟩
    have HB3 := Lib.hid hb3
    have HO3 := Lib.hid (HO2.out.then ho3 (fun _ _ f => f))
    have HD3 := Lib.hid (HD2.out.only ho3 (fun f => f) (fun f => f) (fun f => f))
    have HDD := Lib.hid (HD3.out.only (S := fun _ => False) ((Only.refl _ w3).drew) (fun f => f) (fun f => f) (fun f => f))
    obtain ⟨cs, hmk, hcs, hc0⟩ := make_64 w3.drew
    have HDA : Hid (DskAt (w3.alloc (.cells cs 5)).drew p bl bm N (fun _ => zeros) (fun _ => none) 0 false) := Lib.hid (HD3.out.only (S := fun _ => False) (((Only.refl _ w3).alloc (.cells cs 5)).drew) (fun f => f) (fun f => f) (fun f => f))
    have HOA : Hid (Only (fun _ => False) w (w3.alloc (.cells cs 5)).drew) := Lib.hid ((HO3.out.alloc (.cells cs 5)).drew)
    have hcv1 := conv_reads ((HB3.out.only (S := fun _ => False) ((Only.refl _ w3).drew) (fun _ _ f => f)).reads rfl) cap3
    have hcv2 := conv_reads ((HB3.out.only (S := fun _ => False) (((Only.refl _ w3).alloc (.cells cs 5)).drew) (fun _ _ f => f)).reads rfl) cap3
    have hcv3 : (convert 26 9 (.slice (some ⟨w3.heap.size, 0, none⟩) 64 64)).run Try.prog (w3.alloc (.cells cs 5)).drew = .ok (.string (strN zeros)) (w3.alloc (.cells cs 5)).drew := by
      have hF : Filling (w3.alloc (.cells cs 5)).drew w3.heap.size 64 0 := ⟨cs, by show (w3.alloc _).heap[w3.heap.size]? = _; rw [heap_alloc, if_pos rfl], hcs, fun j hj => by rw [hc0 j hj, if_pos hj]; rfl⟩
      exact conv_reads ((hF.own (by omega)).reads rfl) 64
    have hmk : (Instr.makeSlice 26 (.int .i64 64) (.int .i64 64)).run Try.prog w3.drew = .ok (.slice (some ⟨w3.heap.size, 0, none⟩) 64 64) (w3.drew.alloc (.cells cs 5)) := hmk
    have hzl : zeros.length = 64 := List.length_replicate
    rw [hzl] at hcv1 hcv2
    rw [hzl]
    generalize strN zeros = Z at *
    clear hb3 ho3 HRD hcs hc0 hzl
    go_wp2_with fail
    go_region_held (fun w' => (convert 26 9 (.slice (some ⟨g3, 0, none⟩) 64 cap3)).run Try.prog w' = .ok (.string Z) w')
      (first | exact hcv1 | exact hcv2)
      ((first
        | (go_at_call 16; refine (size_any _ _ _ _ _ _ _ _ _ HDD.out).mono ?_; rintro _ _ ⟨rfl, rfl⟩)
        | (go_at_call 18; refine (offs_any _ _ _ _ _ _ _ _ _ HDA.out).mono ?_; rintro _ _ ⟨rfl, rfl⟩)))
    all_goals go_wp2_with fail
    all_goals go_ret
    all_goals exact ⟨rfl, HOA.out⟩

set_option maxRecDepth 100000 in
set_option maxHeartbeats 4000000 in
theorem news_few (N : Nat) (hN1 : 1 ≤ N) (h50 : N ≤ 50) (w : World) : Calls Try.prog 3 #[.int .i64 (N : Int)] w fun e w' => e = .returned (.bool true) ∧ Only (fun _ => False) w w' := by
    have hn5 : ¬ 50 < (N : Int) := by omega
    have hN2 : N ≤ 8192 := by omega
    go_enter Try.func3, Try.ntmps3
    go_wp2_with (first
      | (go_at_call 9; refine (none_any _).mono ?_; rintro _ _ ⟨rfl, rfl⟩)
      | (go_at_call 10; refine (cut_nil _ _).mono ?_; rintro _ _ ⟨rfl, rfl⟩)
      | (go_at_call 11; refine (crash_nil _ _ _ _).mono ?_; rintro _ _ ⟨rfl, rfl⟩)
      | (go_at_call 12; refine (read_nil _ _ _).mono ?_; rintro _ _ ⟨rfl, rfl⟩)
      | (go_at_call 14; refine (write_nil _ _).mono ?_; rintro _ _ ⟨rfl, rfl⟩)
      | (go_at_call 15; refine (sync_nil _).mono ?_; rintro _ _ ⟨rfl, rfl⟩)
      | (go_at_call 16; refine (size_nil _).mono ?_; rintro _ _ ⟨rfl, rfl⟩)
      | (go_at_call 17; refine (dirty_nil _).mono ?_; rintro _ _ ⟨rfl, rfl⟩)
      | (go_at_call 18; refine (offs_nil _).mono ?_; rintro _ _ ⟨rfl, rfl⟩)
      | (go_at_call 13; refine (disks_any _).mono ?_; rintro _ w1 ⟨rfl, ho1⟩; have HO1 := Lib.hid ho1; clear ho1))
    have HNW := Lib.hid (new_any N hN1 hN2 w1)
    refine (HNW.out).mono ?_
    rintro e1 w2 ⟨p, bl, bm, rfl, hd2, ho2, hp, hbl, hbm⟩
    have HD2 := Lib.hid hd2
    have HO2 := Lib.hid (HO1.out.then ho2 (fun _ _ f => f))
    have hz : secs (cur (fun _ => zeros) (fun _ => none)) (N - 1) 1 = zeros := by simp [secs, cur]
    have hrd := read_yes p bl bm N (fun _ => zeros) (fun _ => none) 0 (N - 1) 1 (by omega) w2 hd2
    have hcc : ((N - 1 : Nat) : Int) = (N : Int) - 1 := by omega
    rw [hz, hcc] at hrd
    have HRD : Hid (Calls Try.prog 12 #[.pointer (some ⟨p, 0, none⟩), .int .i64 ((N : Int) - 1), .int .i64 1] w2 (ReadIs w2 zeros)) := Lib.hid hrd
    clear hd2 ho2 hz hrd hcc HNW HO1
    go_wp2_with fail
    refine (HRD.out).mono ?_
    rintro e3 w3 ⟨g3, cap3, rfl, hb3, ho3, hg3⟩
    have HB3 := Lib.hid hb3
    have HO3 := Lib.hid (HO2.out.then ho3 (fun _ _ f => f))
    have HD3 := Lib.hid (HD2.out.only ho3 (fun f => f) (fun f => f) (fun f => f))
    have HDD := Lib.hid (HD3.out.only (S := fun _ => False) ((Only.refl _ w3).drew) (fun f => f) (fun f => f) (fun f => f))
    obtain ⟨cs, hmk, hcs, hc0⟩ := make_64 w3.drew
    have HDA : Hid (DskAt (w3.alloc (.cells cs 5)).drew p bl bm N (fun _ => zeros) (fun _ => none) 0 false) := Lib.hid (HD3.out.only (S := fun _ => False) (((Only.refl _ w3).alloc (.cells cs 5)).drew) (fun f => f) (fun f => f) (fun f => f))
    have HOA : Hid (Only (fun _ => False) w (w3.alloc (.cells cs 5)).drew) := Lib.hid ((HO3.out.alloc (.cells cs 5)).drew)
    have hcv1 := conv_reads ((HB3.out.only (S := fun _ => False) ((Only.refl _ w3).drew) (fun _ _ f => f)).reads rfl) cap3
    have hcv2 := conv_reads ((HB3.out.only (S := fun _ => False) (((Only.refl _ w3).alloc (.cells cs 5)).drew) (fun _ _ f => f)).reads rfl) cap3
    have hcv3 : (convert 26 9 (.slice (some ⟨w3.heap.size, 0, none⟩) 64 64)).run Try.prog (w3.alloc (.cells cs 5)).drew = .ok (.string (strN zeros)) (w3.alloc (.cells cs 5)).drew := by
      have hF : Filling (w3.alloc (.cells cs 5)).drew w3.heap.size 64 0 := ⟨cs, by show (w3.alloc _).heap[w3.heap.size]? = _; rw [heap_alloc, if_pos rfl], hcs, fun j hj => by rw [hc0 j hj, if_pos hj]; rfl⟩
      exact conv_reads ((hF.own (by omega)).reads rfl) 64
    have hmk : (Instr.makeSlice 26 (.int .i64 64) (.int .i64 64)).run Try.prog w3.drew = .ok (.slice (some ⟨w3.heap.size, 0, none⟩) 64 64) (w3.drew.alloc (.cells cs 5)) := hmk
    have hzl : zeros.length = 64 := List.length_replicate
    rw [hzl] at hcv1 hcv2
    rw [hzl]
    generalize strN zeros = Z at *
    clear hb3 ho3 HRD hcs hc0 hzl
    go_wp2_with fail
    go_region_held (fun w' => (convert 26 9 (.slice (some ⟨g3, 0, none⟩) 64 cap3)).run Try.prog w' = .ok (.string Z) w')
      (first | exact hcv1 | exact hcv2)
      ((first
        | (go_at_call 16; refine (size_any _ _ _ _ _ _ _ _ _ HDD.out).mono ?_; rintro _ _ ⟨rfl, rfl⟩)
        | (go_at_call 18; refine (offs_any _ _ _ _ _ _ _ _ _ HDA.out).mono ?_; rintro _ _ ⟨rfl, rfl⟩)))
    all_goals go_wp2_with fail
    all_goals go_ret
    all_goals exact ⟨rfl, HOA.out⟩

theorem news_any (n : Int) (w : World) : Calls Try.prog 3 #[.int .i64 n] w fun e w' => e = .returned (.bool true) ∧ Only (fun _ => False) w w' := by
  by_cases h1 : n < 1 ∨ 8192 < n
  · exact news_no n h1 w
  · by_cases h2 : 50 < n
    · exact news_big n h2 (by omega) w
    · have e : n = ((n.toNat : Nat) : Int) := by omega
      rw [e]
      exact news_few n.toNat (by omega) (by omega) w
theorem news_walk (n : Int) (w : World) : Calls Try.prog 3 #[.int .i64 n] w fun e w' => e = .returned (.bool true) ∧ Below w.heap.size w w' := by
  refine (news_any n w).mono ?_
  rintro e w' ⟨h1, h2⟩
  exact ⟨h1, h2.none⟩
end Go.Proofs.Ytmkakpfbolpfcaa.dskw
