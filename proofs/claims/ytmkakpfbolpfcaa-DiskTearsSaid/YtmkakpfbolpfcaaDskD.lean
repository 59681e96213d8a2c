/- DiskNews: the small calls, and where there is no such disk. -/
import Derived.Test.YtmkakpfbolpfcaaDskB
import Derived.Test.YtmkakpfbolpfcaaDskS
namespace Go.Proofs.Ytmkakpfbolpfcaa.dskw
open Go.RowKit mem Go.Maps
set_option linter.unusedVariables false

theorem none_any (w : World) : Calls Try.prog 9 #[] w fun e w' => e = .returned (.pointer none) ∧ w = w' := by
  go_enter Try.func9, Try.ntmps9
  go_wp2
  go_ret
  exact ⟨rfl, rfl⟩
theorem read_nil (f m : Int) (w : World) : Calls Try.prog 12 #[.pointer none, .int .i64 f, .int .i64 m] w fun e w' => e = .returned (.tuple #[.slice none 0 0, .int .i64 1]) ∧ w = w' := by
  have HC := Lib.hid (check_nil f m w)
  go_enter Try.func12, Try.ntmps12
  go_wp2_with fail
  refine (HC.out).mono ?_
  rintro e1 w1 ⟨rfl, rfl⟩
  go_wp2_with fail
  go_ret2
  exact ⟨rfl, rfl⟩
theorem write_nil (f : Int) (w : World) : Calls Try.prog 14 #[.pointer none, .int .i64 f, .slice none 0 0] w fun e w' => e = .returned (.int .i64 1) ∧ w = w' := by
  have HC := Lib.hid (check_nil f 0 w)
  go_enter Try.func14, Try.ntmps14
  go_wp2_with fail
  refine (HC.out).mono ?_
  rintro e1 w1 ⟨rfl, rfl⟩
  go_wp2_with fail
  go_ret
  exact ⟨rfl, rfl⟩

set_option maxRecDepth 100000 in
set_option maxHeartbeats 2000000 in
theorem news_no (n : Int) (hn : n < 1 ∨ 8192 < n) (w : World) : Calls Try.prog 3 #[.int .i64 n] w fun e w' => e = .returned (.bool true) ∧ Only (fun _ => False) w w' := by
  have HNO := Lib.hid (new_no n hn)
  rcases hn with hA | hA
  · have h50 : ¬ 50 < n := by omega
    go_enter Try.func3, Try.ntmps3
    go_wp2_with (first
      | (go_at_call 9; refine (none_any _).mono ?_; rintro _ _ ⟨rfl, rfl⟩)
      | (go_at_call 10; refine (cut_nil _ _).mono ?_; rintro _ _ ⟨rfl, rfl⟩)
      | (go_at_call 11; refine (crash_nil _ _ _ _).mono ?_; rintro _ _ ⟨rfl, rfl⟩)
      | (go_at_call 12; refine (read_nil _ _ _).mono ?_; rintro _ _ ⟨rfl, rfl⟩)
      | (go_at_call 14; refine (write_nil _ _).mono ?_; rintro _ _ ⟨rfl, rfl⟩)
      | (go_at_call 15; refine (sync_nil _).mono ?_; rintro _ _ ⟨rfl, rfl⟩)
      | (go_at_call 16; refine (size_nil _).mono ?_; rintro _ _ ⟨rfl, rfl⟩)
      | (go_at_call 17; refine (dirty_nil _).mono ?_; rintro _ _ ⟨rfl, rfl⟩)
      | (go_at_call 18; refine (offs_nil _).mono ?_; rintro _ _ ⟨rfl, rfl⟩)
      | (go_at_call 13; refine (disks_any _).mono ?_; rintro _ w1 ⟨rfl, ho1⟩; have HO1 := Lib.hid ho1; clear ho1))
    refine (HNO.out w1).mono ?_
    rintro e1 w2 ⟨rfl, rfl⟩
    go_wp2_with fail
    go_ret
    exact ⟨rfl, HO1.out⟩
  · have h50 : 50 < n := by omega
    have h81 : ¬ n ≤ 8192 := by omega
    go_enter Try.func3, Try.ntmps3
    go_wp2_with (first
      | (go_at_call 9; refine (none_any _).mono ?_; rintro _ _ ⟨rfl, rfl⟩)
      | (go_at_call 10; refine (cut_nil _ _).mono ?_; rintro _ _ ⟨rfl, rfl⟩)
      | (go_at_call 11; refine (crash_nil _ _ _ _).mono ?_; rintro _ _ ⟨rfl, rfl⟩)
      | (go_at_call 12; refine (read_nil _ _ _).mono ?_; rintro _ _ ⟨rfl, rfl⟩)
      | (go_at_call 14; refine (write_nil _ _).mono ?_; rintro _ _ ⟨rfl, rfl⟩)
      | (go_at_call 15; refine (sync_nil _).mono ?_; rintro _ _ ⟨rfl, rfl⟩)
      | (go_at_call 16; refine (size_nil _).mono ?_; rintro _ _ ⟨rfl, rfl⟩)
      | (go_at_call 17; refine (dirty_nil _).mono ?_; rintro _ _ ⟨rfl, rfl⟩)
      | (go_at_call 18; refine (offs_nil _).mono ?_; rintro _ _ ⟨rfl, rfl⟩)
      | (go_at_call 13; refine (disks_any _).mono ?_; rintro _ w1 ⟨rfl, ho1⟩; have HO1 := Lib.hid ho1; clear ho1))
    refine (HNO.out w1).mono ?_
    rintro e1 w2 ⟨rfl, rfl⟩
    go_wp2_with fail
    go_ret
    exact ⟨rfl, HO1.out⟩
end Go.Proofs.Ytmkakpfbolpfcaa.dskw
