/- CrcGoes's walk. -/
import Derived.Test.YtdeljhkombbncabCrcRow
import Derived.RegionTactic
import Derived.ChangeAlike
namespace Go.Proofs.Ytdeljhkombbncab.crcw
open Go.RowKit
open crcm

theorem size_alloc (x : World) (o : Obj) : (x.alloc o).heap.size = x.heap.size + 1 := by show (x.heap.push o).size = _; simp

theorem Reads.alloc {w : World} {a : Option Addr} {len : Nat} {l : List Nat} (h : Reads w a len l) (o : Obj) : Reads (w.alloc o) a len l :=
  h.below ((Below.refl _ _).alloc (Nat.le_refl _) o)

theorem parts1 {w : World} {a : Option Addr} {len : Nat} {l : List Nat} (h : Reads w a len l) (cap : Nat) (t : TypeId) : Parts (w.alloc (.cells #[.slice a len cap] t)) (some ⟨w.heap.size, 0, none⟩) 1 [l] := by
  refine ⟨rfl, by unfold maxLen; omega, .inr ⟨_, _, rfl, ?_⟩⟩
  intro i hi
  have hc := Go.Joins.cell_of_block (w := w.alloc (.cells #[.slice a len cap] t)) (g := w.heap.size) (by rw [heap_alloc, if_pos rfl]) i
  rw [Nat.zero_add, hc]
  match i, hi with
  | 0, _ => exact ⟨_, _, _, rfl, h.alloc _⟩

theorem parts2 {w : World} {a b : Option Addr} {len len2 : Nat} {l r : List Nat} (h : Reads w a len l) (h2 : Reads w b len2 r) (cap cap2 : Nat) (t : TypeId) :
    Parts (w.alloc (.cells #[.slice a len cap, .slice b len2 cap2] t)) (some ⟨w.heap.size, 0, none⟩) 2 [l, r] := by
  refine ⟨rfl, by unfold maxLen; omega, .inr ⟨_, _, rfl, ?_⟩⟩
  intro i hi
  have hc := Go.Joins.cell_of_block (w := w.alloc (.cells #[.slice a len cap, .slice b len2 cap2] t)) (g := w.heap.size) (by rw [heap_alloc, if_pos rfl]) i
  rw [Nat.zero_add, hc]
  match i, hi with
  | 0, _ => exact ⟨_, _, _, rfl, h.alloc _⟩
  | 1, _ => exact ⟨_, _, _, rfl, h2.alloc _⟩

theorem parts1' {w : World} {a : Option Addr} {len g : Nat} {l : List Nat} (h : Reads w a len l) (cap : Nat) (t : TypeId) (hg : g = w.heap.size) : Parts (w.alloc (.cells #[.slice a len cap] t)) (some ⟨g, 0, none⟩) 1 [l] := by
  subst hg; exact parts1 h cap t
theorem parts2' {w : World} {a b : Option Addr} {len len2 g : Nat} {l r : List Nat} (h : Reads w a len l) (h2 : Reads w b len2 r) (cap cap2 : Nat) (t : TypeId) (hg : g = w.heap.size) :
    Parts (w.alloc (.cells #[.slice a len cap, .slice b len2 cap2] t)) (some ⟨g, 0, none⟩) 2 [l, r] := by
  subst hg; exact parts2 h h2 cap cap2 t
theorem more_zero (a : Option Addr) (len cap : Nat) (l : List Nat) (w : World) (h : Reads w a len l) :
    Calls Try.prog 10 #[.int .u32 0, .slice a len cap] w fun e w' => e = .returned (.int .u32 ((more 0 l : Nat) : Int)) ∧ w = w' :=
  more_any 0 (by omega) a len cap l w h

theorem reads_nil (w : World) : Reads w none 0 [] := ⟨rfl, by unfold maxLen; omega, by simp, .inl rfl⟩

set_option maxRecDepth 100000 in
set_option maxHeartbeats 1000000 in
theorem goes_walk (a b : Option Addr) (len cap len2 cap2 : Nat) (l r : List Nat) (w : World) (h : Bytes w a len cap l) (h2 : Bytes w b len2 cap2 r) :
    Calls Try.prog 3 #[.slice a len cap, .slice b len2 cap2] w fun e w' => e = .returned (.bool true) ∧ Below w.heap.size w w' := by
  obtain ⟨hr, hlc, hcm, _⟩ := h
  obtain ⟨hr2, hlc2, hcm2, _⟩ := h2
  unfold maxLen at hcm hcm2
  rcases Nat.lt_or_ge 500 len with hlen | hlen <;> rcases Nat.lt_or_ge 500 len2 with hlen2 | hlen2
  all_goals
    obtain ⟨l', HR⟩ : ∃ l', Hid (Reads w a (min len 500) l') := by
      rcases Nat.lt_or_ge 500 len with h | h
      · exact ⟨_, Lib.hid (by rw [Nat.min_eq_right (by omega)]; exact hr.take 500 (by omega))⟩
      · exact ⟨_, Lib.hid (by rw [Nat.min_eq_left (by omega)]; exact hr)⟩
    obtain ⟨r', HR2⟩ : ∃ r', Hid (Reads w b (min len2 500) r') := by
      rcases Nat.lt_or_ge 500 len2 with h | h
      · exact ⟨_, Lib.hid (by rw [Nat.min_eq_right (by omega)]; exact hr2.take 500 (by omega))⟩
      · exact ⟨_, Lib.hid (by rw [Nat.min_eq_left (by omega)]; exact hr2)⟩
    clear hr hr2
    first | rw [Nat.min_eq_right (by omega : 500 ≤ len)] at HR | rw [Nat.min_eq_left (by omega : len ≤ 500)] at HR
    first | rw [Nat.min_eq_right (by omega : 500 ≤ len2)] at HR2 | rw [Nat.min_eq_left (by omega : len2 ≤ 500)] at HR2
    obtain ⟨X, HX⟩ : ∃ X, Hid (more 0 l' = X) := ⟨_, Lib.hid rfl⟩
    obtain ⟨Y, HY⟩ : ∃ Y, Hid (more X r' = Y) := ⟨_, Lib.hid rfl⟩
    obtain ⟨Z, HZ⟩ : ∃ Z, Hid (more 0 r' = Z) := ⟨_, Lib.hid rfl⟩
    have hXlt : X < 4294967296 := by rw [← HX.out]; exact more_lt (by omega) HR.out.2.2.1
    have S1 : Hid (sumP [l'] = X) := Lib.hid HX.out
    have S2 : Hid (sumP [l', r'] = Y) := Lib.hid (by rw [← HY.out, ← HX.out]; rfl)
    have S3 : Hid (sumP [r'] = Z) := Lib.hid HZ.out
    have S4 : Hid (sumP [l', []] = X) := Lib.hid (by show more (more 0 l') [] = X; rw [more_nil, HX.out])
    go_enter Try.func3, Try.ntmps3
    go_wp2_with fail
    go_region
    go_wp2_with fail
    refine (sums_any _).mono ?_
    rintro e w1 ⟨rfl, hb1⟩
    have hb0 : Below w.heap.size w w1 := ((Below.refl _ _).drew).trans hb1
    replace HR := Lib.hid (HR.out.below hb0)
    replace HR2 := Lib.hid (HR2.out.below hb0)
    clear hb1
    go_wp2_with fail
    refine (sum_any _ _ _ _ _ (parts1 HR.out _ _)).mono ?_
    rintro e w2 ⟨rfl, rfl⟩
    rw [S1.out]
    go_wp2_with fail
    refine (more_any X hXlt _ _ _ _ _ (HR2.out.alloc _)).mono ?_
    rintro e w2 ⟨rfl, rfl⟩
    rw [HY.out]
    go_wp2_with fail
    refine (sum_any _ _ _ _ _ (parts2' (HR.out.alloc _) (HR2.out.alloc _) _ _ _ (by simp))).mono ?_
    rintro e w2 ⟨rfl, rfl⟩
    rw [S2.out]
    go_wp2_with fail
    refine (more_zero _ _ _ _ _ ((HR2.out.alloc _).alloc _)).mono ?_
    rintro e w2 ⟨rfl, rfl⟩
    rw [HZ.out]
    go_wp2_with fail
    refine (sum_any _ _ _ _ _ (parts1' ((HR2.out.alloc _).alloc _) _ _ (by simp))).mono ?_
    rintro e w2 ⟨rfl, rfl⟩
    rw [S3.out]
    go_wp2_with fail
    refine (sum_any _ _ _ _ _ (parts2' (((HR.out.alloc _).alloc _).alloc _) (reads_nil _) _ _ _ (by simp))).mono ?_
    rintro e w2 ⟨rfl, rfl⟩
    rw [S4.out]
    go_wp2_with fail
    refine (sum_any _ _ _ _ _ (parts1' ((((HR.out.alloc _).alloc _).alloc _).alloc _) _ _ (by simp))).mono ?_
    rintro e w2 ⟨rfl, rfl⟩
    rw [S1.out]
    have hz := hb0.size
    go_wp2
    go_ret
    exact ⟨rfl, ((((hb0.alloc (by omega) _).alloc (by simp; omega) _).alloc (by simp; omega) _).alloc (by simp; omega) _).alloc (by simp; omega) _⟩
end Go.Proofs.Ytdeljhkombbncab.crcw
