/- Books: the law's own fixed example. -/
import Derived.Test.YtfpeimihlihphaaFuK
namespace Go.Proofs.Ytfpeimihlihphaa.fnd
open Go.RowKit mem tre
set_option linter.unusedVariables false

def B1 : List Ac := topA A0 1 9
def B2 : List Ac := topA B1 2 5
theorem e1 : topE A0 1 9 = 0 := by decide +kernel
theorem e2 : topE B1 2 5 = 0 := by decide +kernel
theorem B1ok : Bok B1 := Bok.topA Bok.new 1 9
theorem B2ok : Bok B2 := Bok.topA B1ok 2 5
theorem e3 : roomN B2 [1, 2] [-1, -1] = 5 ∧ roomE [1, 2] [-1, -1] = 0 := by decide +kernel
theorem e4 : holdE B2 [1, 2] [-1, -1] 6 = 9 := by decide +kernel
theorem e4A : holdA B2 [1, 2] [-1, -1] 6 = B2 := by unfold holdA; rw [e4]; rfl
theorem e5 : holdE B2 [1, 2] [3, -1] 4 = 18 := by decide +kernel
theorem e5A : holdA B2 [1, 2] [3, -1] 4 = B2 := by unfold holdA; rw [e5]; rfl
theorem e6 : left (acG B2 1) = 9 := by decide +kernel
theorem two_new {W : World} {g : Nat} {a b : Int} (hg : g = W.heap.size) (t : TypeId) (ha : -9223372036854775808 ≤ a ∧ a ≤ 9223372036854775807) (hb : -9223372036854775808 ≤ b ∧ b ≤ 9223372036854775807) : ReadsI (W.alloc (.cells #[.int .i64 a, .int .i64 b] t)) (some ⟨g, 0, none⟩) 2 [a, b] := by
  refine ⟨rfl, by unfold maxLen; omega, fun c hc => by simp at hc; rcases hc with rfl | rfl <;> assumption, .inr ⟨g, 0, rfl, fun i hi => ?_⟩⟩
  match i, hi with
  | 0, _ => exact alloc_cell hg rfl
  | 1, _ => exact alloc_cell hg rfl
theorem two_rows {p : Nat} {B : List Ac} {w : World} (h : BkAt w p B) (t : TypeId) {a b c d : Int} (ha : -9223372036854775808 ≤ a ∧ a ≤ 9223372036854775807) (hb : -9223372036854775808 ≤ b ∧ b ≤ 9223372036854775807) (hc : -9223372036854775808 ≤ c ∧ c ≤ 9223372036854775807) (hd : -9223372036854775808 ≤ d ∧ d ≤ 9223372036854775807) :
    BkAt ((w.alloc (.cells #[.int .i64 a, .int .i64 b] t)).alloc (.cells #[.int .i64 c, .int .i64 d] t)) p B ∧ ReadsI ((w.alloc (.cells #[.int .i64 a, .int .i64 b] t)).alloc (.cells #[.int .i64 c, .int .i64 d] t)) (some ⟨w.heap.size, 0, none⟩) 2 [a, b] ∧ ReadsI ((w.alloc (.cells #[.int .i64 a, .int .i64 b] t)).alloc (.cells #[.int .i64 c, .int .i64 d] t)) (some ⟨w.heap.size + 1, 0, none⟩) 2 [c, d] ∧ (∀ y, some (⟨w.heap.size, 0, none⟩ : Addr) = some y → y.block ≠ p) ∧ Only (fun _ => False) w ((w.alloc (.cells #[.int .i64 a, .int .i64 b] t)).alloc (.cells #[.int .i64 c, .int .i64 d] t)) :=
  ⟨h.only (((Only.refl (fun _ => False) w).alloc _).alloc _) (fun f => f), (two_new rfl t ha hb).only ((Only.refl (fun _ => False) _).alloc _) (fun _ _ f => f), two_new (by simp) t hc hd, fun y e => by cases e; have := h.lt; show w.heap.size ≠ p; omega, ((Only.refl (fun _ => False) w).alloc _).alloc _⟩
set_option maxRecDepth 100000 in
set_option maxHeartbeats 8000000 in
theorem haves_any (w : World) : Calls Try.prog 31 #[] w fun e w' => e = .returned (.bool true) ∧ Only (fun _ => False) w w' := by
  have HW : Hid (∀ w', Only (fun q => w.heap.size ≤ q) w w' → Only (fun _ => False) w w') := Lib.hid (fun w' ho => (Only.refl _ w).then ho (fun q hq e => by omega))
  go_enter Try.func31, Try.ntmps31
  go_wp2_with fail
  refine (bnew_any w).mono ?_
  rintro _ w1 ⟨rfl, ht, ho⟩
  obtain ⟨p, hp⟩ : ∃ x, x = w.heap.size := ⟨_, rfl⟩
  rw [← hp] at ht HW ⊢
  have HT := Lib.hid ht
  have HO : Hid (Only (fun q => p ≤ q) w w1) := Lib.hid (ho.mono (fun _ _ f => f.elim))
  clear ht ho hp
  go_wp2_with fail
  refine (topup_any p A0 1 9 _ HT.out Bok.new).mono ?_
  rintro _ w2 ⟨rfl, ht, ho⟩
  rw [e1]
  replace HT : Hid (BkAt w2 p B1) := Lib.hid ht
  replace HO := Lib.hid (HO.out.trans (ho.mono (fun q _ e => by omega)))
  clear ht ho
  go_wp2_with fail
  refine (topup_any p B1 2 5 _ HT.out B1ok).mono ?_
  rintro _ w3 ⟨rfl, ht, ho⟩
  rw [e2]
  replace HT : Hid (BkAt w3 p B2) := Lib.hid ht
  replace HO := Lib.hid (HO.out.trans (ho.mono (fun q _ e => by omega)))
  clear ht ho
  have HA := Lib.hid (two_rows HT.out 3 (a := 1) (b := 2) (c := -1) (d := -1) (by decide) (by decide) (by decide) (by decide))
  go_wp2_with fail
  refine (room_any p B2 _ 2 2 [1, 2] _ 2 2 [-1, -1] _ HA.out.1 B2ok HA.out.2.1 (by omega) HA.out.2.2.1).mono ?_
  rintro _ w5 ⟨rfl, ho⟩
  rw [e3.1, e3.2]
  have HO5 : Hid (Only (fun q => p ≤ q) w w5) := Lib.hid (HO.out.trans ((HA.out.2.2.2.2.trans ho).mono (fun _ _ f => f.elim)))
  have HT5 : Hid (BkAt w5 p B2) := Lib.hid (HA.out.1.only ho (fun f => f))
  clear ho HA HT HO
  have HA := Lib.hid (two_rows HT5.out 3 (a := 1) (b := 2) (c := -1) (d := -1) (by decide) (by decide) (by decide) (by decide))
  go_wp2_with fail
  refine (hold_any p B2 _ 2 2 [1, 2] _ 2 2 [-1, -1] 6 _ HA.out.1 B2ok HA.out.2.1 (by omega) HA.out.2.2.1 HA.out.2.2.2.1).mono ?_
  rintro _ w6 ⟨rfl, ht, ho⟩
  rw [e4A] at ht
  rw [e4]
  have HO6 : Hid (Only (fun q => p ≤ q) w w6) := Lib.hid ((HO5.out.trans (HA.out.2.2.2.2.mono (fun _ _ f => f.elim))).trans (ho.mono (fun q _ e => by omega)))
  have HT6 := Lib.hid ht
  clear ho ht HA HT5 HO5
  have HA := Lib.hid (two_rows HT6.out 3 (a := 1) (b := 2) (c := 3) (d := -1) (by decide) (by decide) (by decide) (by decide))
  go_wp2_with fail
  refine (hold_any p B2 _ 2 2 [1, 2] _ 2 2 [3, -1] 4 _ HA.out.1 B2ok HA.out.2.1 (by omega) HA.out.2.2.1 HA.out.2.2.2.1).mono ?_
  rintro _ w7 ⟨rfl, ht, ho⟩
  rw [e5A] at ht
  rw [e5]
  have HO7 : Hid (Only (fun q => p ≤ q) w w7) := Lib.hid ((HO6.out.trans (HA.out.2.2.2.2.mono (fun _ _ f => f.elim))).trans (ho.mono (fun q _ e => by omega)))
  have HT7 := Lib.hid ht
  clear ho ht HA HT6 HO6
  go_wp2_with fail
  refine (available_any p B2 1 _ HT7.out B2ok).mono ?_
  rintro _ w8 ⟨rfl, ho⟩
  rw [e6]
  have HO8 : Hid (Only (fun q => p ≤ q) w w8) := Lib.hid (HO7.out.trans (ho.mono (fun _ _ f => f.elim)))
  clear ho
  go_wp2_with fail
  go_ret
  exact ⟨rfl, HW.out _ HO8.out⟩
end Go.Proofs.Ytfpeimihlihphaa.fnd
