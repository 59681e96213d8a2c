/- What codec's Writer calls do. -/
import Derived.Test.YtnhlmodhmodilaaCodWrite
import Derived.Deep.RegionWith
namespace Go.Proofs.Ytnhlmodhmodilaa.codw
open Go.RowKit mem codm
set_option linter.unusedVariables false

theorem put_int (p : Nat) (v : Value) (l : List Nat) (e : Nat) (x : Int) (w : World) (h0 : 0 ≤ x) (hn : x < 18446744073709551616) (h : WR w p v l e) (hlen : l.length ≤ 70368744177664) :
    Calls Try.prog 34 #[.pointer (some ⟨p, 0, none⟩), .int .u64 x] w fun en w' => en = .returned (.tuple #[]) ∧ WAfter p v w w' (l ++ enc x.toNat) e := by
  obtain ⟨n, rfl⟩ := Int.eq_ofNat_of_zero_le h0
  exact put_any p v l e n w (by omega) h hlen

set_option maxRecDepth 100000 in
theorem wint_any (p : Nat) (v : Value) (l : List Nat) (e : Nat) (n : Int) (w : World) (hn : -9223372036854775808 ≤ n ∧ n ≤ 9223372036854775807) (h : WR w p v l e) (hlen : l.length ≤ 70368744177664) :
    Calls Try.prog 19 #[.pointer (some ⟨p, 0, none⟩), .int .i64 n] w fun en w' => en = .returned (.tuple #[]) ∧ WAfter p v w w' (l ++ enc (zig n)) e := by
  have HH := Lib.hid h
  clear h
  by_cases h0 : n < 0
  · have hz : Hid (zig n = (2 * -(n + 1) + 1).toNat) := Lib.hid (by unfold zig; rw [if_neg (by omega)]; omega)
    go_enter Try.func19, Try.ntmps19
    go_wp2_with fail
    refine (put_int p v l e _ _ (by omega) (by omega) HH.out hlen).mono ?_
    rintro e1 w1 ⟨rfl, hw⟩
    have HW := Lib.hid hw
    clear hw
    go_wp2
    refine bodyPost_ret (v := .tuple #[]) (by simp [results, Try.results19, go_sem]) rfl ⟨rfl, ?_⟩
    rw [hz.out]
    exact HW.out
  · have hz : Hid (zig n = (2 * n).toNat) := Lib.hid (by unfold zig; rw [if_pos (by omega)])
    go_enter Try.func19, Try.ntmps19
    go_wp2_with fail
    refine (put_int p v l e _ _ (by omega) (by omega) HH.out hlen).mono ?_
    rintro e1 w1 ⟨rfl, hw⟩
    have HW := Lib.hid hw
    clear hw
    go_wp2
    go_end0
    refine ⟨rfl, ?_⟩
    rw [hz.out]
    exact HW.out

theorem WR.err {w : World} {p : Nat} {v : Value} {l : List Nat} {e : Nat} (h : WR w p v l e) (e' : Nat) : WAfter p v w (w.setCell ⟨p, 1, none⟩ (.int .i64 (e' : Int))) l e' := by
  have ho : Only (fun k => k = p) w (w.setCell ⟨p, 1, none⟩ (.int .i64 (e' : Int))) := Only.set _ w p 1 _ rfl
  exact ⟨v, ⟨by rw [cell_other (by simp)]; exact h.c0, cell_same h.c1, by rw [frozen_set]; exact h.f0, by rw [frozen_set]; exact h.f1, h.own.only ho (fun k hk e => by subst e; exact h.off hk), h.off⟩,
    ho.mono (fun k _ hk => .inl hk), fun k hk => .inl hk⟩

set_option maxRecDepth 100000 in
theorem wuint_any (p : Nat) (v : Value) (l : List Nat) (e : Nat) (n : Int) (w : World) (h0 : 0 ≤ n) (hn : n ≤ 9223372036854775807) (h : WR w p v l e) (hlen : l.length ≤ 70368744177664) :
    Calls Try.prog 18 #[.pointer (some ⟨p, 0, none⟩), .int .i64 n] w fun en w' => en = .returned (.tuple #[]) ∧ WAfter p v w w' (l ++ enc n.toNat) e := by
  have HH := Lib.hid h
  clear h
  go_enter Try.func18, Try.ntmps18
  go_wp2_with fail
  refine (put_int p v l e _ _ (by omega) (by omega) HH.out hlen).mono ?_
  rintro e1 w1 ⟨rfl, hw⟩
  have HW := Lib.hid hw
  clear hw
  go_wp2
  go_end0
  exact ⟨rfl, HW.out⟩

set_option maxRecDepth 100000 in
theorem wuint_below (p : Nat) (v : Value) (l : List Nat) (e : Nat) (n : Int) (w : World) (h0 : n < 0) (h : WR w p v l e) :
    Calls Try.prog 18 #[.pointer (some ⟨p, 0, none⟩), .int .i64 n] w fun en w' => en = .returned (.tuple #[]) ∧ WAfter p v w w' l 1 := by
  have c1 := h.c1
  have f1 := h.f1
  have HH := Lib.hid h
  clear h
  go_enter Try.func18, Try.ntmps18
  go_wp2
  exact bodyPost_ret (v := .tuple #[]) (by simp [results, Try.results18, go_sem]) rfl ⟨rfl, HH.out.err 1⟩

theorem bytes_of_own {w : World} {v : Value} {l : List Nat} (h : OwnB w v l) : ∃ a len cap, v = .slice a len cap ∧ Bytes w a len cap l := by
  rcases h.forms with ⟨hv, hl⟩ | ⟨g, cap, hv, hg, hc, hm⟩
  · subst hl
    exact ⟨none, 0, 0, hv, ⟨rfl, by unfold maxLen; omega, by simp, .inl rfl⟩, Nat.le_refl _, by unfold maxLen; omega, fun _ => rfl⟩
  · subst hv
    exact ⟨_, _, _, rfl, h.reads rfl, hc, hm, fun f => by cases f⟩

set_option maxRecDepth 100000 in
set_option maxHeartbeats 1000000 in
theorem wbytes_any (p : Nat) (v : Value) (l : List Nat) (e : Nat) (w : World) (h : WR w p v l e) (hlen : l.length ≤ 140737488355328) :
    Calls Try.prog 20 #[.pointer (some ⟨p, 0, none⟩)] w fun en w' => ∃ v', en = .returned (.tuple #[v', .int .i64 (e : Int)]) ∧ OwnB w' v' l ∧ Only (fun _ => False) w w' ∧ (∀ k, v'.ownBlock = some k → w.heap.size ≤ k) := by
  obtain ⟨a, len, cap, rfl, hB⟩ := bytes_of_own h.own
  have c0 := h.c0
  have c1 := h.c1
  have hll : len ≤ 140737488355328 := by have := hB.1.1; omega
  have HB := Lib.hid hB
  clear h hB
  go_enter Try.func20, Try.ntmps20
  go_wp2_with fail
  go_region_with ((go_at_call 35; refine (clone_any _ _ _ _ _ (by first | exact HB.out | exact Bytes.drew HB.out) hll).mono ?_; rintro e1 w1 ⟨v1, rfl, hv1, ho1, hk1⟩; have c12 := ho1.cell' c1 (fun f => f)))
  all_goals
    have hk2 : ∀ k, v1.ownBlock = some k → w.heap.size ≤ k := hk1
    have ho2 : Only (fun _ => False) w w1 := ((Only.refl (fun _ => False) w).drew).trans ho1
    clear hk1 ho1
    go_wp2
    go_ret2
    exact ⟨v1, rfl, hv1, ho2, hk2⟩
end Go.Proofs.Ytnhlmodhmodilaa.codw
