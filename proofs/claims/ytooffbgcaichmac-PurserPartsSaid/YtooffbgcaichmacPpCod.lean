/- Codec's writer and reader, as far as numbers with a sign need them. -/
import Derived.Test.YtooffbgcaichmacCodInt
import Derived.Test.YtooffbgcaichmacCodWrite
import Derived.Deep.RegionWith
namespace Go.Proofs.Ytooffbgcaichmac.codw
open Go.RowKit mem codm
set_option linter.unusedVariables false

theorem put_int (p : Nat) (v : Value) (l : List Nat) (e : Nat) (x : Int) (w : World) (h0 : 0 ≤ x) (hn : x < 18446744073709551616) (h : WR w p v l e) (hlen : l.length ≤ 70368744177664) :
    Calls Try.prog 12 #[.pointer (some ⟨p, 0, none⟩), .int .u64 x] w fun en w' => en = .returned (.tuple #[]) ∧ WAfter p v w w' (l ++ enc x.toNat) e := by
  obtain ⟨n, rfl⟩ := Int.eq_ofNat_of_zero_le h0
  exact put_any p v l e n w (by omega) h hlen

set_option maxRecDepth 100000 in
theorem wint_any (p : Nat) (v : Value) (l : List Nat) (e : Nat) (n : Int) (w : World) (hn : -9223372036854775808 ≤ n ∧ n ≤ 9223372036854775807) (h : WR w p v l e) (hlen : l.length ≤ 70368744177664) :
    Calls Try.prog 4 #[.pointer (some ⟨p, 0, none⟩), .int .i64 n] w fun en w' => en = .returned (.tuple #[]) ∧ WAfter p v w w' (l ++ enc (zig n)) e := by
  have HH := Lib.hid h
  clear h
  by_cases h0 : n < 0
  · have hz : Hid (zig n = (2 * -(n + 1) + 1).toNat) := Lib.hid (by unfold zig; rw [if_neg (by omega)]; omega)
    go_enter Try.func4, Try.ntmps4
    go_wp2_with fail
    refine (put_int p v l e _ _ (by omega) (by omega) HH.out hlen).mono ?_
    rintro e1 w1 ⟨rfl, hw⟩
    have HW := Lib.hid hw
    clear hw
    go_wp2
    refine bodyPost_ret (v := .tuple #[]) (by simp [results, Try.results4, go_sem]) rfl ⟨rfl, ?_⟩
    rw [hz.out]
    exact HW.out
  · have hz : Hid (zig n = (2 * n).toNat) := Lib.hid (by unfold zig; rw [if_pos (by omega)])
    go_enter Try.func4, Try.ntmps4
    go_wp2_with fail
    refine (put_int p v l e _ _ (by omega) (by omega) HH.out hlen).mono ?_
    rintro e1 w1 ⟨rfl, hw⟩
    have HW := Lib.hid hw
    clear hw
    go_wp2
    go_end0
    refine ⟨rfl, ?_⟩
    rw [hz.out]
    exact HW.out

theorem bytes_of_own {w : World} {v : Value} {l : List Nat} (h : OwnB w v l) : ∃ a len cap, v = .slice a len cap ∧ Bytes w a len cap l := by
  rcases h.forms with ⟨hv, hl⟩ | ⟨g, cap, hv, hg, hc, hm⟩
  · subst hl
    exact ⟨none, 0, 0, hv, ⟨rfl, by unfold maxLen; omega, by simp, .inl rfl⟩, Nat.le_refl _, by unfold maxLen; omega, fun _ => rfl⟩
  · subst hv
    exact ⟨_, _, _, rfl, h.reads rfl, hc, hm, fun f => by cases f⟩

set_option maxRecDepth 100000 in
set_option maxHeartbeats 1000000 in
theorem wbytes_any (p : Nat) (v : Value) (l : List Nat) (e : Nat) (w : World) (h : WR w p v l e) (hlen : l.length ≤ 140737488355328) :
    Calls Try.prog 5 #[.pointer (some ⟨p, 0, none⟩)] w fun en w' => ∃ v', en = .returned (.tuple #[v', .int .i64 (e : Int)]) ∧ OwnB w' v' l ∧ Only (fun _ => False) w w' ∧ (∀ k, v'.ownBlock = some k → w.heap.size ≤ k) := by
  obtain ⟨a, len, cap, rfl, hB⟩ := bytes_of_own h.own
  have c0 := h.c0
  have c1 := h.c1
  have hll : len ≤ 140737488355328 := by have := hB.1.1; omega
  have HB := Lib.hid hB
  clear h hB
  go_enter Try.func5, Try.ntmps5
  go_wp2_with fail
  go_region_with ((go_at_call 13; refine (clone_any _ _ _ _ _ (by first | exact HB.out | exact Bytes.drew HB.out) hll).mono ?_; rintro e1 w1 ⟨v1, rfl, hv1, ho1, hk1⟩; have c12 := ho1.cell' c1 (fun f => f)))
  all_goals
    have hk2 : ∀ k, v1.ownBlock = some k → w.heap.size ≤ k := hk1
    have ho2 : Only (fun _ => False) w w1 := ((Only.refl (fun _ => False) w).drew).trans ho1
    clear hk1 ho1
    go_wp2
    go_ret2
    exact ⟨v1, rfl, hv1, ho2, hk2⟩

/-- what End answers -/
def rend (l : List Nat) (e : Nat) : Nat := if e = 0 then (if l = [] then 0 else 4) else e

theorem end_any (p : Nat) (a : Option Addr) (len cap : Nat) (l : List Nat) (e : Nat) (w : World) (h : RD w p a len cap l e) :
    Calls Try.prog 10 #[.pointer (some ⟨p, 0, none⟩)] w fun en w' => en = .returned (.int .i64 (rend l e : Int)) ∧ w = w' := by
  have c0 := h.c0
  have c1 := h.c1
  have hl := h.reads.1
  clear h
  by_cases he : e = 0
  · subst he
    have he0 : (((0 : Nat) : Int) == 0) = true := rfl
    by_cases h0 : len = 0
    · have hR : Hid (rend l 0 = 0) := Lib.hid (by unfold rend; rw [if_pos rfl, if_pos (List.eq_nil_of_length_eq_zero (by omega))])
      subst h0
      clear hl
      go_enter Try.func10, Try.ntmps10
      go_wp2
      go_ret
      rw [hR.out]
      exact ⟨rfl, rfl⟩
    · have hR : Hid (rend l 0 = 4) := Lib.hid (by unfold rend; rw [if_pos rfl, if_neg (fun h => by subst h; simp at hl; omega)])
      have hd : 0 < len := by omega
      clear hl
      go_enter Try.func10, Try.ntmps10
      go_wp2
      go_ret
      rw [hR.out]
      exact ⟨rfl, rfl⟩
  · have hne : ((e : Int) == 0) = false := by rw [beq_eq_false_iff_ne]; omega
    have hR : Hid (rend l e = e) := Lib.hid (by unfold rend; rw [if_neg he])
    clear hl he
    go_enter Try.func10, Try.ntmps10
    go_wp2
    go_ret
    rw [hR.out]
    exact ⟨rfl, rfl⟩

theorem new_writer (w : World) (t : TypeId) : WR (w.alloc (.cells #[.slice none 0 0, .int .i64 0] t)) w.heap.size (.slice none 0 0) [] 0 :=
  ⟨by simp, by simp, by simp, by simp, OwnB.nil _, fun f => by cases f⟩

theorem new_reader {w : World} {a : Option Addr} {len cap : Nat} {l : List Nat} (h : Bytes w a len cap l) (hlt : ∀ x, a = some x → x.block < w.heap.size) (t : TypeId) :
    RD (w.alloc (.cells #[.slice a len cap, .int .i64 0] t)) w.heap.size a len cap l 0 :=
  ⟨by simp, by simp, by simp, by simp, h.1.only (S := fun _ => False) ((Only.refl _ w).alloc _) (fun _ _ f => f), h.2.1, h.2.2.1, fun x hx e => by have := hlt x hx; omega⟩

/-- a new reader -/
theorem read_any (a : Option Addr) (len cap : Nat) (l : List Nat) (w : World) (h : Bytes w a len cap l) (hmax : len ≤ 140737488355328) :
    Calls Try.prog 7 #[.slice a len cap] w fun en w' => ∃ p a' len' cap', en = .returned (.pointer (some ⟨p, 0, none⟩)) ∧ RD w' p a' len' cap' l 0 ∧ Only (fun _ => False) w w' ∧ w.heap.size ≤ p ∧ (∀ x, a' = some x → w.heap.size ≤ x.block ∧ x.block < w'.heap.size) := by
  have HB := Lib.hid h
  clear h
  go_enter Try.func7, Try.ntmps7
  go_wp2_with fail
  refine (clone_any a len cap l _ HB.out hmax).mono ?_
  rintro e1 w1 ⟨v1, rfl, hv, ho, hk⟩
  obtain ⟨a1, len1, cap1, rfl, hB1⟩ := bytes_of_own hv
  have hlt : ∀ x, a1 = some x → x.block < w1.heap.size := by
    intro x hx
    subst hx
    rcases hv.forms with ⟨h1, _⟩ | ⟨g, c, h1, hg, _⟩
    · cases h1
    · simp at h1; rw [h1.1]; exact hg
  have hk2 : ∀ x, a1 = some x → w.heap.size ≤ x.block := fun x hx => hk x.block (by rw [hx]; rfl)
  have hlt2 : ∀ x, a1 = some x → w.heap.size ≤ x.block ∧ x.block < w1.heap.size + 1 := fun x hx => ⟨hk2 x hx, by have := hlt x hx; omega⟩
  have HN := Lib.hid (new_reader hB1 hlt 45)
  have HO := Lib.hid ho
  clear hv hk ho hB1 hlt
  go_wp2
  go_ret
  exact ⟨w1.heap.size, a1, len1, cap1, rfl, HN.out, HO.out.alloc _, HO.out.size, by rw [size_alloc]; exact hlt2⟩

theorem rint_back (n : Int) (h1 : -9223372036854775808 ≤ n ∧ n ≤ 9223372036854775807) (r : List Nat) : rint (enc (zig n) ++ r) 0 = (n, r, 0) := by
  unfold rint
  rw [if_pos rfl, dec_enc10 _ (zig_lt h1)]
  simp [zag_zig]

theorem int_back (p : Nat) (a : Option Addr) (len cap : Nat) (n : Int) (r : List Nat) (w : World) (h1 : -9223372036854775808 ≤ n ∧ n ≤ 9223372036854775807) (h : RD w p a len cap (enc (zig n) ++ r) 0) :
    Calls Try.prog 8 #[.pointer (some ⟨p, 0, none⟩)] w fun en w' => en = .returned (.int .i64 n) ∧ After p a w w' r 0 := by
  have hc := int_any p a len cap (enc (zig n) ++ r) 0 w h
  rw [rint_back n h1 r] at hc
  exact hc
end Go.Proofs.Ytooffbgcaichmac.codw
