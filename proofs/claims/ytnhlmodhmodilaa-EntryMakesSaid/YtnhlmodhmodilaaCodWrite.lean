/- What codec's Writer holds, as plain mathematics over the bytes that were put. -/
import Derived.Test.YtnhlmodhmodilaaCodRead
namespace Go.Proofs.Ytnhlmodhmodilaa.codw
open Go.RowKit mem codm
set_option linter.unusedVariables false

/-- a writer: all its bytes, and its error -/
structure WR (w : World) (p : Nat) (v : Value) (l : List Nat) (e : Nat) : Prop where
  c0 : w.cell? ⟨p, 0, none⟩ = some v
  c1 : w.cell? ⟨p, 1, none⟩ = some (.int .i64 (e : Int))
  f0 : w.frozen? ⟨p, 0, none⟩ = false
  f1 : w.frozen? ⟨p, 1, none⟩ = false
  own : OwnB w v l
  off : v.ownBlock ≠ some p

theorem WR.lt {w : World} {p : Nat} {v : Value} {l : List Nat} {e : Nat} (h : WR w p v l e) : p < w.heap.size := World.block_lt_of_cell? w _ h.c0

theorem WR.only {S : Nat → Prop} {w w' : World} {p : Nat} {v : Value} {l : List Nat} {e : Nat} (h : WR w p v l e) (ho : Only S w w') (hp : ¬ S p) (hv : ∀ k, v.ownBlock = some k → ¬ S k) : WR w' p v l e :=
  ⟨ho.cell' h.c0 hp, ho.cell' h.c1 hp, (ho.frozen (p := ⟨p, 0, none⟩) h.lt hp).trans h.f0, (ho.frozen (p := ⟨p, 1, none⟩) h.lt hp).trans h.f1, h.own.only ho hv, h.off⟩

/-- behind calls of a writer -/
def WAfter (p : Nat) (v : Value) (w w' : World) (l : List Nat) (e : Nat) : Prop :=
  ∃ v', WR w' p v' l e ∧ Only (fun k => k = p ∨ v.ownBlock = some k) w w' ∧ (∀ k, v'.ownBlock = some k → v.ownBlock = some k ∨ w.heap.size ≤ k)

theorem WAfter.refl {w : World} {p : Nat} {v : Value} {l : List Nat} {e : Nat} (h : WR w p v l e) : WAfter p v w w l e := ⟨v, h, Only.refl _ _, fun k hk => .inl hk⟩

theorem WAfter.trans {p : Nat} {v v1 : Value} {w w1 w2 : World} {l : List Nat} {e : Nat} (ho : Only (fun k => k = p ∨ v.ownBlock = some k) w w1)
    (hk : ∀ k, v1.ownBlock = some k → v.ownBlock = some k ∨ w.heap.size ≤ k) (h : WAfter p v1 w1 w2 l e) : WAfter p v w w2 l e := by
  obtain ⟨v2, h2, ho2, hk2⟩ := h
  refine ⟨v2, h2, ho.then ho2 ?_, ?_⟩
  · rintro i hi (rfl | hs)
    · exact .inl rfl
    · rcases hk i hs with h1 | h1
      · exact .inr h1
      · omega
  · intro k h1
    rcases hk2 k h1 with h3 | h3
    · exact hk k h3
    · have := ho.size; exact .inr (by omega)

theorem WR.append {w w2 : World} {p : Nat} {v v' : Value} {l r : List Nat} {e : Nat} (h : WR w p v l e) (ho : Only (fun k => v.ownBlock = some k) w w2) (hv : OwnB w2 v' (l ++ r))
    (hk : ∀ k, v'.ownBlock = some k → v.ownBlock = some k ∨ w.heap.size ≤ k) : WAfter p v w (w2.setCell ⟨p, 0, none⟩ v') (l ++ r) e := by
  have hlt := h.lt
  have hoff : v'.ownBlock ≠ some p := by
    intro hp
    rcases hk p hp with h1 | h1
    · exact h.off h1
    · omega
  have c0 := ho.cell' h.c0 h.off
  have c1 := ho.cell' h.c1 h.off
  have f0 := (ho.frozen (p := ⟨p, 0, none⟩) hlt h.off).trans h.f0
  have f1 := (ho.frozen (p := ⟨p, 1, none⟩) hlt h.off).trans h.f1
  refine ⟨v', ⟨cell_same c0, by rw [cell_other (by simp)]; exact c1, by rw [frozen_set]; exact f0, by rw [frozen_set]; exact f1, ?_, hoff⟩, ?_, hk⟩
  · refine hv.only (Only.set (fun k => k = p) w2 p 0 v' rfl) (fun k hk' e' => ?_)
    subst e'; exact hoff hk'
  · exact (ho.mono (fun k _ hs => .inr hs)).setCell (p := ⟨p, 0, none⟩) (.inl (.inl rfl)) v'

theorem or128 {m : Nat} : bits .or .u8 ((m : Int) % 256) 128 = ((m % 128 + 128 : Nat) : Int) := by
  have h := u8_or128_right ((m : Int) % 128) (by omega) (by omega)
  have h2 := u8_or_nat (m % 256) 128 (by omega) (by omega)
  have e : m % 256 ||| 128 = m % 128 + 128 := by
    have h3 : m % 256 < 256 := Nat.mod_lt _ (by omega)
    have h4 : (m % 256) % 128 = m % 128 := by omega
    rw [← h4]
    generalize m % 256 = x at h3
    have hx : x = 128 * (x / 128) + x % 128 := by omega
    rcases (by omega : x / 128 = 0 ∨ x / 128 = 1) with hd | hd
    · have h5 := Nat.shiftLeft_add_eq_or_of_lt (b := x) (i := 7) (by omega) 1
      rw [Nat.or_comm]
      have : (1 <<< 7 : Nat) = 128 := rfl
      rw [this] at h5
      rw [← h5]; omega
    · have h5 := Nat.shiftLeft_add_eq_or_of_lt (b := x % 128) (i := 7) (by omega) 1
      have : (1 <<< 7 : Nat) = 128 := rfl
      rw [this] at h5
      have h6 : x = 128 ||| x % 128 := by rw [← h5]; omega
      conv => lhs; rw [h6]
      rw [Nat.or_comm (128 ||| x % 128) 128, ← Nat.or_assoc, Nat.or_self, ← h5]; omega
  rw [e] at h2
  rw [← h2]; rfl

theorem one_cell (w : World) (c : Nat) (t : TypeId) : ∀ j u, (bv [c])[j]? = some u → (w.alloc (.cells #[.int .u8 ((c : Nat) : Int)] t)).cell? ((Addr.mk w.heap.size 0 none).add j) = some u := by
  intro j u hu
  match j, hu with
  | 0, hu => simp [bv] at hu; subst hu; rw [add_none]; simp
  | j + 1, hu => simp [bv] at hu

/-- what an append to a row of bytes gives, behind the literal's own block -/
theorem app_facts {w w2 : World} {v v2 : Value} {l r : List Nat} {o : Obj} (h : OwnB w v l) (hown : w2.ownsRow 0 5 1 v2 (l.length + r.length) (bv l ++ bv r)) (hgrow : (w.alloc o).grownBy w2 v.ownBlock)
    (hk : ∀ k, v2.ownBlock = some k → v.ownBlock = some k ∨ w.heap.size + 1 ≤ k) (hr : ∀ c ∈ r, c < 256) (hm : (l ++ r).length ≤ maxLen) :
    OwnB w2 v2 (l ++ r) ∧ Only (fun k => v.ownBlock = some k) w w2 ∧ (∀ k, v2.ownBlock = some k → v.ownBlock = some k ∨ w.heap.size ≤ k) := by
  refine ⟨⟨by rw [List.length_append, bv_append]; exact hown, ?_, hm⟩, ?_, ?_⟩
  · intro c hc
    rcases List.mem_append.1 hc with h1 | h1
    · exact h.2.1 c h1
    · exact hr c h1
  · exact ((Only.refl (fun k => v.ownBlock = some k) w).alloc o).then (Only.of_grown hgrow) (fun i _ hi => hi)
  · intro k h1
    rcases hk k h1 with h2 | h2
    · exact .inl h2
    · exact .inr (by omega)

set_option maxRecDepth 100000 in
set_option maxHeartbeats 1000000 in
theorem put_any (p : Nat) (v : Value) (l : List Nat) (e n : Nat) (w : World) (hn : n < 18446744073709551616) (h : WR w p v l e) (hlen : l.length ≤ 70368744177664) :
    Calls Try.prog 34 #[.pointer (some ⟨p, 0, none⟩), .int .u64 (n : Int)] w fun en w' => en = .returned (.tuple #[]) ∧ WAfter p v w w' (l ++ enc n) e := by
  obtain ⟨i0, hi, hz0, hz1, hz2⟩ := info_parts info_u8
  have HH := Lib.hid h
  clear h
  go_enter Try.func34, Try.ntmps34
  go_wp2
  go_loopw [1] (fun x wr => ∃ f m pre v1, x = .int .u64 ((m : Nat) : Int) ∧ m < 128 ^ (f + 1) ∧ m < 18446744073709551616 ∧ Hid (l ++ enc n = pre ++ encF f m) ∧ Hid (WR wr p v1 pre e) ∧ Hid (Only (fun k => k = p ∨ v.ownBlock = some k) w wr)
      ∧ Hid (∀ k, v1.ownBlock = some k → v.ownBlock = some k ∨ w.heap.size ≤ k) ∧ pre.length + f ≤ 70368744177674) (fun x _ => (intOf x).toNat)
  case atStart => exact ⟨10, n, l, v, rfl, by omega, hn, Lib.hid rfl, HH, Lib.hid (Only.refl _ _), Lib.hid (fun k hk => .inl hk), by omega⟩
  case round =>
    obtain ⟨f, m, pre, v1, rfl, hmf, hm64, HE, HW, HO, HK, hpl⟩ := hrel
    have c0 := HW.out.c0
    have f0 := HW.out.f0
    have hol := HW.out.own.2.2
    unfold maxLen at hol
    by_cases h128 : m < 128
    · have hcv : (m : Int) % 256 = (m : Int) := by omega
      have HS := Lib.hid (encF_small f m h128)
      go_wp2_with (first | (at_builtin; refine append_mine rfl _ _ 37 rfl 5 i0 (.int .u8 0) 1 1 Try.underlying37 hi hz0 hz1 hz2 rfl (by decide) v1 pre.length (bv pre) rfl (HW.out.own.only ((Only.refl (fun _ => False) wr).alloc _) (fun _ _ f => f)).1 ⟨wr.heap.size, 0, none⟩ 1 1 (bv [m]) rfl rfl ?c1 ?c2 ?c3 ?c4 ?_))
      case c1 => exact one_cell _ _ _
      case c2 => exact bv_one _
      case c3 => unfold maxLen; omega
      case c4 => omega
      intro v2 w2 hown hgrow hk
      have HA := Lib.hid (app_facts HW.out.own (r := [m]) hown hgrow hk (by intro d hd; simp at hd; omega) (by unfold maxLen; simp; omega))
      have hform := HA.out.1.form (by simp)
      obtain ⟨g2, c2, hv2, _⟩ := hform
      rw [List.length_append, List.length_singleton] at hv2
      rw [hv2] at HA ⊢
      clear hv2 hown hgrow hk
      have c02 := HA.out.2.1.cell' HW.out.c0 HW.out.off
      have f02 := (HA.out.2.1.frozen (p := ⟨p, 0, none⟩) HW.out.lt HW.out.off).trans HW.out.f0
      have HWA := Lib.hid (HW.out.append HA.out.2.1 HA.out.1 HA.out.2.2)
      clear c0 f0 hcv
      go_wp2
      go_end0
      refine ⟨rfl, ?_⟩
      rw [HE.out, HS.out]
      exact WAfter.trans HO.out HK.out HWA.out
    · have hor := or128 (m := m)
      obtain ⟨f, rfl⟩ : ∃ f', f = f' + 1 := ⟨f - 1, by
        rcases Nat.eq_zero_or_pos f with h0 | h0
        · subst h0; simp at hmf; omega
        · omega⟩
      have HS := Lib.hid (encF_step f m h128)
      have hdiv : m / 128 < 128 ^ (f + 1) := by rw [Nat.div_lt_iff_lt_mul (by omega)]; rw [Nat.pow_succ] at hmf; exact hmf
      have HDIV := Lib.hid hdiv
      clear hmf hdiv
      go_wp2_with (first | (at_builtin; refine append_mine rfl _ _ 37 rfl 5 i0 (.int .u8 0) 1 1 Try.underlying37 hi hz0 hz1 hz2 rfl (by decide) v1 pre.length (bv pre) rfl (HW.out.own.only ((Only.refl (fun _ => False) wr).alloc _) (fun _ _ f => f)).1 ⟨wr.heap.size, 0, none⟩ 1 1 (bv [m % 128 + 128]) rfl rfl ?d1 ?d2 ?d3 ?d4 ?_))
      case d1 => exact one_cell _ _ _
      case d2 => exact bv_one _
      case d3 => unfold maxLen; omega
      case d4 => omega
      intro v2 w2 hown hgrow hk
      have HA := Lib.hid (app_facts HW.out.own (r := [m % 128 + 128]) hown hgrow hk (by intro d hd; simp at hd; omega) (by unfold maxLen; simp; omega))
      have hform := HA.out.1.form (by simp)
      obtain ⟨g2, c2, hv2, _⟩ := hform
      rw [List.length_append, List.length_singleton] at hv2
      rw [hv2] at HA ⊢
      clear hv2 hown hgrow hk
      have c02 := HA.out.2.1.cell' HW.out.c0 HW.out.off
      have f02 := (HA.out.2.1.frozen (p := ⟨p, 0, none⟩) HW.out.lt HW.out.off).trans HW.out.f0
      have HWA := Lib.hid (HW.out.append HA.out.2.1 HA.out.1 HA.out.2.2)
      clear c0 f0 hor
      go_wp2
      obtain ⟨v3, HW3, HO3, HK3⟩ := WAfter.trans HO.out HK.out HWA.out
      go_roundw
      case rel => exact ⟨f, m / 128, pre ++ [m % 128 + 128], v3, by go_num, HDIV.out, by omega, Lib.hid (by rw [HE.out, HS.out]; simp), Lib.hid HW3, Lib.hid HO3, Lib.hid HK3, by simp; omega⟩
      case measure => simp [intOf]; omega
end Go.Proofs.Ytnhlmodhmodilaa.codw
