/- The Writer's Flag and Text; the parts of the statements. -/
import Derived.Test.YtpjbgcbjelcnbaaRefCod
namespace Go.Proofs.Ytpjbgcbjelcnbaa.codw
open Go.RowKit mem codm
set_option linter.unusedVariables false

set_option maxRecDepth 100000 in
theorem wflag_any (p : Nat) (v : Value) (l : List Nat) (e : Nat) (b : Bool) (wr : World) (h : WR wr p v l e) (hlen : l.length ≤ 70368744177664) :
    Calls Try.prog 74 #[.pointer (some ⟨p, 0, none⟩), .bool b] wr fun en w' => en = .returned (.tuple #[]) ∧ WAfter p v wr w' (l ++ [if b then 1 else 0]) e := by
  obtain ⟨i0, hi, hz0, hz1, hz2⟩ := info_parts info_u8
  have c0 := h.c0
  have f0 := h.f0
  have HW := Lib.hid h
  clear h
  cases b
  · go_enter Try.func74, Try.ntmps74
    go_wp2_with (first | (at_builtin; refine append_mine rfl _ _ 31 rfl 5 i0 (.int .u8 0) 1 1 Try.underlying31 hi hz0 hz1 hz2 rfl (by decide) v l.length (bv l) rfl (HW.out.own.only ((Only.refl (fun _ => False) wr).alloc _) (fun _ _ f => f)).1 ⟨wr.heap.size, 0, none⟩ 1 1 (bv [0]) rfl rfl ?c1 ?c2 ?c3 ?c4 ?_))
    case c1 => exact one_cell _ _ _
    case c2 => exact bv_one _
    case c3 => unfold maxLen; omega
    case c4 => omega
    intro v2 w2 hown hgrow hk
    have HA := Lib.hid (app_facts HW.out.own (r := [0]) hown hgrow hk (by intro d hd; simp at hd; omega) (by unfold maxLen; simp; omega))
    have hform := HA.out.1.form (by simp)
    obtain ⟨g2, c2, hv2, _⟩ := hform
    rw [List.length_append, List.length_singleton] at hv2
    rw [hv2] at HA ⊢
    clear hv2 hown hgrow hk
    have c02 := HA.out.2.1.cell' HW.out.c0 HW.out.off
    have f02 := (HA.out.2.1.frozen (p := ⟨p, 0, none⟩) HW.out.lt HW.out.off).trans HW.out.f0
    have HWA := Lib.hid (HW.out.append HA.out.2.1 HA.out.1 HA.out.2.2)
    clear c0 f0
    go_wp2
    go_end0
    exact ⟨rfl, HWA.out⟩
  · go_enter Try.func74, Try.ntmps74
    go_wp2_with (first | (at_builtin; refine append_mine rfl _ _ 31 rfl 5 i0 (.int .u8 0) 1 1 Try.underlying31 hi hz0 hz1 hz2 rfl (by decide) v l.length (bv l) rfl (HW.out.own.only ((Only.refl (fun _ => False) wr).alloc _) (fun _ _ f => f)).1 ⟨wr.heap.size, 0, none⟩ 1 1 (bv [1]) rfl rfl ?c1 ?c2 ?c3 ?c4 ?_))
    case c1 => exact one_cell _ _ _
    case c2 => exact bv_one _
    case c3 => unfold maxLen; omega
    case c4 => omega
    intro v2 w2 hown hgrow hk
    have HA := Lib.hid (app_facts HW.out.own (r := [1]) hown hgrow hk (by intro d hd; simp at hd; omega) (by unfold maxLen; simp; omega))
    have hform := HA.out.1.form (by simp)
    obtain ⟨g2, c2, hv2, _⟩ := hform
    rw [List.length_append, List.length_singleton] at hv2
    rw [hv2] at HA ⊢
    clear hv2 hown hgrow hk
    have c02 := HA.out.2.1.cell' HW.out.c0 HW.out.off
    have f02 := (HA.out.2.1.frozen (p := ⟨p, 0, none⟩) HW.out.lt HW.out.off).trans HW.out.f0
    have HWA := Lib.hid (HW.out.append HA.out.2.1 HA.out.1 HA.out.2.2)
    clear c0 f0
    go_wp2
    exact bodyPost_ret (v := .tuple #[]) (by simp [results, Try.results74, go_sem]) rfl ⟨rfl, HWA.out⟩

/-- an append of bytes that lie elsewhere -/
theorem app_facts0 {w w2 : World} {v v2 : Value} {l r : List Nat} (h : OwnB w v l) (hown : w2.ownsRow 0 5 1 v2 (l.length + r.length) (bv l ++ bv r)) (hgrow : w.grownBy w2 v.ownBlock)
    (hk : ∀ k, v2.ownBlock = some k → v.ownBlock = some k ∨ w.heap.size ≤ k) (hr : ∀ c ∈ r, c < 256) (hm : (l ++ r).length ≤ maxLen) :
    OwnB w2 v2 (l ++ r) ∧ Only (fun k => v.ownBlock = some k) w w2 ∧ (∀ k, v2.ownBlock = some k → v.ownBlock = some k ∨ w.heap.size ≤ k) := by
  refine ⟨⟨by rw [List.length_append, bv_append]; exact hown, ?_, hm⟩, Only.of_grown hgrow, hk⟩
  intro c hc
  rcases List.mem_append.1 hc with h1 | h1
  · exact h.2.1 c h1
  · exact hr c h1

set_option maxRecDepth 100000 in
set_option maxHeartbeats 1000000 in
theorem wtext_any (p : Nat) (v : Value) (l : List Nat) (e : Nat) (a : Option Addr) (len cap : Nat) (lb : List Nat) (w : World) (h : WR w p v l e) (hB : Bytes w a len cap lb) (hlen : l.length ≤ 35184372088832) (hlb : len ≤ 35184372088832)
    (hsep : ∀ x, a = some x → x.block ≠ p ∧ v.ownBlock ≠ some x.block ∧ x.block < w.heap.size) :
    Calls Try.prog 76 #[.pointer (some ⟨p, 0, none⟩), .slice a len cap] w fun en w' => en = .returned (.tuple #[]) ∧ WAfter p v w w' (l ++ (enc len ++ lb)) e := by
  obtain ⟨i0, hi, hz0, hz1, hz2⟩ := info_parts info_u8
  have HW := Lib.hid h
  have HB := Lib.hid hB
  have HSEP := Lib.hid hsep
  clear h hB hsep
  go_enter Try.func76, Try.ntmps76
  go_wp2_with fail
  refine (put_int p v l e (len : Int) w (by omega) (by omega) HW.out (by omega)).mono ?_
  rintro e1 w1 ⟨rfl, v1, hW1, hO1, hK1⟩
  rw [Int.toNat_natCast] at hW1
  have hB1 : Bytes w1 a len cap lb := HB.out.only hO1 (fun x hx hs => by
    obtain ⟨h1, h2, _⟩ := HSEP.out x hx
    rcases hs with hs | hs
    · exact h1 hs
    · exact h2 hs)
  have hne : l ++ enc len ≠ [] := fun hh => by
    have h1 := (enc_length len).2
    have h2 : (l ++ enc len).length = 0 := by rw [hh]; rfl
    rw [List.length_append] at h2; omega
  obtain ⟨g1, c1, hv1, _⟩ := hW1.own.form hne
  have hel := (enc_length len).1
  have hl1 : (l ++ enc len).length ≤ 35184372088843 := by rw [List.length_append]; omega
  have c0 := hW1.c0
  have f0 := hW1.f0
  have HN : Hid ((l ++ enc len).length = (l ++ enc len).length) := Lib.hid rfl
  obtain ⟨n1, hn1⟩ : ∃ n1, (l ++ enc len).length = n1 := ⟨_, rfl⟩
  rw [hn1] at hv1 hl1
  have HN1 := Lib.hid hn1
  rw [hv1] at hW1 c0 hK1
  have H1 := Lib.hid hW1
  have O1 := Lib.hid hO1
  have K1 := Lib.hid hK1
  have B1 := Lib.hid hB1
  clear hW1 hO1 hK1 hB1 hv1 hel hne hn1 HN
  rcases a with _ | x
  · have hc0 := HB.out.2.2.2 rfl
    have hl0 : len = 0 := by have := HB.out.2.1; omega
    subst hc0
    subst hl0
    have hlb0 : lb = [] := List.eq_nil_of_length_eq_zero HB.out.1.1
    subst hlb0
    go_wp2_with (first | (at_builtin; refine wpList_append_own_none rfl _ _ 31 rfl 0 5 i0 1 Try.underlying31 hi _ n1 (bv (l ++ enc 0)) rfl ?k1 rfl ?_))
    case k1 => have := H1.out.own.1; rw [HN1.out] at this; exact this
    have HS := Lib.hid (H1.out.append (r := []) (Only.refl _ _) (by rw [List.append_nil]; exact H1.out.own) (fun k hk => .inl hk))
    go_wp2
    go_end0
    refine ⟨rfl, ?_⟩
    have hh := WAfter.trans O1.out K1.out HS.out
    simpa using hh
  · have HLB := Lib.hid HB.out.1.1
    go_wp2_with (first | (at_builtin; refine append_mine rfl _ _ 31 rfl 5 i0 (.int .u8 0) 1 1 Try.underlying31 hi hz0 hz1 hz2 rfl (by decide) _ n1 (bv (l ++ enc len)) rfl ?k1 x len cap (bv lb) rfl ?k2 ?k3 ?k4 ?k5 ?k6 ?_))
    case k1 => have := H1.out.own.1; rw [HN1.out] at this; exact this
    case k2 => rw [bv_length, HLB.out, Nat.mul_one]
    case k3 => exact news_of_reads B1.out.1
    case k4 => exact bv_one _
    case k5 => unfold maxLen; omega
    case k6 => omega
    intro v2 w2 hown hgrow hk
    have HA := Lib.hid (app_facts0 H1.out.own (r := lb) (by rw [HN1.out, HLB.out]; exact hown) hgrow hk HB.out.1.2.2.1 (by unfold maxLen; rw [List.length_append, HN1.out, HLB.out]; omega))
    have hne2 : (l ++ enc len) ++ lb ≠ [] := fun hh => by
      have h1 := (enc_length len).2
      have h2 : ((l ++ enc len) ++ lb).length = 0 := by rw [hh]; rfl
      rw [List.length_append, List.length_append] at h2; omega
    obtain ⟨g2, c2, hv2, _⟩ := HA.out.1.form hne2
    rw [List.length_append, HN1.out, HLB.out] at hv2
    rw [hv2] at HA ⊢
    clear hv2 hown hgrow hk hne2
    have c02 := HA.out.2.1.cell' H1.out.c0 H1.out.off
    have f02 := (HA.out.2.1.frozen (p := ⟨p, 0, none⟩) H1.out.lt H1.out.off).trans H1.out.f0
    have HWA := Lib.hid (H1.out.append HA.out.2.1 HA.out.1 HA.out.2.2)
    clear c0 f0
    go_wp2
    go_end0
    refine ⟨rfl, ?_⟩
    have hh := WAfter.trans O1.out K1.out HWA.out
    rw [List.append_assoc] at hh
    exact hh
end Go.Proofs.Ytpjbgcbjelcnbaa.codw
