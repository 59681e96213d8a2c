/- Several texts together: RefCod, CodPart, CodParts, CodText, CodG, WrG, WrB. -/
import Derived.Test.YthflglejhhebeaaZ2
import Derived.Test.YthflglejhhebeaaZ1
namespace Go.Proofs.Ythflglejhhebeaa.codw
open Go.RowKit mem codm
set_option linter.unusedVariables false

theorem strN_append (l r : List Nat) : strN l ++ strN r = strN (l ++ r) := by
  have h : (strN l ++ strN r).data = (strN (l ++ r)).data := by simp [strN]
  exact congrArg ByteArray.mk h

theorem strN_size (l : List Nat) : (strN l).size = l.length := by simp [strN, ByteArray.size]

theorem one_any (n : Int) (w : World) (h0 : 0 ≤ n) (h1 : n < 256) :
    Calls Try.prog 76 #[.int .i64 n] w fun en w' => en = .returned (.string (strN [n.toNat])) ∧ Only (fun _ => False) w w' := by
  obtain ⟨c, rfl⟩ := Int.eq_ofNat_of_zero_le h0
  have hr : Reads (w.alloc (.cells #[.int .u8 (c : Int)] 5)) (some ⟨w.heap.size, 0, none⟩) 1 [c] :=
    ⟨rfl, by unfold maxLen; omega, by intro d hd; simp at hd; omega, .inr ⟨_, _, rfl, fun i hi => by
      obtain rfl : i = 0 := by omega
      simp⟩⟩
  have hcv := conv_reads hr 1
  rw [Int.toNat_natCast]
  go_enter Try.func76, Try.ntmps76
  go_wp2
  go_ret
  exact ⟨rfl, (Only.refl _ w).alloc _⟩

set_option maxRecDepth 100000 in
set_option maxHeartbeats 1000000 in
theorem rgroups_any (n : Nat) (w : World) (hn : n < 18446744073709551616) :
    Calls Try.prog 66 #[.int .u64 (n : Int)] w fun en w' => en = .returned (.string (strN (enc n))) ∧ Only (fun _ => False) w w' := by
  go_enter Try.func66, Try.ntmps66
  go_wp2
  go_loopw [0, 3] (fun x s wr => ∃ f m pre, x = .int .u64 ((m : Nat) : Int) ∧ s = .string (strN pre) ∧ m < 128 ^ (f + 1) ∧ m < 18446744073709551616 ∧ Hid (enc n = pre ++ encF f m) ∧ Hid (Only (fun _ => False) w wr) ∧ pre.length + f ≤ 10) (fun x _ _ => (intOf x).toNat)
  case atStart => exact ⟨10, n, [], rfl, rfl, by omega, hn, Lib.hid rfl, Lib.hid (Only.refl _ _), by simp⟩
  case round =>
    obtain ⟨f, m, pre, rfl, rfl, hmf, hm64, HE, HO, hpl⟩ := hrel
    have HSZ : Hid ((strN pre).size = pre.length) := Lib.hid (strN_size pre)
    obtain ⟨S, HS⟩ : ∃ S, Hid (strN pre = S) := ⟨_, Lib.hid rfl⟩
    by_cases h128 : m < 128
    · have HF := Lib.hid (encF_small f m h128)
      rw [HS.out]
      go_wp2_with fail
      refine (one_any _ _ (by omega) (by omega)).mono ?_
      rintro e1 w1 ⟨rfl, hO1⟩
      have HO1 := Lib.hid (HO.out.trans hO1)
      clear hO1
      rw [Int.toNat_natCast]
      obtain ⟨T, HT⟩ : ∃ T, Hid (strN [m] = T) := ⟨_, Lib.hid rfl⟩
      have hsz1 : S.size = pre.length := by rw [← HS.out, HSZ.out]
      have hsz2 : T.size = 1 := by rw [← HT.out, strN_size]; rfl
      have hres : Hid (S ++ T = strN (enc n)) := Lib.hid (by rw [← HS.out, ← HT.out, strN_append, HE.out, HF.out])
      rw [HT.out]
      go_wp2
      go_ret
      rw [hres.out]
      exact ⟨rfl, HO1.out⟩
    · obtain ⟨f, rfl⟩ : ∃ f', f = f' + 1 := ⟨f - 1, by
        rcases Nat.eq_zero_or_pos f with h0 | h0
        · subst h0; simp at hmf; omega
        · omega⟩
      have HF := Lib.hid (encF_step f m h128)
      have HDIV : Hid (m / 128 < 128 ^ (f + 1)) := Lib.hid (by rw [Nat.div_lt_iff_lt_mul (by omega)]; rw [Nat.pow_succ] at hmf; exact hmf)
      clear hmf
      rw [HS.out]
      go_wp2_with fail
      refine (one_any _ _ (by omega) (by omega)).mono ?_
      rintro e1 w1 ⟨rfl, hO1⟩
      have HO1 := Lib.hid (HO.out.trans hO1)
      clear hO1
      rw [show ((m : Int) % 128 + 128).toNat = m % 128 + 128 by omega]
      obtain ⟨T, HT⟩ : ∃ T, Hid (strN [m % 128 + 128] = T) := ⟨_, Lib.hid rfl⟩
      have hsz1 : S.size = pre.length := by rw [← HS.out, HSZ.out]
      have hsz2 : T.size = 1 := by rw [← HT.out, strN_size]; rfl
      have HRES : Hid (S ++ T = strN (pre ++ [m % 128 + 128])) := Lib.hid (by rw [← HS.out, ← HT.out, strN_append])
      rw [HT.out]
      go_wp2_with fail
      clear hsz1 hsz2
      go_roundw
      case rel => exact ⟨f, m / 128, pre ++ [m % 128 + 128], by go_num, by rw [HRES.out], HDIV.out, by omega, Lib.hid (by rw [HE.out, HF.out]; simp), HO1, by simp; omega⟩
      case measure => simp [intOf]; omega

theorem rgroups_int (x : Int) (w : World) (h0 : 0 ≤ x) (hn : x < 18446744073709551616) :
    Calls Try.prog 66 #[.int .u64 x] w fun en w' => en = .returned (.string (strN (enc x.toNat))) ∧ Only (fun _ => False) w w' := by
  obtain ⟨n, rfl⟩ := Int.eq_ofNat_of_zero_le h0
  exact rgroups_any n w (by omega)

/-- what the document writes for a count -/
def rucount (n : Int) : List Nat := if n < 0 then [] else enc n.toNat

theorem ruint_any (n : Int) (w : World) (hn : -9223372036854775808 ≤ n ∧ n ≤ 9223372036854775807) :
    Calls Try.prog 46 #[.int .i64 n] w fun en w' => en = .returned (.string (strN (rucount n))) ∧ Only (fun _ => False) w w' := by
  by_cases h0 : n < 0
  · have hR : Hid (strN (rucount n) = ⟨#[]⟩) := Lib.hid (by unfold rucount; rw [if_pos h0]; rfl)
    go_enter Try.func46, Try.ntmps46
    go_wp2
    go_ret
    rw [hR.out]
    exact ⟨rfl, Only.refl _ _⟩
  · have hR : Hid (rucount n = enc n.toNat) := Lib.hid (by unfold rucount; rw [if_neg h0])
    go_enter Try.func46, Try.ntmps46
    go_wp2_with fail
    refine (rgroups_int _ _ (by omega) (by omega)).mono ?_
    rintro e1 w1 ⟨rfl, hO1⟩
    rw [← hR.out]
    have HO1 := Lib.hid hO1
    clear hO1
    go_wp2
    go_ret
    exact ⟨rfl, HO1.out⟩

theorem rflag_any (b : Bool) (w : World) :
    Calls Try.prog 47 #[.bool b] w fun en w' => en = .returned (.string (strN [if b then 1 else 0])) ∧ w = w' := by
  cases b
  all_goals
    go_enter Try.func47, Try.ntmps47
    go_wp2
    go_ret
    exact ⟨rfl, rfl⟩

end Go.Proofs.Ythflglejhhebeaa.codw

namespace Go.Proofs.Ythflglejhhebeaa.codw
open Go.RowKit mem codm
set_option linter.unusedVariables false

set_option maxRecDepth 100000 in
theorem wflag_any (p : Nat) (v : Value) (l : List Nat) (e : Nat) (b : Bool) (wr : World) (h : WR wr p v l e) (hlen : l.length ≤ 70368744177664) :
    Calls Try.prog 57 #[.pointer (some ⟨p, 0, none⟩), .bool b] wr fun en w' => en = .returned (.tuple #[]) ∧ WAfter p v wr w' (l ++ [if b then 1 else 0]) e := by
  obtain ⟨i0, hi, hz0, hz1, hz2⟩ := info_parts info_u8
  have c0 := h.c0
  have f0 := h.f0
  have HW := Lib.hid h
  clear h
  cases b
  · go_enter Try.func57, Try.ntmps57
    go_wp2_with (first | (at_builtin; refine append_mine rfl _ _ 31 rfl 5 i0 (.int .u8 0) 1 1 Try.underlying31 hi hz0 hz1 hz2 rfl (by decide) v l.length (bv l) rfl (HW.out.own.only ((Only.refl (fun _ => False) wr).alloc _) (fun _ _ f => f)).1 ⟨wr.heap.size, 0, none⟩ 1 1 (bv [0]) rfl rfl ?c1 ?c2 ?c3 ?c4 ?_))
    case c1 => exact one_cell _ _ _
    case c2 => exact bv_one _
    case c3 => unfold maxLen; omega
    case c4 => omega
    intro v2 w2 hown hgrow hk
    have HA := Lib.hid (app_facts HW.out.own (r := [0]) hown hgrow hk (by intro d hd; simp at hd; omega) (by unfold maxLen; simp; omega))
    have hform := HA.out.1.form (by simp)
    obtain ⟨g2, c2, hv2, _⟩ := hform
    rw [List.length_append, List.length_singleton] at hv2
    rw [hv2] at HA ⊢
    clear hv2 hown hgrow hk
    have c02 := HA.out.2.1.cell' HW.out.c0 HW.out.off
    have f02 := (HA.out.2.1.frozen (p := ⟨p, 0, none⟩) HW.out.lt HW.out.off).trans HW.out.f0
    have HWA := Lib.hid (HW.out.append HA.out.2.1 HA.out.1 HA.out.2.2)
    clear c0 f0
    go_wp2
    go_end0
    exact ⟨rfl, HWA.out⟩
  · go_enter Try.func57, Try.ntmps57
    go_wp2_with (first | (at_builtin; refine append_mine rfl _ _ 31 rfl 5 i0 (.int .u8 0) 1 1 Try.underlying31 hi hz0 hz1 hz2 rfl (by decide) v l.length (bv l) rfl (HW.out.own.only ((Only.refl (fun _ => False) wr).alloc _) (fun _ _ f => f)).1 ⟨wr.heap.size, 0, none⟩ 1 1 (bv [1]) rfl rfl ?c1 ?c2 ?c3 ?c4 ?_))
    case c1 => exact one_cell _ _ _
    case c2 => exact bv_one _
    case c3 => unfold maxLen; omega
    case c4 => omega
    intro v2 w2 hown hgrow hk
    have HA := Lib.hid (app_facts HW.out.own (r := [1]) hown hgrow hk (by intro d hd; simp at hd; omega) (by unfold maxLen; simp; omega))
    have hform := HA.out.1.form (by simp)
    obtain ⟨g2, c2, hv2, _⟩ := hform
    rw [List.length_append, List.length_singleton] at hv2
    rw [hv2] at HA ⊢
    clear hv2 hown hgrow hk
    have c02 := HA.out.2.1.cell' HW.out.c0 HW.out.off
    have f02 := (HA.out.2.1.frozen (p := ⟨p, 0, none⟩) HW.out.lt HW.out.off).trans HW.out.f0
    have HWA := Lib.hid (HW.out.append HA.out.2.1 HA.out.1 HA.out.2.2)
    clear c0 f0
    go_wp2
    exact bodyPost_ret (v := .tuple #[]) (by simp [results, Try.results57, go_sem]) rfl ⟨rfl, HWA.out⟩

/-- an append of bytes that lie elsewhere -/
theorem app_facts0 {w w2 : World} {v v2 : Value} {l r : List Nat} (h : OwnB w v l) (hown : w2.ownsRow 0 5 1 v2 (l.length + r.length) (bv l ++ bv r)) (hgrow : w.grownBy w2 v.ownBlock)
    (hk : ∀ k, v2.ownBlock = some k → v.ownBlock = some k ∨ w.heap.size ≤ k) (hr : ∀ c ∈ r, c < 256) (hm : (l ++ r).length ≤ maxLen) :
    OwnB w2 v2 (l ++ r) ∧ Only (fun k => v.ownBlock = some k) w w2 ∧ (∀ k, v2.ownBlock = some k → v.ownBlock = some k ∨ w.heap.size ≤ k) := by
  refine ⟨⟨by rw [List.length_append, bv_append]; exact hown, ?_, hm⟩, Only.of_grown hgrow, hk⟩
  intro c hc
  rcases List.mem_append.1 hc with h1 | h1
  · exact h.2.1 c h1
  · exact hr c h1

end Go.Proofs.Ythflglejhhebeaa.codw

namespace Go.Proofs.Ythflglejhhebeaa.codw
open Go.RowKit mem codm
set_option linter.unusedVariables false

/-- a part as a value -/
def partV (k n : Int) (y : Bool) (a : Option Addr) (len cap : Nat) : Value := .agg #[.int .i64 k, .int .i64 n, .bool y, .slice a len cap]

theorem kind_arith (k : Int) : wrap64 ((IntKind.u64.wrap k).tmod 4) = k % 4 := by
  have h0 := wrap_u64_nonneg k
  rw [Int.tmod_eq_emod_of_nonneg h0, IntKind.wrap_u64, IntWalk.wrap64_in _ (by omega)]
  omega

theorem own_lit (w : World) (g : Nat) (t : TypeId) (hg : g = w.heap.size) : (w.alloc (.cells #[] t)).ownsRow 0 t 1 (.slice (some ⟨g, 0, none⟩) 0 0) 0 [] := by
  subst hg; exact World.ownsRow_lit w #[] 0 (Nat.zero_le _) (by decide) rfl

/-- an append to an empty row of the call's own -/
theorem app_empty {w w2 : World} {g : Nat} {v2 : Value} {r : List Nat} (hown : w2.ownsRow 0 5 1 v2 r.length (bv r)) (hgrow : w.grownBy w2 (some g))
    (hk : ∀ k, v2.ownBlock = some k → some g = some k ∨ w.heap.size ≤ k) (hr : ∀ c ∈ r, c < 256) (hm : r.length ≤ maxLen) :
    OwnB w2 v2 r ∧ Only (fun k => g = k) w w2 ∧ (∀ k, v2.ownBlock = some k → g = k ∨ w.heap.size ≤ k) := by
  refine ⟨⟨hown, hr, hm⟩, (Only.of_grown hgrow).mono (fun k _ h => by simpa using h), fun k h => by simpa using hk k h⟩

end Go.Proofs.Ythflglejhhebeaa.codw

namespace Go.Proofs.Ythflglejhhebeaa.codw
open Go.RowKit mem codm
set_option linter.unusedVariables false

theorem only_set {w w1 : World} (h : Only (fun _ => False) w w1) (p o : Nat) (v : Value) : Only (fun k => k = p) w (w1.setCell ⟨p, o, none⟩ v) :=
  Only.setCell (S := fun k => k = p) (h.mono (fun _ _ f => f.elim)) (p := ⟨p, o, none⟩) (.inl rfl) v

set_option maxRecDepth 100000 in
set_option maxHeartbeats 1000000 in
/-- a flag that is there -/
theorem flag_back (p : Nat) (a : Option Addr) (len cap : Nat) (c : Nat) (r : List Nat) (w : World) (h : RD w p a len cap (c :: r) 0) (hc1 : c ≤ 1) :
    Calls Try.prog 65 #[.pointer (some ⟨p, 0, none⟩)] w fun en w' => en = .returned (.bool ((c : Int) == 1)) ∧ After p a w w' r 0 := by
  have hlen := h.reads.1
  rw [List.length_cons] at hlen
  obtain ⟨b, off, rfl, hcell⟩ := h.reads.2.2.2.resolve_left (by omega)
  have hcl := hcell 0 (by omega)
  rw [Nat.add_zero] at hcl
  simp only [List.getD_cons_zero] at hcl
  have c0 := h.c0
  have f0 := h.f0
  have hlc := h.lc
  have hcm := h.cm
  unfold maxLen at hcm
  have HOFF := Lib.hid h.off
  have HH := Lib.hid h
  have h1 : 0 < len := by omega
  have HLEN := Lib.hid hlen
  clear h hcell hlen
  by_cases hcap : cap = 1
  · subst hcap
    obtain rfl : len = 1 := by omega
    go_enter Try.func65, Try.ntmps65
    go_wp2_with fail
    refine (stopped_any p _ _ _ _ _ _ HH.out).mono ?_
    rintro e1 w1 ⟨rfl, rfl⟩
    go_wp2_with fail
    go_ret
    refine ⟨rfl, some ⟨b, off, none⟩, 0, 0, ?_, Only.set _ _ p 0 _ rfl, Later.refl _⟩
    have hnil : r = [] := List.eq_nil_of_length_eq_zero (by have := HLEN.out; omega)
    rw [hnil]
    exact HH.out.left (Reads.none_left (some ⟨b, off, none⟩)) (Nat.le_refl 0) (by unfold maxLen; omega) HOFF.out
  · have hcl2 : 1 < cap := by omega
    have hcn : (1 : Nat) ≤ len := h1
    go_enter Try.func65, Try.ntmps65
    go_wp2_with fail
    refine (stopped_any p _ _ _ _ _ _ HH.out).mono ?_
    rintro e1 w1 ⟨rfl, rfl⟩
    go_wp2_with fail
    go_ret
    refine ⟨rfl, some ⟨b, off + 1, none⟩, len - 1, cap - 1, ?_, Only.set _ _ p 0 _ rfl, ?_⟩
    · exact HH.out.left (by have := Reads.drop HH.out.reads 1 hcn; simpa using this) (by omega) (by unfold maxLen; omega) (fun x hx => by have := HOFF.out _ rfl; simp at hx; subst hx; exact this)
    · intro x hx; simp at hx; subst hx; exact ⟨_, rfl, rfl⟩

end Go.Proofs.Ythflglejhhebeaa.codw

namespace Go.Proofs.Ythflglejhhebeaa.codw
open Go.RowKit mem codm codp
set_option linter.unusedVariables false

def IsN (s : Option (List Nat)) (l : List Nat) (e : Nat) : Prop := match s with
  | some x => e = 0 ∧ l = x
  | none => e ≠ 0
/-- a reader in a state; its bytes lie in blocks of B -/
def RS (B : Nat → Prop) (w : World) (p : Nat) (s : Option (List Nat)) : Prop := ∃ a len cap l e, RD w p a len cap l e ∧ By l ∧ (∀ x, a = some x → B x.block) ∧ IsN s l e
theorem RS.only {B S : Nat → Prop} {w w' : World} {p : Nat} {s : Option (List Nat)} (h : RS B w p s) (ho : Only S w w') (hp : ¬ S p) (hB : ∀ q, B q → ¬ S q) : RS B w' p s := by
  obtain ⟨a, len, cap, l, e, h1, h2, h3, h4⟩ := h
  exact ⟨a, len, cap, l, e, h1.only ho hp (fun x hx => hB _ (h3 x hx)), h2, h3, h4⟩
theorem RS.lt {B : Nat → Prop} {w : World} {p : Nat} {s : Option (List Nat)} (h : RS B w p s) : p < w.heap.size := by
  obtain ⟨a, len, cap, l, e, h1, _⟩ := h
  exact World.block_lt_of_cell? w _ h1.c0
theorem RS.sok {B : Nat → Prop} {w : World} {p : Nat} {s : Option (List Nat)} (h : RS B w p s) : SOk s := by
  obtain ⟨a, len, cap, l, e, h1, h2, h3, h4⟩ := h
  intro x hx
  subst hx
  obtain ⟨-, rfl⟩ := h4
  exact h2
def AftG (B : Nat → Prop) (p : Nat) (w : World) (v : Value) (s : Option (List Nat)) (e : Ending) (w' : World) : Prop := e = .returned v ∧ RS B w' p s ∧ Only (fun k => k = p) w w'
theorem After.rs {B : Nat → Prop} {p : Nat} {a : Option Addr} {w w' : World} {l : List Nat} {e : Nat} {s : Option (List Nat)} (h : After p a w w' l e) (ha : ∀ x, a = some x → B x.block) (hb : By l) (hs : IsN s l e) : RS B w' p s ∧ Only (fun k => k = p) w w' := by
  obtain ⟨a', len', cap', h1, h2, h3⟩ := h
  exact ⟨⟨a', len', cap', l, e, h1, hb, fun x hx => by obtain ⟨y, hy, e2⟩ := h3 x hx; rw [← e2]; exact ha y hy, hs⟩, h2⟩
theorem runt_s {l : List Nat} {e : Nat} {s : Option (List Nat)} (most : Int) (hb : By l) (hs : IsN s l e) : (runt l most e).1 = (uS most s).1 ∧ IsN (uS most s).2 (runt l most e).2.1 (runt l most e).2.2 ∧ By (runt l most e).2.1 := by
  cases s with
  | none =>
    have he : e ≠ 0 := hs
    unfold runt
    rw [if_neg he]
    exact ⟨rfl, he, hb⟩
  | some x =>
    obtain ⟨rfl, rfl⟩ := hs
    unfold runt uS pUint dcount
    rw [if_pos rfl]
    dsimp only
    by_cases h0 : (dec 9 l 0 0).2.2 = 0
    · by_cases h1 : most < ((dec 9 l 0 0).1 : Int)
      · rw [if_pos h0, if_pos h1, if_neg (show ¬ ((0, 0, 5) : Nat × Nat × Nat).2.2 = 0 by decide), if_neg (show ¬ ((dec 9 l 0 0).2.2 = 0 ∧ ((dec 9 l 0 0).1 : Int) ≤ most) from fun q => by have := q.2; omega)]
        exact ⟨rfl, by show (5 : Nat) ≠ 0; decide, hb⟩
      · rw [if_pos h0, if_neg h1, if_pos h0, if_pos ⟨h0, by omega⟩]
        exact ⟨rfl, ⟨rfl, rfl⟩, hb.drop _⟩
    · rw [if_neg h0, if_neg h0, if_neg (fun q => h0 q.1)]
      exact ⟨rfl, h0, hb⟩
theorem rint_st {l : List Nat} {e : Nat} {s : Option (List Nat)} (hb : By l) (hs : IsN s l e) : (rint l e).1 = (iS s).1 ∧ IsN (iS s).2 (rint l e).2.1 (rint l e).2.2 ∧ By (rint l e).2.1 := by
  cases s with
  | none =>
    have he : e ≠ 0 := hs
    unfold rint
    rw [if_neg he]
    exact ⟨rfl, he, hb⟩
  | some x =>
    obtain ⟨rfl, rfl⟩ := hs
    unfold rint iS pInt
    rw [if_pos rfl]
    dsimp only
    by_cases h0 : (dec 10 l 0 0).2.2 = 0
    · rw [if_pos h0, if_pos h0]
      exact ⟨rfl, ⟨rfl, rfl⟩, hb.drop _⟩
    · rw [if_neg h0, if_neg h0]
      exact ⟨rfl, h0, hb⟩
theorem guint (B : Nat → Prop) (p : Nat) (most : Int) (s : Option (List Nat)) (w : World) (h : RS B w p s) : Calls Try.prog 43 #[.pointer (some ⟨p, 0, none⟩), .int .i64 most] w (AftG B p w (.int .i64 ((uS most s).1 : Int)) (uS most s).2) := by
  obtain ⟨a, len, cap, l, e, h1, h2, h3, h4⟩ := h
  refine (uint_any p a len cap l e most w h1).mono ?_
  rintro _ w' ⟨rfl, ha⟩
  obtain ⟨e1, e2, e3⟩ := runt_s most h2 h4
  obtain ⟨r1, r2⟩ := ha.rs h3 e3 e2
  exact ⟨by rw [e1], r1, r2⟩
theorem gend (B : Nat → Prop) (p : Nat) (s : Option (List Nat)) (w : World) (h : RS B w p s) : Calls Try.prog 45 #[.pointer (some ⟨p, 0, none⟩)] w fun e w' => (∃ er : Nat, e = .returned (.int .i64 (er : Int)) ∧ (er = 0 ↔ s = some [])) ∧ w = w' := by
  obtain ⟨a, len, cap, l, e, h1, h2, h3, h4⟩ := h
  refine (end_any p a len cap l e w h1).mono ?_
  rintro _ w' ⟨rfl, ha⟩
  refine ⟨⟨rend l e, rfl, ?_⟩, ha⟩
  cases s with
  | none =>
    have he : e ≠ 0 := h4
    unfold rend
    rw [if_neg he]
    exact ⟨fun q => absurd q he, fun q => by cases q⟩
  | some x =>
    obtain ⟨rfl, rfl⟩ := h4
    unfold rend
    rw [if_pos rfl]
    by_cases hl : l = []
    · rw [if_pos hl, hl]; simp
    · rw [if_neg hl]; simp [hl]
theorem stop_no {w : World} {p : Nat} {a : Option Addr} {len cap : Nat} {l : List Nat} {e : Nat} (h : RD w p a len cap l e) (he : e ≠ 0) : Calls Try.prog 63 #[.pointer (some ⟨p, 0, none⟩)] w fun en w' => en = .returned (.bool true) ∧ w = w' := by
  refine (stopped_any p a len cap l e w h).mono ?_
  rintro _ w' ⟨rfl, hw⟩
  exact ⟨by rw [show ((e : Int) != 0) = true by rw [bne_iff_ne]; omega], hw⟩
set_option maxRecDepth 100000 in
set_option maxHeartbeats 2000000 in
theorem gflag (B : Nat → Prop) (p : Nat) (s : Option (List Nat)) (w : World) (h : RS B w p s) : Calls Try.prog 65 #[.pointer (some ⟨p, 0, none⟩)] w (AftG B p w (.bool (fS s).1) (fS s).2) := by
  obtain ⟨a, len, cap, l, e, h1, h2, h3, h4⟩ := h
  cases s with
  | none =>
    have HS := Lib.hid (stop_no h1 h4)
    have HFIN : Hid (AftG B p w (.bool (fS none).1) (fS none).2 (.returned (.bool false)) w) := Lib.hid ⟨rfl, ⟨a, len, cap, l, e, h1, h2, h3, h4⟩, Only.refl _ _⟩
    clear h1 h2 h3 h4
    go_enter Try.func65, Try.ntmps65
    go_wp2_with fail
    refine HS.out.mono ?_
    rintro _ _ ⟨rfl, rfl⟩
    go_wp2_with fail
    go_ret
    exact HFIN.out
  | some x =>
    obtain ⟨rfl, rfl⟩ := h4
    have hll := h1.reads.1
    cases l with
    | nil =>
      have hl0 : len = 0 := by simpa using hll.symm
      subst hl0
      have c0 := h1.c0
      have c1 := h1.c1
      have f1 := h1.f1
      have HH := Lib.hid h1
      have HFIN : Hid (RS B (w.setCell ⟨p, 1, none⟩ (.int .i64 ((3 : Nat) : Int))) p none) := Lib.hid ⟨a, 0, cap, [], 3, h1.err 3, h2, h3, by show (3 : Nat) ≠ 0; decide⟩
      clear h1 h2 h3 hll
      go_enter Try.func65, Try.ntmps65
      go_wp2_with fail
      refine (stopped_any p _ _ _ _ _ _ HH.out).mono ?_
      rintro _ _ ⟨rfl, rfl⟩
      go_wp2_with fail
      go_ret
      exact ⟨rfl, HFIN.out, Only.set _ _ p 1 _ rfl⟩
    | cons c r =>
      by_cases hc1 : c ≤ 1
      · have HU : Hid (fS (some (c :: r)) = ((c : Int) == 1, some r)) := Lib.hid (by
          unfold fS pFlag
          dsimp only
          by_cases h0 : c = 0
          · subst h0; rfl
          · obtain rfl : c = 1 := by omega
            rfl)
        rw [HU.out]
        refine (flag_back p a len cap c r w h1 hc1).mono ?_
        rintro _ w' ⟨rfl, ha⟩
        obtain ⟨r1, r2⟩ := ha.rs (s := some r) h3 (h2.drop 1) ⟨rfl, rfl⟩
        exact ⟨rfl, r1, r2⟩
      · have HU : Hid (fS (some (c :: r)) = (false, none)) := Lib.hid (by unfold fS pFlag; dsimp only; rw [if_neg (by omega), if_neg (by omega)])
        rw [HU.out]
        have hlen : len = r.length + 1 := by rw [← hll]; rfl
        obtain ⟨b, off, rfl, hcell⟩ := h1.reads.2.2.2.resolve_left (by omega)
        have hcl := hcell 0 (by omega)
        rw [Nat.add_zero] at hcl
        simp only [List.getD_cons_zero] at hcl
        have c0 := h1.c0
        have c1 := h1.c1
        have f1 := h1.f1
        have HH := Lib.hid h1
        have hc1' : (1 : Int) < c := by omega
        have hl0 : 0 < len := by omega
        have hl0b : ((len : Int) == 0) = false := by rw [beq_eq_false_iff_ne]; omega
        have HFIN : Hid (RS B (w.setCell ⟨p, 1, none⟩ (.int .i64 ((2 : Nat) : Int))) p none) := Lib.hid ⟨some ⟨b, off, none⟩, len, cap, c :: r, 2, h1.err 2, h2, h3, by show (2 : Nat) ≠ 0; decide⟩
        clear h1 h2 h3 hll hcell hlen
        go_enter Try.func65, Try.ntmps65
        go_wp2_with fail
        refine (stopped_any p _ _ _ _ _ _ HH.out).mono ?_
        rintro _ _ ⟨rfl, rfl⟩
        go_wp2_with fail
        go_ret
        exact ⟨rfl, HFIN.out, Only.set _ _ p 1 _ rfl⟩
/-- a text: new memory -/
def TxtG (B : Nat → Prop) (p : Nat) (w : World) (t : List Nat) (s : Option (List Nat)) (e : Ending) (w' : World) : Prop := ∃ v', e = .returned v' ∧ OwnB w' v' t ∧ (∀ k, v'.ownBlock = some k → w.heap.size ≤ k) ∧ RS B w' p s ∧ Only (fun k => k = p) w w'
theorem txt_no {B : Nat → Prop} {p : Nat} {w w' : World} {a : Option Addr} {len cap : Nat} {l : List Nat} {e : Nat} (h : RD w' p a len cap l e) (hb : By l) (ha : ∀ x, a = some x → B x.block) (he : e ≠ 0) (ho : Only (fun k => k = p) w w') : TxtG B p w [] none (.returned (.slice none 0 0)) w' :=
  ⟨_, rfl, OwnB.nil _, (fun k hk => by cases hk), ⟨a, len, cap, l, e, h, hb, ha, he⟩, ho⟩
end Go.Proofs.Ythflglejhhebeaa.codw

namespace Go.Proofs.Ythflglejhhebeaa.codw
open Go.RowKit mem codm codp
set_option linter.unusedVariables false

/-- a writer made since w: these bytes, no error -/
def Wr (w : World) (p : Nat) (wx : World) (l : List Nat) : Prop := ∃ v, WR wx p v l 0 ∧ Only (fun _ => False) w wx ∧ w.heap.size ≤ p ∧ (∀ k, v.ownBlock = some k → w.heap.size ≤ k)
theorem Wr.only {w wx : World} {p : Nat} {l : List Nat} (h : Wr w p wx l) : Only (fun _ => False) w wx := by obtain ⟨v, h1, h2, h3⟩ := h; exact h2
theorem Wr.quiet {w wx w' : World} {p : Nat} {l : List Nat} (h : Wr w p wx l) (ho : Only (fun _ => False) wx w') : Wr w p w' l := by
  obtain ⟨v, h1, h2, h3, h4⟩ := h
  exact ⟨v, h1.only ho (fun f => f) (fun _ _ f => f), h2.trans ho, h3, h4⟩
theorem Wr.step {w wx w' : World} {p : Nat} {v : Value} {l l' : List Nat} (h2 : Only (fun _ => False) w wx) (h3 : w.heap.size ≤ p) (h4 : ∀ k, v.ownBlock = some k → w.heap.size ≤ k) (ha : WAfter p v wx w' l' 0) : Wr w p w' l' := by
  obtain ⟨v', r1, r2, r3⟩ := ha
  refine ⟨v', r1, h2.then r2 (fun i hi s => ?_), h3, fun k hk => ?_⟩
  · rcases s with s | s
    · omega
    · have := h4 i s; omega
  · rcases r3 k hk with s | s
    · exact h4 k s
    · have := h2.size; omega
/-- the same, with the slice of its bytes named: what else was made since stays -/
def WrV (w : World) (p : Nat) (v : Value) (wx : World) (l : List Nat) : Prop := WR wx p v l 0 ∧ Only (fun _ => False) w wx ∧ w.heap.size ≤ p ∧ (∀ k, v.ownBlock = some k → w.heap.size ≤ k)
/-- a block that isn't the writer's -/
def Apt (p : Nat) (v : Value) (g : Nat) : Prop := g ≠ p ∧ v.ownBlock ≠ some g
def WvAft (w : World) (p : Nat) (v : Value) (wx : World) (l' : List Nat) (e : Ending) (w' : World) : Prop := e = .returned (.tuple #[]) ∧ ∃ v', WrV w p v' w' l' ∧ Only (fun k => k = p ∨ v.ownBlock = some k) wx w' ∧ (∀ g, g < wx.heap.size → Apt p v g → Apt p v' g)
theorem WrV.step {w wx : World} {p : Nat} {v : Value} {l l' : List Nat} {e : Ending} {w' : World} (h : WrV w p v wx l) (he : e = .returned (.tuple #[])) (ha : WAfter p v wx w' l' 0) : WvAft w p v wx l' e w' := by
  obtain ⟨h1, h2, h3, h4⟩ := h
  obtain ⟨v', r1, r2, r3⟩ := ha
  refine ⟨he, v', ⟨r1, h2.then r2 (fun i hi s => ?_), h3, fun k hk => ?_⟩, r2, fun g hg hq => ⟨hq.1, fun e => (r3 g e).elim hq.2 (fun e => by omega)⟩⟩
  · rcases s with s | s
    · omega
    · have := h4 i s; omega
  · rcases r3 k hk with s | s
    · exact h4 k s
    · have := h2.size; omega
theorem WrV.quiet {w wx w' : World} {p : Nat} {v : Value} {l : List Nat} (h : WrV w p v wx l) (ho : Only (fun _ => False) wx w') : WrV w p v w' l := by
  obtain ⟨h1, h2, h3, h4⟩ := h
  exact ⟨h1.only ho (fun f => f) (fun _ _ f => f), h2.trans ho, h3, h4⟩
theorem WrV.new {w wx : World} {p : Nat} {v : Value} {l : List Nat} (h : WrV w p v wx l) {g : Nat} (hg : wx.heap.size ≤ g) : Apt p v g := by
  refine ⟨fun e => by have := h.1.lt; omega, fun e => ?_⟩
  rcases h.1.own.forms with ⟨q, _⟩ | ⟨k, c, q, hk, _⟩
  · rw [q] at e; cases e
  · rw [q] at e
    have : k = g := by simpa [Value.ownBlock] using e
    omega
theorem WvAft.cell {wx w' : World} {p : Nat} {v : Value} (ho : Only (fun k => k = p ∨ v.ownBlock = some k) wx w') {g j : Nat} {u : Value} (hq : Apt p v g) (hc : wx.cell? ⟨g, j, none⟩ = some u) : w'.cell? ⟨g, j, none⟩ = some u := ho.cell' hc (fun s => s.elim hq.1 hq.2)
theorem wv_uint {w wx : World} {p : Nat} {v : Value} {l : List Nat} (h : WrV w p v wx l) (n : Int) (h0 : 0 ≤ n) (hn : n ≤ 9223372036854775807) (hlen : l.length ≤ 100000000) : Calls Try.prog 26 #[.pointer (some ⟨p, 0, none⟩), .int .i64 n] wx (WvAft w p v wx (l ++ enc n.toNat)) :=
  (wuint_any p v l 0 n wx h0 hn h.1 (by omega)).mono fun _ _ ⟨e, ha⟩ => h.step e ha
theorem wv_flag {w wx : World} {p : Nat} {v : Value} {l : List Nat} (h : WrV w p v wx l) (b : Bool) (hlen : l.length ≤ 100000000) : Calls Try.prog 57 #[.pointer (some ⟨p, 0, none⟩), .bool b] wx (WvAft w p v wx (l ++ flagB b)) :=
  (wflag_any p v l 0 b wx h.1 (by omega)).mono fun _ _ ⟨e, ha⟩ => h.step e ha
theorem wr_new (w : World) (t : TypeId) : Wr w w.heap.size (w.alloc (.cells #[.slice none 0 0, .int .i64 0] t)) [] :=
  ⟨_, new_writer w t, (Only.refl _ w).alloc _, Nat.le_refl _, fun k hk => by cases hk⟩
theorem wr_uint {w wx : World} {p : Nat} {l : List Nat} (h : Wr w p wx l) (n : Int) (h0 : 0 ≤ n) (hn : n ≤ 9223372036854775807) (hlen : l.length ≤ 100000000) : Calls Try.prog 26 #[.pointer (some ⟨p, 0, none⟩), .int .i64 n] wx fun e w' => e = .returned (.tuple #[]) ∧ Wr w p w' (l ++ enc n.toNat) := by
  obtain ⟨v, h1, h2, h3, h4⟩ := h
  exact (wuint_any p v l 0 n wx h0 hn h1 (by omega)).mono fun _ _ ⟨e, ha⟩ => ⟨e, Wr.step (l := l) h2 h3 h4 ha⟩
theorem wr_flag {w wx : World} {p : Nat} {l : List Nat} (h : Wr w p wx l) (b : Bool) (hlen : l.length ≤ 100000000) : Calls Try.prog 57 #[.pointer (some ⟨p, 0, none⟩), .bool b] wx fun e w' => e = .returned (.tuple #[]) ∧ Wr w p w' (l ++ flagB b) := by
  obtain ⟨v, h1, h2, h3, h4⟩ := h
  exact (wflag_any p v l 0 b wx h1 (by omega)).mono fun _ _ ⟨e, ha⟩ => ⟨e, Wr.step (l := l) h2 h3 h4 ha⟩
/-- the bytes at the end -/
def Wrote (w : World) (l : List Nat) (e : Ending) (w' : World) : Prop := ∃ a c, e = .returned (.tuple #[.slice a l.length c, .int .i64 0]) ∧ Bytes w' a l.length c l ∧ (∀ y, a = some y → w.heap.size ≤ y.block ∧ y.block < w'.heap.size) ∧ Only (fun _ => False) w w'
theorem wr_bytes {w wx : World} {p : Nat} {l : List Nat} (h : Wr w p wx l) (hlen : l.length ≤ 100000000) : Calls Try.prog 28 #[.pointer (some ⟨p, 0, none⟩)] wx (Wrote w l) := by
  obtain ⟨v, h1, h2, h3, h4⟩ := h
  refine (wbytes_any p v l 0 wx h1 (by omega)).mono ?_
  rintro _ w' ⟨v', rfl, hown, ho, hk⟩
  obtain ⟨a, len, cap, rfl, hb⟩ := bytes_of_own hown
  obtain rfl : l.length = len := hb.1.1
  refine ⟨a, cap, rfl, hb, fun y hy => ?_, h2.trans ho⟩
  subst hy
  have e : (Value.slice (some y) l.length cap).ownBlock = some y.block := rfl
  have := hk _ e
  refine ⟨by have := h2.size; omega, ?_⟩
  rcases hown.forms with ⟨q, _⟩ | ⟨g, c, q, hg, _⟩
  · cases q
  · injection q with q1
    injection q1 with q1
    rw [q1]; exact hg
end Go.Proofs.Ythflglejhhebeaa.codw

namespace Go.Proofs.Ythflglejhhebeaa.codw
open Go.RowKit mem codm codp
set_option linter.unusedVariables false

theorem ballot {W : World} {cs : Array Value} {t : TypeId} {g i : Nat} {v : Value} (hg : g = W.heap.size) (h : cs[i]? = some v) : (W.alloc (.cells cs t)).cell? ⟨g, i, none⟩ = some v := by
  subst hg
  rw [Go.Joins.cell_of_block (cs := cs) (t := t) (fr := (0, 0)) (by rw [heap_alloc, if_pos rfl])]; exact h
/-- a writer made since w, and cells of boxes that it doesn't own -/
def WrB (w : World) (p : Nat) (wx : World) (l : List Nat) (Q : Nat → Nat → Value → Prop) : Prop := ∃ v, WrV w p v wx l ∧ ∀ g j u, Q g j u → Apt p v g ∧ wx.cell? ⟨g, j, none⟩ = some u
theorem WrB.only {w wx : World} {p : Nat} {l : List Nat} {Q : Nat → Nat → Value → Prop} (h : WrB w p wx l Q) : Only (fun _ => False) w wx := by obtain ⟨v, h1, -⟩ := h; exact h1.2.1
theorem WrB.cell {w wx : World} {p : Nat} {l : List Nat} {Q : Nat → Nat → Value → Prop} (h : WrB w p wx l Q) {g j : Nat} {u : Value} (q : Q g j u) : wx.cell? ⟨g, j, none⟩ = some u := by obtain ⟨v, -, h2⟩ := h; exact (h2 g j u q).2
theorem WrB.less {w wx : World} {p : Nat} {l : List Nat} {Q Q' : Nat → Nat → Value → Prop} (h : WrB w p wx l Q) (hq : ∀ g j u, Q' g j u → Q g j u) : WrB w p wx l Q' := by
  obtain ⟨v, h1, h2⟩ := h
  exact ⟨v, h1, fun g j u q => h2 g j u (hq g j u q)⟩
theorem WrB.quiet {w wx w' : World} {p : Nat} {l : List Nat} {Q : Nat → Nat → Value → Prop} (h : WrB w p wx l Q) (ho : Only (fun _ => False) wx w') : WrB w p w' l Q := by
  obtain ⟨v, h1, h2⟩ := h
  exact ⟨v, h1.quiet ho, fun g j u q => ⟨(h2 g j u q).1, ho.cell' (h2 g j u q).2 (fun f => f)⟩⟩
/-- and a box more -/
def Box (Q : Nat → Nat → Value → Prop) (b : Nat) (cs : Array Value) : Nat → Nat → Value → Prop := fun g j u => Q g j u ∨ (g = b ∧ cs[j]? = some u)
theorem WrB.box {w wx w' : World} {p : Nat} {l : List Nat} {Q : Nat → Nat → Value → Prop} (h : WrB w p wx l Q) {cs : Array Value} {t : TypeId} {b : Nat} (hw : w' = wx.alloc (.cells cs t)) (hb : b = wx.heap.size) : WrB w p w' l (Box Q b cs) := by
  have ho : Only (fun _ => False) wx w' := by rw [hw]; exact (Only.refl _ _).alloc _
  obtain ⟨v, h1, h2⟩ := h
  refine ⟨v, h1.quiet ho, fun g j u q => ?_⟩
  rcases q with q | ⟨rfl, q⟩
  · exact ⟨(h2 g j u q).1, ho.cell' (h2 g j u q).2 (fun f => f)⟩
  · exact ⟨WrV.new h1 (by omega), by rw [hw]; exact ballot hb q⟩
theorem Box.old {Q : Nat → Nat → Value → Prop} {b : Nat} {cs : Array Value} {g j : Nat} {u : Value} (h : Q g j u) : Box Q b cs g j u := .inl h
theorem Box.new {Q : Nat → Nat → Value → Prop} {b : Nat} {cs : Array Value} {j : Nat} {u : Value} (h : cs[j]? = some u) : Box Q b cs b j u := .inr ⟨rfl, h⟩
theorem wb_uint {w wx : World} {p : Nat} {l : List Nat} {Q : Nat → Nat → Value → Prop} (h : WrB w p wx l Q) (n : Int) (h0 : 0 ≤ n) (hn : n ≤ 9223372036854775807) (hlen : l.length ≤ 100000000) : Calls Try.prog 26 #[.pointer (some ⟨p, 0, none⟩), .int .i64 n] wx fun e w' => e = .returned (.tuple #[]) ∧ WrB w p w' (l ++ enc n.toNat) Q := by
  obtain ⟨v, h1, h2⟩ := h
  refine (wv_uint h1 n h0 hn hlen).mono ?_
  rintro e w' ⟨he, v', h3, h4, h5⟩
  exact ⟨he, v', h3, fun g j u q => ⟨h5 g (World.block_lt_of_cell? wx _ (h2 g j u q).2) (h2 g j u q).1, WvAft.cell h4 (h2 g j u q).1 (h2 g j u q).2⟩⟩
theorem wb_flag {w wx : World} {p : Nat} {l : List Nat} {Q : Nat → Nat → Value → Prop} (h : WrB w p wx l Q) (b : Bool) (hlen : l.length ≤ 100000000) : Calls Try.prog 57 #[.pointer (some ⟨p, 0, none⟩), .bool b] wx fun e w' => e = .returned (.tuple #[]) ∧ WrB w p w' (l ++ flagB b) Q := by
  obtain ⟨v, h1, h2⟩ := h
  refine (wv_flag h1 b hlen).mono ?_
  rintro e w' ⟨he, v', h3, h4, h5⟩
  exact ⟨he, v', h3, fun g j u q => ⟨h5 g (World.block_lt_of_cell? wx _ (h2 g j u q).2) (h2 g j u q).1, WvAft.cell h4 (h2 g j u q).1 (h2 g j u q).2⟩⟩
theorem wb_new (w : World) (t : TypeId) (Q : Nat → Nat → Value → Prop) (hq : ∀ g j u, Q g j u → w.cell? ⟨g, j, none⟩ = some u) : WrB w w.heap.size (w.alloc (.cells #[.slice none 0 0, .int .i64 0] t)) [] Q := by
  obtain ⟨v, h1, h2, h3, h4⟩ := wr_new w t
  refine ⟨v, ⟨h1, h2, h3, h4⟩, fun g j u q => ?_⟩
  have hl : g < w.heap.size := World.block_lt_of_cell? w _ (hq g j u q)
  exact ⟨⟨by omega, fun e => by have := h4 g e; omega⟩, h2.cell' (hq g j u q) (fun f => f)⟩
theorem WrB.wr {w wx : World} {p : Nat} {l : List Nat} {Q : Nat → Nat → Value → Prop} (h : WrB w p wx l Q) : Wr w p wx l := by
  obtain ⟨v, h1, -⟩ := h
  exact ⟨v, h1⟩
theorem Wr.wb {w wx : World} {p : Nat} {l : List Nat} (h : Wr w p wx l) : WrB w p wx l (fun _ _ _ => False) := by
  obtain ⟨v, h1⟩ := h
  exact ⟨v, h1, fun g j u q => q.elim⟩
/-- numbers, one behind the other -/
def eN (l : List Int) : List Nat := l.flatMap (fun n => enc n.toNat)
theorem eN_snoc (l : List Int) {k : Nat} (h : k < l.length) : eN (l.take (k + 1)) = eN (l.take k) ++ enc (l.getD k 0).toNat := by
  unfold eN
  rw [List.take_succ_eq_append_getElem h, List.flatMap_append]
  simp [List.getD, h]
theorem eN_len (l : List Int) : (eN l).length ≤ l.length * 11 := by
  unfold eN
  induction l with
  | nil => simp
  | cons x r ih => rw [List.flatMap_cons, List.length_append, List.length_cons]; have := (enc_length x.toNat).1; omega
theorem eN_take (l : List Int) (k : Nat) (h : l.length ≤ 5) : (eN (l.take k)).length ≤ 55 := by
  have := eN_len (l.take k)
  rw [List.length_take] at this
  omega
end Go.Proofs.Ythflglejhhebeaa.codw

