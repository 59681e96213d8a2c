/- The document's reader on states: Uint, Int, Flag, Text, End. -/
import Derived.Test.YthflglejhhebeaaRdR
namespace Go.Proofs.Ythflglejhhebeaa.rdr
open Go.RowKit mem codm codp dskw
set_option linter.unusedVariables false

def Aft (p : Nat) (w : World) (v : Value) (s : Option (List Nat)) (e : Ending) (w' : World) : Prop := e = .returned v ∧ RR w' p s ∧ Only (fun k => k = p) w w'
theorem pUint_no {most : Int} {l : List Nat} (h : ¬ ((dec 9 l 0 0).2.2 = 0 ∧ ((dec 9 l 0 0).1 : Int) ≤ most)) : uS most (some l) = (0, none) := by
  unfold uS pUint; dsimp only; rw [if_neg h]
theorem pUint_yes {most : Int} {l : List Nat} (h : (dec 9 l 0 0).2.2 = 0 ∧ ((dec 9 l 0 0).1 : Int) ≤ most) : uS most (some l) = ((dec 9 l 0 0).1, some (l.drop (dec 9 l 0 0).2.1)) := by
  unfold uS pUint; dsimp only; rw [if_pos h]
theorem pInt_no {l : List Nat} (h : ¬ (dec 10 l 0 0).2.2 = 0) : iS (some l) = (0, none) := by
  unfold iS pInt; dsimp only; rw [if_neg h]
theorem pInt_yes {l : List Nat} (h : (dec 10 l 0 0).2.2 = 0) : iS (some l) = (zag (dec 10 l 0 0).1, some (l.drop (dec 10 l 0 0).2.1)) := by
  unfold iS pInt; dsimp only; rw [if_pos h]
theorem RR.none_ {w : World} {p : Nat} {l : List Nat} {e : Int} (h : RC w p l e) (hb : By l) (he : e ≠ 0) : RR w p none := ⟨l, e, h, hb, he⟩
theorem RR.some_ {w : World} {p : Nat} {l : List Nat} (h : RC w p l 0) (hb : By l) : RR w p (some l) := ⟨l, 0, h, hb, rfl, rfl⟩
set_option maxRecDepth 100000 in
set_option maxHeartbeats 2000000 in
theorem ruint_s (p : Nat) (most : Int) (s : Option (List Nat)) (w : World) (h : RR w p s) (hm : most ≤ 9223372036854775807) : Calls Try.prog 48 #[.pointer (some ⟨p, 0, none⟩), .int .i64 most] w (Aft p w (.int .i64 ((uS most s).1 : Int)) (uS most s).2) := by
  obtain ⟨l, e, hc, hb, hs⟩ := h
  cases s with
  | none =>
    have c1 := hc.c1
    have hs' : e ≠ 0 := hs
    have hne : (e != 0) = true := by simpa using hs'
    have HFIN : Hid (Aft p w (.int .i64 ((uS most none).1 : Int)) (uS most none).2 (.returned (.int .i64 0)) w) := Lib.hid ⟨rfl, RR.none_ hc hb hs, Only.refl _ _⟩
    clear hc hb hs
    go_enter Try.func48, Try.ntmps48
    go_wp2_with fail
    go_ret
    exact HFIN.out
  | some x =>
    obtain ⟨rfl, rfl⟩ := hs
    have c1 := hc.c1
    have HG := Lib.hid (grp_any p 9 (.inl rfl) l w hc hb)
    have HB := Lib.hid hb
    by_cases hd : (dec 9 l 0 0).2.2 = 0
    · obtain ⟨n, sz, er, hdd⟩ : ∃ n s er, dec 9 l 0 0 = (n, s, er) := ⟨_, _, _, rfl⟩
      rw [hdd] at hd
      dsimp only at hd
      subst hd
      obtain ⟨henc, hsl, hn64, hn9, hs9⟩ := enc_dec (by omega : (9 : Nat) ≤ 10) hb.1 hdd
      have hn63 : n < 9223372036854775808 := by
        have h1 := hn9 (by omega)
        have h2 : 128 ^ sz ≤ 128 ^ 9 := Nat.pow_le_pow_right (by omega) (by omega)
        omega
      have hll := hb.2
      by_cases hmm : (n : Int) ≤ most
      · have hu := pUint_yes (most := most) (l := l) (by rw [hdd]; exact ⟨rfl, hmm⟩)
        rw [hdd] at hu
        dsimp only at hu
        rw [hu]
        dsimp only
        have h0 : ¬ most < 0 := by omega
        have hw : IntKind.u64.wrap most = most := by rw [IntKind.wrap_u64]; omega
        have hgt : ¬ most < (n : Int) := by omega
        have hsz := strN_size l
        have hext := strN_drop l sz l.length rfl
        have hszl : (sz : Int) ≤ (l.length : Int) := by omega
        have hsz0 : (0 : Int) ≤ (sz : Int) := by omega
        have hlz : (l.length : Int) ≤ 100000000 := by omega
        have hn0 : (0 : Int) ≤ n := by omega
        have hnw : IntKind.i64.wrap (n : Int) = (n : Int) := by rw [IntKind.wrap_i64]; omega
        have HBD := Lib.hid (hb.drop sz)
        clear hu hc hb henc hn9 hn64 hmm hm hsl
        go_enter Try.func48, Try.ntmps48
        go_wp2_with fail
        refine HG.out.mono ?_
        rintro _ w1 ⟨er, rfl, hc1, her, ho⟩
        rw [hdd]
        rw [hdd] at her
        obtain rfl : er = 0 := her.2 rfl
        have d0 := hc1.c0
        have d1 := hc1.c1
        have g0 := hc1.f0
        have HL := Lib.hid (hc1.left (l.drop sz))
        have HO := Lib.hid ho
        clear her hc1 ho c1
        dsimp only
        go_wp2_with fail
        go_ret
        exact ⟨rfl, RR.some_ HL.out.1 HBD.out, HO.out.trans HL.out.2⟩
      · have hu := pUint_no (most := most) (l := l) (by rw [hdd]; exact fun q => hmm q.2)
        rw [hu]
        dsimp only
        by_cases h0 : most < 0
        · clear hu hc hb henc hn9 hn64 hmm hm hsl
          go_enter Try.func48, Try.ntmps48
          go_wp2_with fail
          refine HG.out.mono ?_
          rintro _ w1 ⟨er, rfl, hc1, her, ho⟩
          rw [hdd]
          rw [hdd] at her
          obtain rfl : er = 0 := her.2 rfl
          have d1 := hc1.c1
          have g1 := hc1.f1
          have HL := Lib.hid (hc1.err 5)
          have HO := Lib.hid ho
          clear her hc1 ho c1
          dsimp only
          go_wp2_with fail
          go_ret
          exact ⟨rfl, RR.none_ HL.out.1 HB.out (by decide), HO.out.trans HL.out.2⟩
        · have hw : IntKind.u64.wrap most = most := by rw [IntKind.wrap_u64]; omega
          have hgt : most < (n : Int) := by omega
          clear hu hc hb henc hn9 hn64 hmm hm hsl
          go_enter Try.func48, Try.ntmps48
          go_wp2_with fail
          refine HG.out.mono ?_
          rintro _ w1 ⟨er, rfl, hc1, her, ho⟩
          rw [hdd]
          rw [hdd] at her
          obtain rfl : er = 0 := her.2 rfl
          have d1 := hc1.c1
          have g1 := hc1.f1
          have HL := Lib.hid (hc1.err 5)
          have HO := Lib.hid ho
          clear her hc1 ho c1
          dsimp only
          go_wp2_with fail
          go_ret
          exact ⟨rfl, RR.none_ HL.out.1 HB.out (by decide), HO.out.trans HL.out.2⟩
    · have hu := pUint_no (most := most) (l := l) (fun q => hd q.1)
      rw [hu]
      dsimp only
      clear hu hc hb
      go_enter Try.func48, Try.ntmps48
      go_wp2_with fail
      refine HG.out.mono ?_
      rintro _ w1 ⟨er, rfl, hc1, her, ho⟩
      have hne0 : er ≠ 0 := fun q => hd (her.1 q)
      have hne : (er != 0) = true := by simpa using hne0
      have d1 := hc1.c1
      have HFIN := Lib.hid (RR.none_ hc1 HB.out hne0)
      have HO := Lib.hid ho
      clear her hc1 ho hd c1 hne0
      go_wp2_with fail
      go_ret
      exact ⟨rfl, HFIN.out, HO.out⟩
set_option maxRecDepth 100000 in
set_option maxHeartbeats 2000000 in
theorem rflag_s (p : Nat) (s : Option (List Nat)) (w : World) (h : RR w p s) : Calls Try.prog 50 #[.pointer (some ⟨p, 0, none⟩)] w (Aft p w (.bool (fS s).1) (fS s).2) := by
  obtain ⟨l, e, hc, hb, hs⟩ := h
  have c0 := hc.c0
  have c1 := hc.c1
  have f0 := hc.f0
  have f1 := hc.f1
  cases s with
  | none =>
    have hs' : e ≠ 0 := hs
    have hne : (e != 0) = true := by simpa using hs'
    have HFIN : Hid (Aft p w (.bool (fS none).1) (fS none).2 (.returned (.bool false)) w) := Lib.hid ⟨rfl, RR.none_ hc hb hs, Only.refl _ _⟩
    clear hc hb hs
    go_enter Try.func50, Try.ntmps50
    go_wp2_with fail
    go_ret
    exact HFIN.out
  | some x =>
    obtain ⟨rfl, rfl⟩ := hs
    have hsz := strN_size l
    cases l with
    | nil =>
      have HL := Lib.hid (hc.err 3)
      have HB := Lib.hid hb
      clear hc hb
      go_enter Try.func50, Try.ntmps50
      go_wp2_with fail
      go_ret
      exact ⟨rfl, RR.none_ HL.out.1 HB.out (by decide), HL.out.2⟩
    | cons c r =>
      have hc256 : c < 256 := hb.1 c List.mem_cons_self
      have hix : ∀ h : 0 < (strN (c :: r)).size, ((strN (c :: r))[0]'h).toNat = c := strN_head c r hc256
      have hlr : r.length + 1 ≤ 100000000 := by have := hb.2; simpa using this
      have hsz0 : (((strN (c :: r)).size : Int) == 0) = false := by rw [hsz, beq_eq_false_iff_ne]; simp; omega
      have hlz : (0 : Int) < (r.length : Int) + 1 := by omega
      have hlz1 : (1 : Int) ≤ (r.length : Int) + 1 := by omega
      have hlz2 : (((r.length : Int) + 1) == 0) = false := by rw [beq_eq_false_iff_ne]; omega
      have hext : (strN (c :: r)).extract 1 (r.length + 1) = strN r := strN_drop (c :: r) 1 _ rfl
      have HB := Lib.hid hb
      by_cases h1 : 1 < c
      · have h1' : (1 : Int) < c := by omega
        have HL := Lib.hid (hc.err 2)
        have HU : Hid (fS (some (c :: r)) = (false, none)) := Lib.hid (by unfold fS pFlag; dsimp only; rw [if_neg (by omega), if_neg (by omega)])
        rw [HU.out]
        clear hc hb
        go_enter Try.func50, Try.ntmps50
        go_wp2_with fail
        go_ret
        exact ⟨rfl, RR.none_ HL.out.1 HB.out (by decide), HL.out.2⟩
      · have h1' : ¬ (1 : Int) < c := by omega
        have HL := Lib.hid (hc.left r)
        have hbr : By r := hb.drop 1
        have HBR := Lib.hid hbr
        have HU : Hid (fS (some (c :: r)) = ((c : Int) == 1, some r)) := Lib.hid (by
          unfold fS pFlag
          dsimp only
          by_cases h0 : c = 0
          · subst h0; rfl
          · obtain rfl : c = 1 := by omega
            rfl)
        rw [HU.out]
        dsimp only
        generalize hcb : ((c : Int) == 1) = cb at *
        clear hc hb hbr
        go_enter Try.func50, Try.ntmps50
        go_wp2_with fail
        go_ret
        exact ⟨rfl, RR.some_ HL.out.1 HBR.out, HL.out.2⟩
set_option maxRecDepth 100000 in
theorem rend_s (p : Nat) (s : Option (List Nat)) (w : World) (h : RR w p s) : Calls Try.prog 52 #[.pointer (some ⟨p, 0, none⟩)] w fun e w' => (∃ er : Int, e = .returned (.int .i64 er) ∧ (er = 0 ↔ s = some [])) ∧ w = w' := by
  obtain ⟨l, e, hc, hb, hs⟩ := h
  have c0 := hc.c0
  have c1 := hc.c1
  cases s with
  | none =>
    have hs : e ≠ 0 := hs
    have hne : (e == 0) = false := by simpa using hs
    have HS := Lib.hid hs
    clear hc hb hs
    go_enter Try.func52, Try.ntmps52
    go_wp2_with fail
    go_ret
    exact ⟨⟨e, rfl, fun q => absurd q HS.out, fun q => by cases q⟩, rfl⟩
  | some x =>
    obtain ⟨rfl, rfl⟩ := hs
    by_cases hl : l = []
    · subst hl
      have hbe : (strN []).toList.isEmpty = true := by simp [strN, ByteArray.toList_eq]
      clear hc hb
      go_enter Try.func52, Try.ntmps52
      go_wp2_with fail
      go_ret
      exact ⟨⟨0, rfl, by simp⟩, rfl⟩
    · have hbe : (strN l).toList.isEmpty = false := by
        cases l with
        | nil => exact absurd rfl hl
        | cons c r => simp [strN, ByteArray.toList_eq]
      have HNL := Lib.hid hl
      clear hc hb hl
      go_enter Try.func52, Try.ntmps52
      go_wp2_with fail
      go_ret
      exact ⟨⟨4, rfl, (fun q => by cases q), (fun q => by injection q with q; exact absurd q HNL.out)⟩, rfl⟩
end Go.Proofs.Ythflglejhhebeaa.rdr
