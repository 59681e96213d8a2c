/- What a part's write does: the writer's bytes, and the document's. -/
import Derived.Test.YtdeljhkombbncabCodParts
import Derived.Laws.BitsAllLaws
namespace Go.Proofs.Ytdeljhkombbncab.codw
open Go.RowKit mem codm
set_option linter.unusedVariables false

/-- the document's bytes of a part -/
def pb (k n : Int) (y : Bool) (l : List Nat) : List Nat :=
  if k % 4 = 0 then rucount n else if k % 4 = 1 then enc (zig n) else if k % 4 = 2 then [if y then 1 else 0] else enc (l.take 300).length ++ l.take 300

/-- the writer's error behind a part -/
def perr (k n : Int) (e : Nat) : Nat := if k % 4 = 0 ∧ n < 0 then 1 else e

theorem WAfter.of_only {p : Nat} {v : Value} {w w1 w2 : World} {l : List Nat} {e : Nat} (ho : Only (fun _ => False) w w1) (h : WAfter p v w1 w2 l e) : WAfter p v w w2 l e :=
  WAfter.trans (v1 := v) (ho.mono (fun _ _ f => f.elim)) (fun k hk => .inl hk) h

theorem WAfter.then_only {p : Nat} {v : Value} {w w1 w2 : World} {l : List Nat} {e : Nat} (h : WAfter p v w w1 l e) (ho : Only (fun _ => False) w1 w2) : WAfter p v w w2 l e := by
  obtain ⟨v1, h1, ho1, hk1⟩ := h
  exact ⟨v1, h1.only ho (fun f => f) (fun _ _ f => f), ho1.then ho (fun _ _ f => f.elim), hk1⟩

theorem OwnB.lt {w : World} {v : Value} {l : List Nat} (h : OwnB w v l) : ∀ k, v.ownBlock = some k → k < w.heap.size := by
  intro k hk
  rcases h.forms with ⟨hv, _⟩ | ⟨g, cap, hv, hg, _⟩
  · subst hv; cases hk
  · subst hv; simp [Value.ownBlock] at hk; omega

theorem WAfter.cell {p : Nat} {v : Value} {w w' : World} {l : List Nat} {e : Nat} (h : WAfter p v w w' l e) {b j : Nat} {u : Value} (hc : w.cell? ⟨b, j, none⟩ = some u) (hp : b ≠ p) (hv : v.ownBlock ≠ some b) : w'.cell? ⟨b, j, none⟩ = some u := by
  obtain ⟨_, _, ho, _⟩ := h
  exact ho.cell' hc (fun hs => hs.elim hp hv)

set_option maxRecDepth 100000 in
set_option maxHeartbeats 4000000 in
theorem write_any (p : Nat) (v : Value) (lw : List Nat) (e : Nat) (k n : Int) (y : Bool) (a : Option Addr) (len cap : Nat) (l : List Nat) (w : World) (h : WR w p v lw e) (hB : Bytes w a len cap l)
    (hn : -9223372036854775808 ≤ n ∧ n ≤ 9223372036854775807) (hlen : lw.length ≤ 1000000) :
    Calls Try.prog 15 #[.agg #[.int .i64 k, .int .i64 n, .bool y, .slice a len cap], .pointer (some ⟨p, 0, none⟩)] w fun en w' =>
      en = .returned (.string (strN (pb k n y l))) ∧ WAfter p v w w' (lw ++ pb k n y l) (perr k n e) := by
  have o0 : Only (fun _ => False) w (w.alloc (.cells #[.int .i64 k, .int .i64 n, .bool y, .slice a len cap] 42)) := (Only.refl _ w).alloc _
  have HBP : Hid (w.heap.size ≠ p) := Lib.hid (by have := h.lt; omega)
  have HBV : Hid (v.ownBlock ≠ some w.heap.size) := Lib.hid (fun f => by have := OwnB.lt h.own _ f; omega)
  have HPL : Hid (p < w.heap.size) := Lib.hid h.lt
  have HVL : Hid (∀ k, v.ownBlock = some k → k < w.heap.size) := Lib.hid (OwnB.lt h.own)
  have H0 := Lib.hid (h.only o0 (fun f => f) (fun _ _ f => f))
  have B0 := Lib.hid (hB.only o0 (fun _ _ f => f))
  have O0 := Lib.hid o0
  have b0 : ∀ j, (w.alloc (.cells #[.int .i64 k, .int .i64 n, .bool y, .slice a len cap] 42)).cell? ⟨w.heap.size, j, none⟩ = (#[Value.int .i64 k, .int .i64 n, .bool y, .slice a len cap] : Array Value)[j]? := fun j => by simp
  have B00 := Lib.hid (b0 0)
  have B01 := Lib.hid (b0 1)
  have B02 := Lib.hid (b0 2)
  have B03 := Lib.hid (b0 3)
  clear h hB o0 b0
  rcases (by omega : k % 4 = 0 ∨ k % 4 = 1 ∨ k % 4 = 2 ∨ k % 4 = 3) with hk | hk | hk | hk
  · have HP : Hid (pb k n y l = rucount n) := Lib.hid (by unfold pb; rw [if_pos hk])
    have HK := Lib.hid hk
    by_cases hn0 : n < 0
    · have HE : Hid (perr k n e = 1) := Lib.hid (by unfold perr; rw [if_pos ⟨hk, hn0⟩])
      have HU : Hid (rucount n = []) := Lib.hid (by unfold rucount; rw [if_pos hn0])
      clear hk
      go_enter Try.func15, Try.ntmps15
      go_wp2_with fail
      refine (kind_any k n y a len cap _).mono ?_
      rintro e1 w1 ⟨rfl, hO1⟩
      rw [HK.out]
      have c01 := hO1.cell' B01.out (fun f => f)
      have H1 := Lib.hid (H0.out.only hO1 (fun f => f) (fun _ _ f => f))
      have O1 := Lib.hid (O0.out.trans hO1)
      have B1 := Lib.hid (B0.out.only hO1 (fun _ _ f => f))
      clear hO1
      go_wp2_with fail
      refine (wuint_below p v lw e n _ hn0 H1.out).mono ?_
      rintro e1 w2 ⟨rfl, hA⟩
      have hsub := hA.cell c01 HBP.out HBV.out
      have HA := Lib.hid hA
      clear hA
      go_wp2_with fail
      refine (ruint_any n _ hn).mono ?_
      rintro e1 w3 ⟨rfl, hO3⟩
      have HO3 := Lib.hid hO3
      clear hO3 hsub c01
      go_wp2
      refine bodyPost_ret (v := .string (strN (rucount n))) (by simp [results, Try.results15, go_sem]) rfl ⟨by rw [HP.out], ?_⟩
      rw [HP.out, HE.out, HU.out, List.append_nil]
      exact WAfter.of_only O1.out (HA.out.then_only HO3.out)
    · have HE : Hid (perr k n e = e) := Lib.hid (by unfold perr; rw [if_neg (fun f => hn0 f.2)])
      have HU : Hid (rucount n = enc n.toNat) := Lib.hid (by unfold rucount; rw [if_neg hn0])
      clear hk
      go_enter Try.func15, Try.ntmps15
      go_wp2_with fail
      refine (kind_any k n y a len cap _).mono ?_
      rintro e1 w1 ⟨rfl, hO1⟩
      rw [HK.out]
      have c01 := hO1.cell' B01.out (fun f => f)
      have H1 := Lib.hid (H0.out.only hO1 (fun f => f) (fun _ _ f => f))
      have O1 := Lib.hid (O0.out.trans hO1)
      have B1 := Lib.hid (B0.out.only hO1 (fun _ _ f => f))
      clear hO1
      go_wp2_with fail
      refine (wuint_any p v lw e n _ (by omega) (by omega) H1.out (by omega)).mono ?_
      rintro e1 w2 ⟨rfl, hA⟩
      have hsub := hA.cell c01 HBP.out HBV.out
      have HA := Lib.hid hA
      clear hA
      go_wp2_with fail
      refine (ruint_any n _ hn).mono ?_
      rintro e1 w3 ⟨rfl, hO3⟩
      have HO3 := Lib.hid hO3
      clear hO3 hsub c01
      go_wp2
      refine bodyPost_ret (v := .string (strN (rucount n))) (by simp [results, Try.results15, go_sem]) rfl ⟨by rw [HP.out], ?_⟩
      rw [HP.out, HE.out, HU.out]
      exact WAfter.of_only O1.out (HA.out.then_only HO3.out)
  · have HP : Hid (pb k n y l = enc (zig n)) := Lib.hid (by unfold pb; simp [hk])
    have HK := Lib.hid hk
    have HE : Hid (perr k n e = e) := Lib.hid (by unfold perr; rw [if_neg (fun f => by omega)])
    clear hk
    go_enter Try.func15, Try.ntmps15
    go_wp2_with fail
    refine (kind_any k n y a len cap _).mono ?_
    rintro e1 w1 ⟨rfl, hO1⟩
    rw [HK.out]
    have c01 := hO1.cell' B01.out (fun f => f)
    have H1 := Lib.hid (H0.out.only hO1 (fun f => f) (fun _ _ f => f))
    have O1 := Lib.hid (O0.out.trans hO1)
    have B1 := Lib.hid (B0.out.only hO1 (fun _ _ f => f))
    clear hO1
    go_wp2_with fail
    refine (wint_any p v lw e n _ hn H1.out (by omega)).mono ?_
    rintro e1 w2 ⟨rfl, hA⟩
    have hsub := hA.cell c01 HBP.out HBV.out
    have HA := Lib.hid hA
    clear hA
    go_wp2_with fail
    refine (rint_ref n _ hn).mono ?_
    rintro e1 w3 ⟨rfl, hO3⟩
    have HO3 := Lib.hid hO3
    clear hO3 hsub c01
    go_wp2
    refine bodyPost_ret (v := .string (strN (enc (zig n)))) (by simp [results, Try.results15, go_sem]) rfl ⟨by rw [HP.out], ?_⟩
    rw [HP.out, HE.out]
    exact WAfter.of_only O1.out (HA.out.then_only HO3.out)
  · have HP : Hid (pb k n y l = [if y then 1 else 0]) := Lib.hid (by unfold pb; simp [hk])
    have HK := Lib.hid hk
    have HE : Hid (perr k n e = e) := Lib.hid (by unfold perr; rw [if_neg (fun f => by omega)])
    clear hk
    obtain ⟨F, hF⟩ : ∃ F, (if y then 1 else 0) = F := ⟨_, rfl⟩
    rw [hF] at HP
    have HF := Lib.hid hF
    clear hF
    go_enter Try.func15, Try.ntmps15
    go_wp2_with fail
    refine (kind_any k n y a len cap _).mono ?_
    rintro e1 w1 ⟨rfl, hO1⟩
    rw [HK.out]
    have c02 := hO1.cell' B02.out (fun f => f)
    have H1 := Lib.hid (H0.out.only hO1 (fun f => f) (fun _ _ f => f))
    have O1 := Lib.hid (O0.out.trans hO1)
    have B1 := Lib.hid (B0.out.only hO1 (fun _ _ f => f))
    clear hO1
    go_wp2_with fail
    refine (wflag_any p v lw e y _ H1.out (by omega)).mono ?_
    rintro e1 w2 ⟨rfl, hA⟩
    rw [HF.out] at hA
    have hsub := hA.cell c02 HBP.out HBV.out
    have HA := Lib.hid hA
    clear hA
    go_wp2_with fail
    refine (rflag_any y _).mono ?_
    rintro e1 w3 ⟨rfl, rfl⟩
    rw [HF.out]
    have HO3 : Hid (Only (fun _ => False) w2 w2) := Lib.hid (Only.refl _ _)
    clear hsub c02
    go_wp2
    refine bodyPost_ret (v := .string (strN [F])) (by simp [results, Try.results15, go_sem]) rfl ⟨by rw [HP.out], ?_⟩
    rw [HP.out, HE.out]
    exact WAfter.of_only O1.out (HA.out.then_only HO3.out)
  · have HP : Hid (pb k n y l = enc (l.take 300).length ++ l.take 300) := Lib.hid (by unfold pb; simp [hk])
    have HK := Lib.hid hk
    have HE : Hid (perr k n e = e) := Lib.hid (by unfold perr; rw [if_neg (fun f => by omega)])
    clear hk
    go_enter Try.func15, Try.ntmps15
    go_wp2_with fail
    refine (kind_any k n y a len cap _).mono ?_
    rintro e1 w1 ⟨rfl, hO1⟩
    rw [HK.out]
    have d0 := hO1.cell' B00.out (fun f => f)
    have d1 := hO1.cell' B01.out (fun f => f)
    have d2 := hO1.cell' B02.out (fun f => f)
    have d3 := hO1.cell' B03.out (fun f => f)
    have H1 := Lib.hid (H0.out.only hO1 (fun f => f) (fun _ _ f => f))
    have O1 := Lib.hid (O0.out.trans hO1)
    have B1 := Lib.hid (B0.out.only hO1 (fun _ _ f => f))
    clear hO1
    have hs1 : w.heap.size < w1.heap.size := World.block_lt_of_cell? w1 _ d0
    go_wp2_with fail
    refine (text_any k n y a len cap l _ B1.out).mono ?_
    rintro e1 w2 ⟨g, c, rfl, hG, hO2, hg1, hg2, hlc, hcm⟩
    have htl : (l.take 300).length ≤ 300 := by simp; omega
    obtain ⟨t, ht⟩ : ∃ t, l.take 300 = t := ⟨_, rfl⟩
    rw [ht] at hG hlc htl HP ⊢
    clear ht
    obtain ⟨m, hm⟩ : ∃ m, t.length = m := ⟨_, rfl⟩
    rw [hm] at hG hlc htl ⊢
    have HM := Lib.hid hm
    clear hm d0 d1 d2 d3
    have H2 := Lib.hid (H1.out.only hO2 (fun f => f) (fun _ _ f => f))
    have O2 := Lib.hid (O1.out.trans hO2)
    have hg0 : w.heap.size < g := by omega
    have HG := Lib.hid hG
    have hcv := conv_reads (HG.out.reads HM.out.symm) c
    clear hG hO2 H1 O1 hs1 hg1
    go_wp2_with fail
    refine (rtext_any t _ (by rw [HM.out]; omega)).mono ?_
    rintro e1 w3 ⟨rfl, hO3⟩
    have H3 := Lib.hid (H2.out.only hO3 (fun f => f) (fun _ _ f => f))
    have G3 := Lib.hid (HG.out.only hO3 (fun _ _ f => f))
    have O3 := Lib.hid (O2.out.trans hO3)
    have HS3 := Lib.hid hO3.size
    clear hO3 hcv H2 HG O2
    go_wp2_with fail
    refine (wtext_any p v lw e _ _ _ t _ H3.out ⟨G3.out.reads HM.out.symm, hlc, hcm, fun f => by cases f⟩ (by omega) (by omega) ?_).mono ?_
    · intro x hx
      simp at hx; subst hx
      exact ⟨by have := HPL.out; show g ≠ p; omega, fun f => by have h1 := HVL.out _ f; have h2 : g < w.heap.size := h1; omega, by have := HS3.out; show g < _; omega⟩
    rintro e1 w4 ⟨rfl, hA⟩
    have hG4 : OwnB w4 (.slice (some ⟨g, 0, none⟩) m c) t := by
      obtain ⟨_, _, ho, _⟩ := hA
      exact G3.out.only ho (fun k' hk' hs => by
        simp [Value.ownBlock] at hk'
        rcases hs with hs | hs
        · have := HPL.out; omega
        · have := HVL.out _ hs; omega)
    have HA := Lib.hid hA
    have G4 := Lib.hid hG4
    have HLE : Hid (m ≤ 300) := Lib.hid htl
    clear hA hG4 G3 H3
    go_wp2_with fail
    go_loopw [7] (fun i wr => ∃ j t', j ≤ m ∧ i = .int .i64 ((j : Nat) : Int) ∧ Hid (OwnB wr (.slice (some ⟨g, 0, none⟩) m c) t' ∧ t'.length = m) ∧ Hid (Only (fun k' => g = k') w4 wr)) (fun i _ => m - (intOf i).toNat)
    case atStart => exact ⟨0, t, by omega, rfl, Lib.hid ⟨G4.out, HM.out⟩, Lib.hid (Only.refl _ _)⟩
    case round =>
      obtain ⟨j, t', hj, rfl, HT, HOW⟩ := hrel
      by_cases hjm : j < m
      · have hrd := (HT.out.1.reads HT.out.2.symm)
        have hcell : wr.cell? ⟨g, j, none⟩ = some (.int .u8 ((t'.getD j 0 : Nat) : Int)) := by
          obtain ⟨b', off', hb', hc'⟩ := hrd.2.2.2.resolve_left (by omega)
          obtain ⟨rfl, rfl⟩ : g = b' ∧ 0 = off' := by simpa using hb'
          have := hc' j hjm
          rw [Nat.zero_add] at this; exact this
        have hclt := getD_lt t' HT.out.1.2.1 j
        have hown := HT.out.1.1
        rw [HT.out.2] at hown
        have hfr := hown.frozenAt j
        obtain ⟨d, hd⟩ : ∃ d, t'.getD j 0 = d := ⟨_, rfl⟩
        rw [hd] at hcell hclt
        have hx := u8_xor_nat d 1 hclt (by omega)
        have hxl : d ^^^ 1 < 256 := Nat.xor_lt_two_pow (n := 8) hclt (by omega)
        obtain ⟨d', hd'⟩ : ∃ d', d ^^^ 1 = d' := ⟨_, rfl⟩
        rw [hd'] at hx hxl
        rw [show (((1 : Nat) : Int)) = 1 from rfl] at hx
        have HN : Hid (OwnB (wr.setCell ⟨g, j, none⟩ (.int .u8 (d' : Int))) (.slice (some ⟨g, 0, none⟩) m c) (t'.set j d') ∧ (t'.set j d').length = m) := Lib.hid (by
          refine ⟨⟨?_, ?_, ?_⟩, by rw [List.length_set]; exact HT.out.2⟩
          · have := (hown.stored j (.int .u8 (d' : Int))).1
            rw [bv_set] at this
            rw [List.length_set, HT.out.2]; exact this
          · intro z hz
            rcases List.mem_or_eq_of_mem_set hz with h1 | h1
            · exact HT.out.1.2.1 z h1
            · rw [h1]; exact hxl
          · rw [List.length_set, HT.out.2]; unfold maxLen; omega)
        have HOW2 : Hid (Only (fun k' => g = k') w4 (wr.setCell ⟨g, j, none⟩ (.int .u8 (d' : Int)))) := Lib.hid (HOW.out.setCell (p := ⟨g, j, none⟩) (.inl rfl) _)
        clear hrd hown hd hd' HT HOW
        go_wp2_with fail
        go_roundw
        case rel => exact ⟨j + 1, t'.set j d', by omega, by go_num, HN, HOW2⟩
        case measure => simp [intOf]; omega
      · obtain rfl : j = m := by omega
        go_wp2
        refine bodyPost_ret (v := .string (strN (enc t.length ++ t))) (by simp [results, Try.results15, go_sem]) rfl ⟨by rw [HP.out], ?_⟩
        rw [HP.out, HE.out, HM.out]
        obtain ⟨v4, hW4, hO4, hK4⟩ := HA.out
        have ho4 : Only (fun k' => k' = p ∨ v.ownBlock = some k') w w4 := (O3.out.mono (fun _ _ f => f.elim)).then hO4 (fun i _ h => h)
        refine ⟨v4, hW4.only HOW.out (fun e => by have := HPL.out; omega) (fun k' hk' e => ?_), ho4.then HOW.out (fun i hi e => by omega), fun k' hk' => ?_⟩
        · rcases hK4 k' hk' with h1 | h1
          · have := HVL.out _ h1; omega
          · have := HS3.out; omega
        · rcases hK4 k' hk' with h1 | h1
          · exact .inl h1
          · have := O3.out.size; exact .inr (by omega)
end Go.Proofs.Ytdeljhkombbncab.codw
