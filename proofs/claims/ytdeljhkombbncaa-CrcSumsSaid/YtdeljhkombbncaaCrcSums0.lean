/- CrcSums's walk, and how its argument opens. -/
import Derived.Test.YtdeljhkombbncaaCrcFew
import Derived.Test.YtdeljhkombbncaaCrcKnown
import Derived.Deep.Slices
import Derived.OpenShut
import Derived.ChangeOld
namespace Go.Proofs.Ytdeljhkombbncaa.crca
open Go.RowKit mem
open crcw (strN)
open Go.ChangeShapes Go.WideShapes Go.ChangeAt
set_option linter.unusedVariables false

section
variable {H : Type} {enc : TypeId × Value → H} {w : World} {base : Nat}

theorem bytes_of_trod {fuel : Nat} {c : Value} {x : DataW H × List MemPlace} (h : DataW.trod enc Try.prog w base (fun _ => true) true fuel 61 [c] = some x) :
    ∃ a len cap l, c = .slice a len cap ∧ Bytes w a len cap l := by
  rcases open_ints Try.underlying61 Try.underlying5 (by kernel_rfl) h with ⟨hcs, _⟩ | ⟨x, l, c', zs, hcs, _, hl, hm, hz, _, hcell, hwz⟩
  · simp at hcs
    obtain ⟨l, hl⟩ := bytes_of_row (w := w) (a := none) (len := 0) (cap := 0) (zs := []) (.inl ⟨rfl, rfl, rfl, rfl⟩)
    exact ⟨none, 0, 0, l, hcs, hl⟩
  · simp at hcs
    obtain ⟨l', hl'⟩ := bytes_of_row (w := w) (a := some x) (len := l) (cap := c') (zs := zs) (.inr ⟨x, rfl, hl, hm, by simpa using hz, hcell, hwz⟩)
    exact ⟨some x, l, c', l', hcs, hl'⟩

theorem parts_openB {fuel : Nat} {ao : Option Addr} {len cap : Nat} {x : DataW H × List MemPlace} (h : DataW.trod enc Try.prog w base (fun _ => true) true fuel 45 [.slice ao len cap] = some x) :
    ∃ ls, PartsB w ao len ls := by
  rcases Go.Deep.open_slice Try.underlying45 h with ⟨hcs, _⟩ | ⟨a, len2, cap2, m, n, D, Pl, hcs, hb, hl, hm, hmm, hx, hi⟩
  · simp at hcs; exact ⟨[], by simp [hcs.2.1], by omega, .inl hcs.2.1⟩
  · simp at hcs
    obtain ⟨rfl, rfl, rfl⟩ := hcs
    unfold maxLen at hm
    simp at hmm
    have hC : Try.prog.cellsOf 61 = 1 := by kernel_rfl
    rw [hC] at hi
    have key : ∀ i, i < len → ∃ l a' len' cap', w.cell? (a.add (i * 1)) = some (.slice a' len' cap') ∧ Bytes w a' len' cap' l := by
      intro i hil
      obtain ⟨cs', hc, ht'⟩ := hi i (by omega)
      obtain ⟨_, hcl, hat⟩ := World.cells?_some hc
      match cs', hcl, hat, ht' with
      | [c0], _, hat, ht' =>
        obtain ⟨a', len', cap', l', hs, hB⟩ := bytes_of_trod ht'
        subst hs
        have h0 := hat 0 (by omega)
        refine ⟨l', a', len', cap', ?_, hB⟩
        simpa [Addr.add] using h0
    have key2 : ∀ i, ∃ l, i < len → ∃ a' len' cap', w.cell? (a.add (i * 1)) = some (.slice a' len' cap') ∧ Bytes w a' len' cap' l := by
      intro i
      by_cases h : i < len
      · obtain ⟨l, hl⟩ := key i h; exact ⟨l, fun _ => hl⟩
      · exact ⟨[], fun f => absurd f h⟩
    refine ⟨(List.range len).map fun i => Classical.choose (key2 i), by simp, by omega, ?_⟩
    by_cases h0 : len = 0
    · exact .inl h0
    · obtain ⟨b, off, spot⟩ := a
      obtain ⟨_, _, _, _, d0, _⟩ := key 0 (by omega)
      have hspot : spot = none := by simpa [Addr.add] using World.cell?_spot d0
      subst hspot
      refine .inr ⟨b, off, rfl, fun i hil => ?_⟩
      obtain ⟨a', len', cap', d1, d2⟩ := Classical.choose_spec (key2 i) hil
      rw [add_none, Nat.mul_one] at d1
      refine ⟨a', len', cap', d1, ?_⟩
      have e : ((List.range len).map fun i => Classical.choose (key2 i)).getD i [] = Classical.choose (key2 i) := by simp [List.getD, hil]
      rw [e]; exact d2
end

theorem parts_crc {w : World} {a : Option Addr} {m : Nat} {ls : List (List Nat)} (h : PartsS w a m ls) (hm : m ≤ 8) : crcw.Parts w a m ls := by
  refine ⟨h.1, by unfold maxLen; omega, ?_⟩
  rcases h.2 with h0 | ⟨b, off, ha, hc⟩
  · exact .inl h0
  · refine .inr ⟨b, off, ha, fun i hi => ?_⟩
    obtain ⟨x, len, cap, h1, h2⟩ := hc i hi
    exact ⟨some x, len, cap, h1, h2⟩

theorem parts_bytes {w : World} {a : Option Addr} {m : Nat} {ls : List (List Nat)} (h : PartsS w a m ls) : ∀ c ∈ ls.flatten, c < 256 := by
  intro c hc
  obtain ⟨l, hl, hcl⟩ := List.mem_flatten.1 hc
  obtain ⟨i, hi, rfl⟩ := List.mem_iff_getElem.1 hl
  rcases h.2 with h0 | ⟨b, off, ha, hq⟩
  · have := h.1; omega
  · obtain ⟨x, len, cap, h1, h2⟩ := hq i (by have := h.1; omega)
    refine h2.2.2.1 c ?_
    rw [show ls.getD i [] = ls[i] by simp [List.getD, hi]]
    exact hcl

set_option maxRecDepth 100000 in
set_option maxHeartbeats 1000000 in
theorem csums_walk (a : Option Addr) (n cap : Nat) (ls : List (List Nat)) (w : World) (h : PartsB w a n ls) :
    Calls Try.prog 8 #[.slice a n cap] w fun en w' => en = .returned (.bool true) ∧ Below w.heap.size w w' := by
  have H := Lib.hid h
  clear h
  go_enter Try.func8, Try.ntmps8
  go_wp2_with fail
  refine (few_any a n cap ls _ H.out).mono ?_
  rintro e1 w1 ⟨a2, m, c2, ls2, rfl, hP, hm8, hs, hO1⟩
  have HP := Lib.hid hP
  have HS := Lib.hid hs
  clear hP hs
  go_wp2_with fail
  refine (all_any a2 m c2 ls2 _ HP.out hm8 HS.out).mono ?_
  rintro e2 w2 ⟨rfl, hO2⟩
  have HP2 := Lib.hid (HP.out.only hO2)
  have HB := Lib.hid (parts_bytes HP.out)
  have HF : Hid (ls2.flatten.length ≤ 1000000) := Lib.hid (by
    have h1 := flat_len ls2 HS.out
    have h2 := HP.out.1
    rw [h2] at h1; omega)
  have HSF := Lib.hid (crcw.sum_flat ls2)
  obtain ⟨l, hl⟩ : ∃ l, ls2.flatten = l := ⟨_, rfl⟩
  rw [hl] at HB HF HSF ⊢
  obtain ⟨S, HST⟩ : ∃ S, Hid (strN l = S) := ⟨_, Lib.hid rfl⟩
  rw [HST.out]
  go_wp2_with fail
  refine (crcw.sums_any _).mono ?_
  rintro e3 w3 ⟨rfl, hb3⟩
  have hO3 := Only.of_below hb3
  have HP3 := Lib.hid (HP2.out.only hO3)
  have O3 := Lib.hid ((hO1.trans hO2).trans hO3)
  clear hb3 hO1 hO2 hO3
  go_wp2_with fail
  refine (crcw.sum_any a2 m c2 ls2 _ (parts_crc HP3.out hm8)).mono ?_
  rintro e4 w4 ⟨rfl, rfl⟩
  rw [HSF.out]
  have HR := Lib.hid (crcw.rsum_text l w3 HF.out HB.out)
  rw [HST.out] at HR
  generalize crcm.more 0 l = X at *
  go_wp2_with fail
  refine HR.out.mono ?_
  rintro e5 w5 ⟨rfl, rfl⟩
  go_wp2_with fail
  have HA := Lib.hid (all_any a2 m c2 ls2 w3 HP3.out hm8 HS.out)
  rw [hl, HST.out] at HA
  refine HA.out.mono ?_
  rintro e6 w6 ⟨rfl, hO6⟩
  have O6 := Lib.hid (O3.out.trans hO6)
  clear hO6
  go_wp2_with fail
  go_ret
  exact ⟨rfl, O6.out.none⟩
end Go.Proofs.Ytdeljhkombbncaa.crca
