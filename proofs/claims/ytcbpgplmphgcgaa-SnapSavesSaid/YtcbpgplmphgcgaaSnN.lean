/- Rows of bytes that came in; SnapTurns' slots as mathematics. -/
import Derived.Test.YtcbpgplmphgcgaaSnL
import Derived.Deep.Slices
import Derived.OpenShut
import Derived.ChangeOld
namespace Go.Proofs.Ytcbpgplmphgcgaa.snw
open Go.RowKit mem snm crcm dskw
open Go.ChangeShapes Go.WideShapes Go.ChangeAt
set_option linter.unusedVariables false

/-- slices of bytes that came in -/
def PB (w : World) (a : Option Addr) (n : Nat) (ls : List (List Nat)) : Prop :=
  ls.length = n ∧ n ≤ 9223372036854775807 ∧ (n = 0 ∨ ∃ b off, a = some ⟨b, off, Option.none⟩ ∧ ∀ i, i < n → ∃ a' len cap, w.cell? ⟨b, off + i, Option.none⟩ = some (.slice a' len cap) ∧ Bytes w a' len cap (ls.getD i []))
theorem PB.only {w w' : World} {a : Option Addr} {n : Nat} {ls : List (List Nat)} (h : PB w a n ls) (ho : Only (fun _ => False) w w') : PB w' a n ls := by
  refine ⟨h.1, h.2.1, ?_⟩
  rcases h.2.2 with h0 | ⟨b, off, ha, hc⟩
  · exact .inl h0
  · refine .inr ⟨b, off, ha, fun i hi => ?_⟩
    obtain ⟨a', len, cap, h1, h2⟩ := hc i hi
    exact ⟨a', len, cap, ho.cell' h1 (fun f => f), h2.only ho (fun _ _ f => f)⟩
section
variable {H : Type} {enc : TypeId × Value → H} {w : World} {base : Nat}

theorem pb_bytes {fuel : Nat} {c : Value} {x : DataW H × List MemPlace} (h : DataW.trod enc Try.prog w base (fun _ => true) true fuel 47 [c] = some x) :
    ∃ a len cap l, c = .slice a len cap ∧ Bytes w a len cap l := by
  rcases open_ints Try.underlying47 Try.underlying5 (by kernel_rfl) h with ⟨hcs, _⟩ | ⟨x, l, c', zs, hcs, _, hl, hm, hz, _, hcell, hwz⟩
  · simp at hcs
    obtain ⟨l, hl⟩ := bytes_of_row (w := w) (a := none) (len := 0) (cap := 0) (zs := []) (.inl ⟨rfl, rfl, rfl, rfl⟩)
    exact ⟨none, 0, 0, l, hcs, hl⟩
  · simp at hcs
    obtain ⟨l', hl'⟩ := bytes_of_row (w := w) (a := some x) (len := l) (cap := c') (zs := zs) (.inr ⟨x, rfl, hl, hm, by simpa using hz, hcell, hwz⟩)
    exact ⟨some x, l, c', l', hcs, hl'⟩

theorem pb_open {fuel : Nat} {ao : Option Addr} {len cap : Nat} {x : DataW H × List MemPlace} (h : DataW.trod enc Try.prog w base (fun _ => true) true fuel 23 [.slice ao len cap] = some x) :
    ∃ ls, PB w ao len ls := by
  rcases Go.Deep.open_slice Try.underlying23 h with ⟨hcs, _⟩ | ⟨a, len2, cap2, m, n, D, Pl, hcs, hb, hl, hm, hmm, hx, hi⟩
  · simp at hcs; exact ⟨[], by simp [hcs.2.1], by omega, .inl hcs.2.1⟩
  · simp at hcs
    obtain ⟨rfl, rfl, rfl⟩ := hcs
    unfold maxLen at hm
    simp at hmm
    have hC : Try.prog.cellsOf 47 = 1 := by kernel_rfl
    rw [hC] at hi
    have key : ∀ i, i < len → ∃ l a' len' cap', w.cell? (a.add (i * 1)) = some (.slice a' len' cap') ∧ Bytes w a' len' cap' l := by
      intro i hil
      obtain ⟨cs', hc, ht'⟩ := hi i (by omega)
      obtain ⟨_, hcl, hat⟩ := World.cells?_some hc
      match cs', hcl, hat, ht' with
      | [c0], _, hat, ht' =>
        obtain ⟨a', len', cap', l', hs, hB⟩ := pb_bytes ht'
        subst hs
        have h0 := hat 0 (by omega)
        refine ⟨l', a', len', cap', ?_, hB⟩
        simpa [Addr.add] using h0
    have key2 : ∀ i, ∃ l, i < len → ∃ a' len' cap', w.cell? (a.add (i * 1)) = some (.slice a' len' cap') ∧ Bytes w a' len' cap' l := by
      intro i
      by_cases h : i < len
      · obtain ⟨l, hl⟩ := key i h; exact ⟨l, fun _ => hl⟩
      · exact ⟨[], fun f => absurd f h⟩
    refine ⟨(List.range len).map fun i => Classical.choose (key2 i), by simp, by omega, ?_⟩
    by_cases h0 : len = 0
    · exact .inl h0
    · obtain ⟨b, off, spot⟩ := a
      obtain ⟨_, _, _, _, d0, _⟩ := key 0 (by omega)
      have hspot : spot = none := by simpa [Addr.add] using World.cell?_spot d0
      subst hspot
      refine .inr ⟨b, off, rfl, fun i hil => ?_⟩
      obtain ⟨a', len', cap', d1, d2⟩ := Classical.choose_spec (key2 i) hil
      rw [add_none, Nat.mul_one] at d1
      refine ⟨a', len', cap', d1, ?_⟩
      have e : ((List.range len).map fun i => Classical.choose (key2 i)).getD i [] = Classical.choose (key2 i) := by simp [List.getD, hil]
      rw [e]; exact d2
end
/-- the generation that a slot has behind k images -/
def gk (odd k : Nat) : Nat := if k % 2 = odd then k else k - 1
def TurnF (F : Nat → List Nat) (k : Nat) (l0 l1 : List Nat) : Prop := parse (secs F 2 9) 0 = (gk 0 k, l0) ∧ parse (secs F 11 9) 1 = (gk 1 k, l1)
theorem TurnF.start : TurnF zF 0 [] [] := ⟨parse_zF _ _ _ (by omega), parse_zF _ _ _ (by omega)⟩
theorem TurnF.step0 {F : Nat → List Nat} {k : Nat} {l0 l1 : List Nat} (h : TurnF F k l0 l1) (b : List Nat) (hb : b.length ≤ 500) (hk : k ≤ 100) (h2 : (k + 1) % 2 = 0) : TurnF (saveF F (2 + (k + 1) % 2 * 9) (k + 1) b) (k + 1) b l1 := by
  have hn : 1 + nsec b.length ≤ 9 := by unfold nsec; omega
  have h1 := slot_parse F (2 + (k + 1) % 2 * 9) (k + 1) 9 b hn (by omega) (by omega) (by omega)
  have h3 := far_save F (2 + (k + 1) % 2 * 9) (k + 1) 9 b hn 11 9 (.inr (by omega))
  refine ⟨?_, ?_⟩
  · rw [h2] at h1 ⊢
    rw [show gk 0 (k + 1) = k + 1 from if_pos h2]
    exact h1
  · rw [h3, h.2]
    unfold gk
    rw [if_pos (by omega), if_neg (by omega)]
    rfl
theorem TurnF.step1 {F : Nat → List Nat} {k : Nat} {l0 l1 : List Nat} (h : TurnF F k l0 l1) (b : List Nat) (hb : b.length ≤ 500) (hk : k ≤ 100) (h2 : (k + 1) % 2 = 1) : TurnF (saveF F (2 + (k + 1) % 2 * 9) (k + 1) b) (k + 1) l0 b := by
  have hn : 1 + nsec b.length ≤ 9 := by unfold nsec; omega
  have h1 := slot_parse F (2 + (k + 1) % 2 * 9) (k + 1) 9 b hn (by omega) (by omega) (by omega)
  have h3 := far_save F (2 + (k + 1) % 2 * 9) (k + 1) 9 b hn 2 9 (.inl (by omega))
  refine ⟨?_, ?_⟩
  · rw [h3, h.1]
    unfold gk
    rw [if_pos (by omega), if_neg (by omega)]
    rfl
  · rw [h2] at h1 ⊢
    rw [show gk 1 (k + 1) = k + 1 from if_pos h2]
    exact h1
theorem TurnF.slots {F : Nat → List Nat} {k : Nat} {l0 l1 : List Nat} (h : TurnF F k l0 l1) : slotL F (fun _ => none) 2 9 0 = (gk 0 k, l0) ∧ slotL F (fun _ => none) 2 9 1 = (gk 1 k, l1) := by
  rw [slotL_none, slotL_none]
  exact h
/-- where the images stand -/
structure TInv (w wr : World) (p bl bm g5 k : Nat) : Prop where
  far : w.heap.size ≤ p ∧ w.heap.size ≤ bl ∧ w.heap.size ≤ bm ∧ w.heap.size ≤ g5
  ne : ¬ Dbl p bl bm g5
  only : Only (fun _ => False) w wr
  has : ∃ F l0 l1, DskAt wr p bl bm 20 F (fun _ => none) 0 false ∧ TurnF F k l0 l1 ∧ wr.cell? ⟨g5, 0, none⟩ = some (.string (strN l0)) ∧ wr.cell? ⟨g5, 1, none⟩ = some (.string (strN l1)) ∧ ∀ j, wr.frozen? ⟨g5, j, none⟩ = false
end Go.Proofs.Ytcbpgplmphgcgaa.snw
