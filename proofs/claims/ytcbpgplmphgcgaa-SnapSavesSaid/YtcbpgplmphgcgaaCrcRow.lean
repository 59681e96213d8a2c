/- A slice of bytes that came in, as a list of numbers. -/
import Derived.Test.YtcbpgplmphgcgaaCrcKnown
import Derived.ProofKit
namespace Go.Proofs.Ytcbpgplmphgcgaa.crcw
open Go.RowKit
open crcm

/-- what the walk is told of a slice of integers that came in -/
def IsRow (k : IntKind) (w : World) (a : Option Addr) (len cap : Nat) (zs : List Int) : Prop :=
  (a = none ∧ len = 0 ∧ cap = 0 ∧ zs = []) ∨
  ∃ x, a = some x ∧ len ≤ cap ∧ cap ≤ maxLen ∧ zs.length = cap ∧ (∀ i, i < zs.length → w.cell? (x.add i) = some (.int k (zs.getD i 0))) ∧ ∀ n ∈ zs, (Lit.int k n).wf = true

/-- nil; or no elements; or a row of bytes: with its address written out -/
def Bytes (w : World) (a : Option Addr) (len cap : Nat) (l : List Nat) : Prop :=
  Reads w a len l ∧ len ≤ cap ∧ cap ≤ maxLen ∧ (a = none → cap = 0)

theorem byte_of_wf {n : Int} (h : (Lit.int .u8 n).wf = true) : 0 ≤ n ∧ n < 256 := by
  have : 0 ≤ n ∧ n ≤ 255 := by simpa [Lit.wf, IntKind.min, IntKind.max, IntKind.signed, IntKind.bits] using h
  omega

theorem u32_of_wf {n : Int} (h : (Lit.int .u32 n).wf = true) : ∃ m : Nat, n = m ∧ m < 4294967296 := by
  have : 0 ≤ n ∧ n ≤ 4294967295 := by simpa [Lit.wf, IntKind.min, IntKind.max, IntKind.signed, IntKind.bits] using h
  exact ⟨n.toNat, by omega, by omega⟩

theorem getD_nat (zs : List Int) (len i : Nat) (hi : i < len) (hl : len ≤ zs.length) : ((zs.take len).map Int.toNat).getD i 0 = (zs.getD i 0).toNat := by
  have h1 : i < zs.length := by omega
  simp [List.getD, h1, hi]

theorem getD_mem (zs : List Int) (i : Nat) (hi : i < zs.length) : zs.getD i 0 ∈ zs := by
  have : zs.getD i 0 = zs[i] := by simp [List.getD, hi]
  rw [this]; exact List.getElem_mem hi

theorem add_none (b off i : Nat) : (Addr.mk b off none).add i = ⟨b, off + i, none⟩ := by
  unfold Addr.add
  by_cases h : i = 0
  · subst h; simp
  · simp [h]

theorem bytes_of_row {w : World} {a : Option Addr} {len cap : Nat} {zs : List Int} (h : IsRow .u8 w a len cap zs) : ∃ l, Bytes w a len cap l := by
  rcases h with ⟨rfl, rfl, rfl, rfl⟩ | ⟨x, rfl, hl, hm, hz, hcell, hwz⟩
  · exact ⟨[], ⟨rfl, by unfold maxLen; omega, by simp, .inl rfl⟩, Nat.le_refl _, by unfold maxLen; omega, fun _ => rfl⟩
  · refine ⟨(zs.take len).map Int.toNat, ⟨by simp; omega, by omega, ?_, ?_⟩, hl, hm, by simp⟩
    · intro c hc
      simp only [List.mem_map] at hc
      obtain ⟨z, hz', rfl⟩ := hc
      have := byte_of_wf (hwz z (List.mem_of_mem_take hz'))
      omega
    · by_cases h0 : len = 0
      · exact .inl h0
      · obtain ⟨b, off, spot⟩ := x
        have hc := hcell 0 (by omega)
        have hspot : spot = none := by simpa [Addr.add] using World.cell?_spot hc
        subst hspot
        refine .inr ⟨b, off, rfl, fun i hi => ?_⟩
        have hi2 : i < zs.length := by omega
        have hc2 := hcell i hi2
        have hw := byte_of_wf (hwz _ (getD_mem zs i hi2))
        rw [getD_nat zs len i hi (by omega)]
        rw [show (((zs.getD i 0).toNat : Nat) : Int) = zs.getD i 0 by omega]
        rw [add_none] at hc2; exact hc2

theorem Reads.take {w : World} {a : Option Addr} {len : Nat} {l : List Nat} (h : Reads w a len l) (n : Nat) (hn : n ≤ len) : Reads w a n (l.take n) := by
  obtain ⟨hl, hm, hb, hc⟩ := h
  refine ⟨by simp; omega, by omega, fun c hc' => hb c (List.mem_of_mem_take hc'), ?_⟩
  rcases hc with h0 | ⟨b, off, ha, hcell⟩
  · exact .inl (by omega)
  · refine .inr ⟨b, off, ha, fun i hi => ?_⟩
    have : (l.take n).getD i 0 = l.getD i 0 := by simp [List.getD, hi]
    rw [this]; exact hcell i (by omega)

theorem Reads.below {w w' : World} {a : Option Addr} {len : Nat} {l : List Nat} (h : Reads w a len l) (hb : Below w.heap.size w w') : Reads w' a len l := by
  obtain ⟨hl, hm, hb', hc⟩ := h
  refine ⟨hl, hm, hb', ?_⟩
  rcases hc with h0 | ⟨b, off, ha, hcell⟩
  · exact .inl h0
  · refine .inr ⟨b, off, ha, fun i hi => ?_⟩
    have h1 := hcell i hi
    have hlt : b < w.heap.size := by
      rcases Nat.lt_or_ge b w.heap.size with h' | h'
      · exact h'
      · simp [World.cell?, Array.getElem?_eq_none h'] at h1
    exact (hb.cell (p := ⟨b, off + i, none⟩) hlt).trans h1
end Go.Proofs.Ytcbpgplmphgcgaa.crcw
