/- Memory: slices of ints, read and of the call's own. -/
import Derived.Test.YthflglejhhebeaaMem
namespace Go.Proofs.Ythflglejhhebeaa.mem
open Go.RowKit
set_option linter.unusedVariables false

/-- a slice's ints -/
def ReadsI (w : World) (a : Option Addr) (len : Nat) (l : List Int) : Prop :=
  l.length = len ∧ len ≤ maxLen ∧ (∀ c ∈ l, -9223372036854775808 ≤ c ∧ c ≤ 9223372036854775807) ∧
  (len = 0 ∨ ∃ b off, a = some ⟨b, off, Option.none⟩ ∧ ∀ i, i < len → w.cell? ⟨b, off + i, Option.none⟩ = some (.int .i64 (l.getD i 0)))

theorem ReadsI.take {w : World} {a : Option Addr} {len : Nat} {l : List Int} (h : ReadsI w a len l) (n : Nat) (hn : n ≤ len) : ReadsI w a n (l.take n) := by
  obtain ⟨hl, hm, hb, hc⟩ := h
  refine ⟨by simp; omega, by omega, fun c hc' => hb c (List.mem_of_mem_take hc'), ?_⟩
  rcases hc with h0 | ⟨b, off, ha, hcell⟩
  · exact .inl (by omega)
  · refine .inr ⟨b, off, ha, fun i hi => ?_⟩
    have : (l.take n).getD i 0 = l.getD i 0 := by simp [List.getD, hi]
    rw [this]; exact hcell i (by omega)

theorem ReadsI.only {S : Nat → Prop} {w w' : World} {a : Option Addr} {len : Nat} {l : List Int} (h : ReadsI w a len l) (ho : Only S w w') (hs : ∀ x, a = some x → ¬ S x.block) : ReadsI w' a len l := by
  obtain ⟨hl, hm, hb', hc⟩ := h
  refine ⟨hl, hm, hb', ?_⟩
  rcases hc with h0 | ⟨b, off, ha, hcell⟩
  · exact .inl h0
  · exact .inr ⟨b, off, ha, fun i hi => ho.cell' (hcell i hi) (show ¬ S b from hs _ ha)⟩

def IntsR (w : World) (a : Option Addr) (len cap : Nat) (l : List Int) : Prop :=
  ReadsI w a len l ∧ len ≤ cap ∧ cap ≤ maxLen ∧ (a = Option.none → cap = 0)

theorem in_getD (l : List Int) (h : ∀ c ∈ l, -9223372036854775808 ≤ c ∧ c ≤ 9223372036854775807) (k : Nat) : -9223372036854775808 ≤ l.getD k 0 ∧ l.getD k 0 ≤ 9223372036854775807 := by
  by_cases hk : k < l.length
  · have : l.getD k 0 = l[k] := by simp [List.getD, hk]
    rw [this]; exact h _ (List.getElem_mem hk)
  · have : l.getD k 0 = 0 := by simp [List.getD, List.getElem?_eq_none (by omega : l.length ≤ k)]
    omega

theorem getD_take (zs : List Int) (len i : Nat) (hi : i < len) : (zs.take len).getD i 0 = zs.getD i 0 := by
  simp [List.getD, hi]

theorem ints_of_row {w : World} {a : Option Addr} {len cap : Nat} {zs : List Int} (h : IsRow .i64 w a len cap zs) : ∃ l, IntsR w a len cap l := by
  rcases h with ⟨rfl, rfl, rfl, rfl⟩ | ⟨x, rfl, hl, hm, hz, hcell, hwz⟩
  · exact ⟨[], ⟨rfl, by unfold maxLen; omega, by simp, .inl rfl⟩, Nat.le_refl _, by unfold maxLen; omega, fun _ => rfl⟩
  · refine ⟨zs.take len, ⟨by simp; omega, by omega, ?_, ?_⟩, hl, hm, by simp⟩
    · intro c hc
      exact int_of_wf (hwz c (List.mem_of_mem_take hc))
    · by_cases h0 : len = 0
      · exact .inl h0
      · obtain ⟨b, off, spot⟩ := x
        have hc := hcell 0 (by omega)
        have hspot : spot = Option.none := by simpa [Addr.add] using World.cell?_spot hc
        subst hspot
        refine .inr ⟨b, off, rfl, fun i hi => ?_⟩
        have hc2 := hcell i (by omega)
        rw [getD_take zs len i hi]
        rw [add_none] at hc2; exact hc2

theorem info_i64 : (Try.prog.info? 3).map (fun i => (i.zero, i.size, i.bytes)) = some (some (.int .i64 0), 1, 8) := by kernel_rfl

def iv (l : List Int) : List Value := l.map fun c => Value.int .i64 c
theorem iv_length (l : List Int) : (iv l).length = l.length := by simp [iv]
theorem iv_get (l : List Int) (i : Nat) (h : i < l.length) : (iv l)[i]? = some (.int .i64 (l.getD i 0)) := by
  simp [iv, List.getD, h]
theorem iv_one (l : List Int) : ∀ u ∈ iv l, u.oneCell' = true := by
  intro u hu; simp only [iv, List.mem_map] at hu; obtain ⟨c, _, rfl⟩ := hu; rfl

theorem ReadsI.of_owns {w : World} {base n cap g : Nat} {l : List Int} (h : w.ownsRow base 3 1 (.slice (some ⟨g, 0, none⟩) n cap) n (iv l)) (hm : n ≤ maxLen) (hb : ∀ c ∈ l, -9223372036854775808 ≤ c ∧ c ≤ 9223372036854775807) : ReadsI w (some ⟨g, 0, none⟩) n l := by
  have hl : l.length = n := by have := h.1; rw [iv_length] at this; omega
  refine ⟨hl, hm, hb, .inr ⟨g, 0, rfl, fun i hi => ?_⟩⟩
  rw [Nat.zero_add, h.cellAt i (by omega), iv_get l i (by omega)]

theorem newsI {w : World} {x : Addr} {n : Nat} {l : List Int} (h : ReadsI w (some x) n l) : ∀ j u, (iv l)[j]? = some u → w.cell? (x.add j) = some u := by
  intro j u hu
  obtain ⟨hl, _, _, hc⟩ := h
  have hj : j < l.length := by
    rcases Nat.lt_or_ge j l.length with h' | h'
    · exact h'
    · rw [List.getElem?_eq_none (by rw [iv_length]; exact h')] at hu; cases hu
  rcases hc with h0 | ⟨b, off, hx, hcell⟩
  · omega
  · obtain rfl : x = ⟨b, off, Option.none⟩ := by simpa using hx
    rw [add_none, hcell j (by omega), ← iv_get l j hj, hu]
end Go.Proofs.Ythflglejhhebeaa.mem
