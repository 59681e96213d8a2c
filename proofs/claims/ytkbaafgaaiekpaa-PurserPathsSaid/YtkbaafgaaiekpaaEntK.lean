/- Entries: the law's own entries: tame, to and from. -/
import Derived.Test.YtkbaafgaaiekpaaEntI
namespace Go.Proofs.Ytkbaafgaaiekpaa.entw
open Go.RowKit mem entm
set_option linter.unusedVariables false

/-- legs that are handed in -/
def LegsR (w : World) (a : Option Addr) (len cap : Nat) (ls : List Lg) : Prop := ReadsL w a len ls ∧ len ≤ cap ∧ cap ≤ 9223372036854775807 ∧ (a = none → cap = 0)

theorem ReadsL.take {w : World} {a : Option Addr} {len : Nat} {ls : List Lg} (h : ReadsL w a len ls) (n : Nat) (hn : n ≤ len) : ReadsL w a n (ls.take n) := by
  obtain ⟨hl, hm, hb, hc⟩ := h
  refine ⟨by simp; omega, by omega, fun c hc' => hb c (List.mem_of_mem_take hc'), ?_⟩
  rcases hc with h0 | ⟨b, off, ha, hcell⟩
  · exact .inl (by omega)
  · refine .inr ⟨b, off, ha, fun i hi => ?_⟩
    have : (ls.take n).getD i default = ls.getD i default := by simp [List.getD, hi]
    rw [this]; exact hcell i (by omega)

/-- a row of the call's own reads as legs -/
theorem own_reads {w : World} {t : TypeId} {base g n cap : Nat} {ls : List Lg} (h : w.ownsRow base t 4 (.slice (some ⟨g, 0, none⟩) n cap) n (lv ls)) (hm : n ≤ 9223372036854775807) (hb : ∀ l ∈ ls, InL l) : ReadsL w (some ⟨g, 0, none⟩) n ls := by
  have hl : ls.length = n := by have := h.1; rw [lv_length] at this; omega
  refine ⟨hl, hm, hb, .inr ⟨g, 0, rfl, fun i hi => ?_⟩⟩
  have e : ∀ c, c < 4 → w.cell? ⟨g, 0 + i * 4 + c, none⟩ = (encL (ls.getD i default))[c]? := fun c hc => by
    rw [Nat.zero_add, h.cellAt (i * 4 + c) (by omega), lv_get ls i c (by omega) hc]
  exact ⟨e 0 (by omega), e 1 (by omega), e 2 (by omega), e 3 (by omega)⟩

theorem newsR {w : World} {x : Addr} {n : Nat} {ls : List Lg} (h : ReadsL w (some x) n ls) : ∀ j u, (lv ls)[j]? = some u → w.cell? (x.add j) = some u := by
  intro j u hu
  have hj : j < ls.length * 4 := by
    rcases Nat.lt_or_ge j (ls.length * 4) with h' | h'
    · exact h'
    · rw [List.getElem?_eq_none (by rw [lv_length]; exact h')] at hu; cases hu
  rcases h.2.2.2 with h0 | ⟨b, off, ha, hc⟩
  · have := h.1; omega
  · obtain rfl : x = ⟨b, off, none⟩ := by injection ha
    rw [add_none]
    exact news_legs h j u hu

def TamedAt (kind : Int) (ls : List Lg) (w : World) (e : Ending) (w' : World) : Prop :=
  ∃ g cp, e = .returned (.agg #[.int .i64 kind, .slice (some ⟨g, 0, none⟩) ls.length cp]) ∧ ReadsL w' (some ⟨g, 0, none⟩) ls.length ls ∧ ls.length ≤ cp ∧ w.heap.size ≤ g ∧ Only (fun _ => False) w w'

theorem form_own {w : World} {base n size : Nat} {e : TypeId} {v : Value} {xs : List Value} (h : w.ownsRow base e size v n xs) (hne : v ≠ .slice none 0 0) : ∃ g cap, v = .slice (some ⟨g, 0, none⟩) n cap ∧ base ≤ g ∧ n ≤ cap := by
  rcases h.2 with ⟨hv, _⟩ | ⟨g, cap, cur, hv, hg, hh, hc, hm, _⟩
  · exact absurd hv hne
  · exact ⟨g, cap, hv, hg, hc⟩

/-- a struct of two cells and its result's two, behind new blocks and draws -/
structure TwoTwo (w w3 : World) (k : Value) (v : Value) : Prop where
  c0 : w3.cell? ⟨w.heap.size, 0, none⟩ = some k
  c1 : w3.cell? ⟨w.heap.size, 1, none⟩ = some v
  f1 : w3.frozen? ⟨w.heap.size, 1, none⟩ = false
  r0 : ∃ u, w3.cell? ⟨w.heap.size + 1, 0, none⟩ = some u
  r1 : ∃ u, w3.cell? ⟨w.heap.size + 1, 1, none⟩ = some u
  g0 : w3.frozen? ⟨w.heap.size + 1, 0, none⟩ = false
  g1 : w3.frozen? ⟨w.heap.size + 1, 1, none⟩ = false
  only : Only (fun _ => False) w w3
theorem TwoTwo.start (w : World) (k v x y : Value) (t t2 : TypeId) : TwoTwo w ((w.alloc (.cells #[k, v] t)).alloc (.cells #[x, y] t2)) k v := by
  have h1 : Only (fun _ => False) (w.alloc (.cells #[k, v] t)) ((w.alloc (.cells #[k, v] t)).alloc (.cells #[x, y] t2)) := (Only.refl _ _).alloc _
  exact ⟨h1.cell' (alloc_new _ _ _ _ _ _ rfl rfl) (fun f => f), h1.cell' (alloc_new _ _ _ _ _ _ rfl rfl) (fun f => f), by simp, ⟨_, alloc_new _ _ _ _ _ _ (by simp) rfl⟩, ⟨_, alloc_new _ _ _ _ _ _ (by simp) rfl⟩, by simp, by simp, ((Only.refl _ w).alloc _).alloc _⟩
theorem TwoTwo.next {S : Nat → Prop} {w w3 w4 : World} {k v : Value} (h : TwoTwo w w3 k v) (ho : Only S w3 w4) (hs : ∀ q, S q → w.heap.size + 2 ≤ q) : TwoTwo w w4 k v := by
  obtain ⟨u0, r0⟩ := h.r0
  obtain ⟨u1, r1⟩ := h.r1
  have a0 : ¬ S w.heap.size := fun e => by have := hs _ e; omega
  have a1 : ¬ S (w.heap.size + 1) := fun e => by have := hs _ e; omega
  have l0 := World.block_lt_of_cell? w3 _ h.c0
  have l1 := World.block_lt_of_cell? w3 _ r0
  exact ⟨ho.cell' h.c0 a0, ho.cell' h.c1 a0, (ho.frozen (p := ⟨w.heap.size, 1, none⟩) l0 a0).trans h.f1, ⟨u0, ho.cell' r0 a1⟩, ⟨u1, ho.cell' r1 a1⟩, (ho.frozen (p := ⟨w.heap.size + 1, 0, none⟩) l1 a1).trans h.g0, (ho.frozen (p := ⟨w.heap.size + 1, 1, none⟩) l1 a1).trans h.g1, h.only.then ho (fun q hq e => by have := hs q e; omega)⟩
/-- the struct's second cell stored, then both into the result -/
theorem TwoTwo.ends {w w3 : World} {k v v' : Value} (h : TwoTwo w w3 k v) :
    ((((w3.setCell ⟨w.heap.size, 1, none⟩ v').setCell ⟨w.heap.size + 1, 0, none⟩ k).cell? ⟨w.heap.size + 1, 0, none⟩ = some k) ∧
    ((((w3.setCell ⟨w.heap.size, 1, none⟩ v').setCell ⟨w.heap.size + 1, 0, none⟩ k).setCell ⟨w.heap.size + 1, 1, none⟩ v').cell? ⟨w.heap.size + 1, 1, none⟩ = some v')) ∧
    (w3.setCell ⟨w.heap.size, 1, none⟩ v').cell? ⟨w.heap.size, 1, none⟩ = some v' ∧
    Only (fun q => q = w.heap.size ∨ q = w.heap.size + 1) w3 (((w3.setCell ⟨w.heap.size, 1, none⟩ v').setCell ⟨w.heap.size + 1, 0, none⟩ k).setCell ⟨w.heap.size + 1, 1, none⟩ v') := by
  obtain ⟨u0, r0⟩ := h.r0
  obtain ⟨u1, r1⟩ := h.r1
  have q : ∀ j u, w3.cell? ⟨w.heap.size + 1, j, none⟩ = some u → (w3.setCell ⟨w.heap.size, 1, none⟩ v').cell? ⟨w.heap.size + 1, j, none⟩ = some u := fun j u hu => by
    rw [cell_other (fun e => by injection e with e; omega)]; exact hu
  exact ⟨set_two (q 0 _ r0) (q 1 _ r1), cell_same h.c1, (((Only.refl (fun q => q = w.heap.size ∨ q = w.heap.size + 1) w3).setCell (p := ⟨w.heap.size, 1, none⟩) (.inl (.inl rfl)) v').setCell (p := ⟨w.heap.size + 1, 0, none⟩) (.inl (.inr rfl)) k).setCell (p := ⟨w.heap.size + 1, 1, none⟩) (.inl (.inr rfl)) v'⟩

end Go.Proofs.Ytkbaafgaaiekpaa.entw
