/- The document's disk in memory, once it is made; what both have in common. -/
import Derived.Test.YtodmfljhojdbkaaDsk9
import Derived.Test.YtodmfljhojdbkaaStrM
namespace Go.Proofs.Ytodmfljhojdbkaa.dskw
open Go.RowKit mem
set_option linter.unusedVariables false

/-- the document's disk: what lasts, what was written last, which are in the cache -/
structure DdAt (w : World) (q bL bN bD n cL cN cD : Nat) (La No : Nat → List Nat) (Di : Nat → Bool) (armed : Int) (off : Bool) : Prop where
  c0 : w.cell? ⟨q, 0, none⟩ = some (.slice (some ⟨bL, 0, none⟩) n cL)
  c1 : w.cell? ⟨q, 1, none⟩ = some (.slice (some ⟨bN, 0, none⟩) n cN)
  c2 : w.cell? ⟨q, 2, none⟩ = some (.slice (some ⟨bD, 0, none⟩) n cD)
  c3 : w.cell? ⟨q, 3, none⟩ = some (.int .i64 armed)
  c4 : w.cell? ⟨q, 4, none⟩ = some (.bool off)
  f3 : w.frozen? ⟨q, 3, none⟩ = false
  f4 : w.frozen? ⟨q, 4, none⟩ = false
  rL : ∀ i, i < n → w.cell? ⟨bL, i, none⟩ = some (.string (strN (La i))) ∧ w.frozen? ⟨bL, i, none⟩ = false
  rN : ∀ i, i < n → w.cell? ⟨bN, i, none⟩ = some (.string (strN (No i))) ∧ w.frozen? ⟨bN, i, none⟩ = false
  rD : ∀ i, i < n → w.cell? ⟨bD, i, none⟩ = some (.bool (Di i)) ∧ w.frozen? ⟨bD, i, none⟩ = false
  n1 : bL ≠ q
  n2 : bN ≠ q
  n3 : bD ≠ q
  n4 : bL ≠ bN
  n5 : bL ≠ bD
  n6 : bN ≠ bD
  sL : ∀ i, i < n → (La i).length = 64 ∧ ∀ c ∈ La i, c < 256
  sN : ∀ i, i < n → (No i).length = 64 ∧ ∀ c ∈ No i, c < 256
  ar : 0 ≤ armed ∧ armed ≤ 9223372036854775807
  h1 : 1 ≤ n
  h7 : n ≤ 8192
def Dd4 (q bL bN bD : Nat) (k : Nat) : Prop := k = q ∨ k = bL ∨ k = bN ∨ k = bD
theorem DdAt.only {S : Nat → Prop} {w w' : World} {q bL bN bD n cL cN cD : Nat} {La No : Nat → List Nat} {Di : Nat → Bool} {armed : Int} {off : Bool} (h : DdAt w q bL bN bD n cL cN cD La No Di armed off) (ho : Only S w w') (hS : ∀ k, Dd4 q bL bN bD k → ¬ S k) : DdAt w' q bL bN bD n cL cN cD La No Di armed off := by
  have hq := hS q (.inl rfl)
  have hL := hS bL (.inr (.inl rfl))
  have hN := hS bN (.inr (.inr (.inl rfl)))
  have hD := hS bD (.inr (.inr (.inr rfl)))
  have lq : q < w.heap.size := World.block_lt_of_cell? w _ h.c0
  have g : ∀ (b i : Nat) (v : Value), ¬ S b → w.cell? ⟨b, i, none⟩ = some v ∧ w.frozen? ⟨b, i, none⟩ = false → w'.cell? ⟨b, i, none⟩ = some v ∧ w'.frozen? ⟨b, i, none⟩ = false := fun b i v hb hc =>
    ⟨ho.cell' hc.1 hb, (ho.frozen (p := ⟨b, i, none⟩) (World.block_lt_of_cell? w _ hc.1) hb).trans hc.2⟩
  exact ⟨ho.cell' h.c0 hq, ho.cell' h.c1 hq, ho.cell' h.c2 hq, ho.cell' h.c3 hq, ho.cell' h.c4 hq, (ho.frozen (p := ⟨q, 3, none⟩) lq hq).trans h.f3, (ho.frozen (p := ⟨q, 4, none⟩) lq hq).trans h.f4,
    fun i hi => g bL i _ hL (h.rL i hi), fun i hi => g bN i _ hN (h.rN i hi), fun i hi => g bD i _ hD (h.rD i hi), h.n1, h.n2, h.n3, h.n4, h.n5, h.n6, h.sL, h.sN, h.ar, h.h1, h.h7⟩
theorem DdAt.quiet {w w' : World} {q bL bN bD n cL cN cD : Nat} {La No : Nat → List Nat} {Di : Nat → Bool} {armed : Int} {off : Bool} (h : DdAt w q bL bN bD n cL cN cD La No Di armed off) (ho : Only (fun _ => False) w w') : DdAt w' q bL bN bD n cL cN cD La No Di armed off := h.only ho (fun _ _ f => f)
theorem cell_ne {w : World} {p q : Addr} {u v : Value} (h : w.cell? q = some v) (hn : q ≠ p) : (w.setCell p u).cell? q = some v := by rw [cell_other hn.symm]; exact h
theorem ad_ne {b b' i i' : Nat} (h : b ≠ b' ∨ i ≠ i') : (⟨b, i, none⟩ : Addr) ≠ ⟨b', i', none⟩ := by
  intro e
  injection e with e1 e2
  rcases h with h | h
  · exact h e1
  · exact h e2
def updB (D : Nat → Bool) (i : Nat) (b : Bool) : Nat → Bool := fun j => if j = i then b else D j
/-- a store of a bool, a string, a number into the disk -/
theorem DdAt.setN {w : World} {q bL bN bD n cL cN cD : Nat} {La No : Nat → List Nat} {Di : Nat → Bool} {armed : Int} {off : Bool} (h : DdAt w q bL bN bD n cL cN cD La No Di armed off) (i : Nat) (hi : i < n) (l : List Nat) (hl : l.length = 64 ∧ ∀ c ∈ l, c < 256) :
    DdAt (w.setCell ⟨bN, i, none⟩ (.string (strN l))) q bL bN bD n cL cN cD La (updL No i l) Di armed off := by
  have e := h.rN i hi
  refine ⟨cell_ne h.c0 (ad_ne (.inl h.n2.symm)), cell_ne h.c1 (ad_ne (.inl h.n2.symm)), cell_ne h.c2 (ad_ne (.inl h.n2.symm)), cell_ne h.c3 (ad_ne (.inl h.n2.symm)), cell_ne h.c4 (ad_ne (.inl h.n2.symm)), by rw [frozen_set]; exact h.f3, by rw [frozen_set]; exact h.f4, fun j hj => ⟨cell_ne (h.rL j hj).1 (ad_ne (.inl h.n4)), by rw [frozen_set]; exact (h.rL j hj).2⟩, fun j hj => ⟨?_, by rw [frozen_set]; exact (h.rN j hj).2⟩, fun j hj => ⟨cell_ne (h.rD j hj).1 (ad_ne (.inl h.n6.symm)), by rw [frozen_set]; exact (h.rD j hj).2⟩, h.n1, h.n2, h.n3, h.n4, h.n5, h.n6, h.sL, fun j hj => ?_, h.ar, h.h1, h.h7⟩
  · unfold updL
    by_cases e2 : j = i
    · rw [if_pos e2, e2]; exact cell_same e.1
    · rw [if_neg e2]; exact cell_ne (h.rN j hj).1 (ad_ne (.inr e2))
  · unfold updL
    split
    · exact hl
    · exact h.sN j hj
theorem DdAt.setL {w : World} {q bL bN bD n cL cN cD : Nat} {La No : Nat → List Nat} {Di : Nat → Bool} {armed : Int} {off : Bool} (h : DdAt w q bL bN bD n cL cN cD La No Di armed off) (i : Nat) (hi : i < n) (l : List Nat) (hl : l.length = 64 ∧ ∀ c ∈ l, c < 256) :
    DdAt (w.setCell ⟨bL, i, none⟩ (.string (strN l))) q bL bN bD n cL cN cD (updL La i l) No Di armed off := by
  have e := h.rL i hi
  refine ⟨cell_ne h.c0 (ad_ne (.inl h.n1.symm)), cell_ne h.c1 (ad_ne (.inl h.n1.symm)), cell_ne h.c2 (ad_ne (.inl h.n1.symm)), cell_ne h.c3 (ad_ne (.inl h.n1.symm)), cell_ne h.c4 (ad_ne (.inl h.n1.symm)), by rw [frozen_set]; exact h.f3, by rw [frozen_set]; exact h.f4, fun j hj => ⟨?_, by rw [frozen_set]; exact (h.rL j hj).2⟩, fun j hj => ⟨cell_ne (h.rN j hj).1 (ad_ne (.inl h.n4.symm)), by rw [frozen_set]; exact (h.rN j hj).2⟩, fun j hj => ⟨cell_ne (h.rD j hj).1 (ad_ne (.inl h.n5.symm)), by rw [frozen_set]; exact (h.rD j hj).2⟩, h.n1, h.n2, h.n3, h.n4, h.n5, h.n6, fun j hj => ?_, h.sN, h.ar, h.h1, h.h7⟩
  · unfold updL
    by_cases e2 : j = i
    · rw [if_pos e2, e2]; exact cell_same e.1
    · rw [if_neg e2]; exact cell_ne (h.rL j hj).1 (ad_ne (.inr e2))
  · unfold updL
    split
    · exact hl
    · exact h.sL j hj
theorem DdAt.setD {w : World} {q bL bN bD n cL cN cD : Nat} {La No : Nat → List Nat} {Di : Nat → Bool} {armed : Int} {off : Bool} (h : DdAt w q bL bN bD n cL cN cD La No Di armed off) (i : Nat) (hi : i < n) (b : Bool) :
    DdAt (w.setCell ⟨bD, i, none⟩ (.bool b)) q bL bN bD n cL cN cD La No (updB Di i b) armed off := by
  have e := h.rD i hi
  refine ⟨cell_ne h.c0 (ad_ne (.inl h.n3.symm)), cell_ne h.c1 (ad_ne (.inl h.n3.symm)), cell_ne h.c2 (ad_ne (.inl h.n3.symm)), cell_ne h.c3 (ad_ne (.inl h.n3.symm)), cell_ne h.c4 (ad_ne (.inl h.n3.symm)), by rw [frozen_set]; exact h.f3, by rw [frozen_set]; exact h.f4, fun j hj => ⟨cell_ne (h.rL j hj).1 (ad_ne (.inl h.n5)), by rw [frozen_set]; exact (h.rL j hj).2⟩, fun j hj => ⟨cell_ne (h.rN j hj).1 (ad_ne (.inl h.n6)), by rw [frozen_set]; exact (h.rN j hj).2⟩, fun j hj => ⟨?_, by rw [frozen_set]; exact (h.rD j hj).2⟩, h.n1, h.n2, h.n3, h.n4, h.n5, h.n6, h.sL, h.sN, h.ar, h.h1, h.h7⟩
  unfold updB
  by_cases e2 : j = i
  · rw [if_pos e2, e2]; exact cell_same e.1
  · rw [if_neg e2]; exact cell_ne (h.rD j hj).1 (ad_ne (.inr e2))
theorem DdAt.setA {w : World} {q bL bN bD n cL cN cD : Nat} {La No : Nat → List Nat} {Di : Nat → Bool} {armed : Int} {off : Bool} (h : DdAt w q bL bN bD n cL cN cD La No Di armed off) (a : Int) (ha : 0 ≤ a ∧ a ≤ 9223372036854775807) :
    DdAt (w.setCell ⟨q, 3, none⟩ (.int .i64 a)) q bL bN bD n cL cN cD La No Di a off := by
  have z : ∀ k : Nat, k ≠ 3 → (⟨q, k, none⟩ : Addr) ≠ ⟨q, 3, none⟩ := fun k hk => ad_ne (.inr hk)
  exact ⟨cell_ne h.c0 (z 0 (by decide)), cell_ne h.c1 (z 1 (by decide)), cell_ne h.c2 (z 2 (by decide)), cell_same h.c3, cell_ne h.c4 (z 4 (by decide)), by rw [frozen_set]; exact h.f3, by rw [frozen_set]; exact h.f4, fun j hj => ⟨cell_ne (h.rL j hj).1 (ad_ne (.inl h.n1)), by rw [frozen_set]; exact (h.rL j hj).2⟩, fun j hj => ⟨cell_ne (h.rN j hj).1 (ad_ne (.inl h.n2)), by rw [frozen_set]; exact (h.rN j hj).2⟩, fun j hj => ⟨cell_ne (h.rD j hj).1 (ad_ne (.inl h.n3)), by rw [frozen_set]; exact (h.rD j hj).2⟩, h.n1, h.n2, h.n3, h.n4, h.n5, h.n6, h.sL, h.sN, ha, h.h1, h.h7⟩
theorem DdAt.setO {w : World} {q bL bN bD n cL cN cD : Nat} {La No : Nat → List Nat} {Di : Nat → Bool} {armed : Int} {off : Bool} (h : DdAt w q bL bN bD n cL cN cD La No Di armed off) (o : Bool) :
    DdAt (w.setCell ⟨q, 4, none⟩ (.bool o)) q bL bN bD n cL cN cD La No Di armed o := by
  have z : ∀ k : Nat, k ≠ 4 → (⟨q, k, none⟩ : Addr) ≠ ⟨q, 4, none⟩ := fun k hk => ad_ne (.inr hk)
  exact ⟨cell_ne h.c0 (z 0 (by decide)), cell_ne h.c1 (z 1 (by decide)), cell_ne h.c2 (z 2 (by decide)), cell_ne h.c3 (z 3 (by decide)), cell_same h.c4, by rw [frozen_set]; exact h.f3, by rw [frozen_set]; exact h.f4, fun j hj => ⟨cell_ne (h.rL j hj).1 (ad_ne (.inl h.n1)), by rw [frozen_set]; exact (h.rL j hj).2⟩, fun j hj => ⟨cell_ne (h.rN j hj).1 (ad_ne (.inl h.n2)), by rw [frozen_set]; exact (h.rN j hj).2⟩, fun j hj => ⟨cell_ne (h.rD j hj).1 (ad_ne (.inl h.n3)), by rw [frozen_set]; exact (h.rD j hj).2⟩, h.n1, h.n2, h.n3, h.n4, h.n5, h.n6, h.sL, h.sN, h.ar, h.h1, h.h7⟩
/-- both disks hold the same -/
structure Lkd (n : Nat) (L : Nat → List Nat) (C : Nat → Option (List Nat)) (cut : Int) (off : Bool) (La No : Nat → List Nat) (Di : Nat → Bool) (armed : Int) (off2 : Bool) : Prop where
  l : ∀ i, i < n → La i = L i
  m : ∀ i, i < n → No i = cur L C i
  d : ∀ i, i < n → Di i = (C i).isSome
  a : armed = max cut 0
  o : off = off2
end Go.Proofs.Ytodmfljhojdbkaa.dskw
