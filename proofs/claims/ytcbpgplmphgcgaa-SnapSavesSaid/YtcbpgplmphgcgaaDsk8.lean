/- The disk: Dirty. -/
import Derived.Test.YtcbpgplmphgcgaaDsk7
import Derived.Test.YtcbpgplmphgcgaaShelf
import Derived.Sort.OwnSorted
namespace Go.Proofs.Ytcbpgplmphgcgaa.dskw
open Go.RowKit mem Go.Maps Go.Sort
set_option linter.unusedVariables false

/-- the numbers in the cache, rising -/
def dirtyL (C : Nat → Option (List Nat)) (n : Nat) : List Nat := (List.range n).filter (fun i => (C i).isSome)
theorem dirty_mem {C : Nat → Option (List Nat)} {n : Nat} (hb : ∀ i, (C i).isSome = true → i < n) (i : Nat) : i ∈ dirtyL C n ↔ (C i).isSome = true := by
  unfold dirtyL
  rw [List.mem_filter, List.mem_range]
  exact ⟨fun h => h.2, fun h => ⟨hb i h, h⟩⟩
theorem dirty_nodup (C : Nat → Option (List Nat)) (n : Nat) : (dirtyL C n).Nodup := List.Nodup.sublist (List.filter_sublist) List.nodup_range
theorem dirty_sorted (C : Nat → Option (List Nat)) (n : Nat) : (dirtyL C n).Pairwise (· < ·) := List.Pairwise.sublist (List.filter_sublist) List.pairwise_lt_range
theorem dirty_len (C : Nat → Option (List Nat)) (n : Nat) : (dirtyL C n).length ≤ n := by
  have := List.length_filter_le (fun i => (C i).isSome) (List.range n)
  rw [List.length_range] at this
  exact this

theorem keys_perm {C : Nat → Option (List Nat)} {n : Nat} {ss : List Nat} (hb : ∀ i, (C i).isSome = true → i < n) (h : KeysOf C ss) : ss.Perm (dirtyL C n) :=
  (List.perm_ext_iff_of_nodup h.1 (dirty_nodup C n)).2 (fun i => (h.2 i).trans (dirty_mem hb i).symm)

def ints (ss : List Nat) : List Int := List.map (fun i : Nat => (i : Int)) ss
theorem ints_enc (ss : List Nat) : (ints ss).map (Value.int .i64) = ss.map encN := by unfold ints encN; rw [List.map_map]; rfl
theorem ints_len (ss : List Nat) : (ints ss).length = ss.length := by unfold ints; rw [List.length_map]

theorem sort_keys {C : Nat → Option (List Nat)} {n : Nat} {ss : List Nat} (hb : ∀ i, (C i).isSome = true → i < n) (h : KeysOf C ss) : ((ints ss).mergeSort fun x y => decide (x ≤ y)) = ints (dirtyL C n) := by
  refine List.Perm.eq_of_pairwise (le := fun a b : Int => a ≤ b) (fun a b _ _ h1 h2 => Int.le_antisymm h1 h2) ?_ ?_ ((List.mergeSort_perm _ _).trans ((keys_perm hb h).map _))
  · have := List.pairwise_mergeSort (le := fun x y : Int => decide (x ≤ y)) (fun a b c h1 h2 => by simp only [decide_eq_true_eq] at *; omega) (fun a b => by simp only [Bool.or_eq_true, decide_eq_true_eq]; omega) (ints ss)
    exact this.imp (fun h => by simpa using h)
  · unfold ints
    rw [List.pairwise_map]
    exact (dirty_sorted C n).imp (fun h => by omega)

theorem heap_sort {α : Type} [Inhabited α] {enc : α → Value} {w : World} {g k : Nat} {os : Array Obj} {cur : Array Value} {e : TypeId} {fr : Nat × Nat} (d : Array α) (hb : w.heap[g]? = some (.cells cur e fr)) :
    (grow (putRow enc (Sort.ahead w k) g 0 d) os).heap[g]? = some (.cells (putCells enc 0 d cur) e fr) := by
  have hg : g < w.heap.size := (Array.getElem?_eq_some_iff.1 hb).1
  rw [heap_grow_old _ _ (by simpa using hg)]
  simp [putRow, mapBlock, Sort.ahead, Array.getElem?_modify, hb, onCells]
theorem grown_sort {α : Type} [Inhabited α] {enc : α → Value} {w : World} {g k : Nat} {os : Array Obj} (d : Array α) : w.grownBy (grow (putRow enc (Sort.ahead w k) g 0 d) os) (some g) := by
  refine ⟨rfl, rfl, rfl, by simp, fun i hi hne => ?_⟩
  rw [heap_grow_old _ _ (by simpa using hi)]
  have : g ≠ i := fun e => hne (by rw [e])
  simp [putRow, mapBlock, Sort.ahead, Array.getElem?_modify, this]
theorem take_put {α : Type} [Inhabited α] {enc : α → Value} (cur : Array Value) (ts : List α) (h : ts.length ≤ cur.size) : (putCells enc 0 ts.toArray cur).toList.take ts.length = ts.map enc := by
  apply List.ext_getElem?
  intro j
  by_cases hj : j < ts.length
  · rw [List.getElem?_take_of_lt hj, Array.getElem?_toList]
    simp [putCells, hj, show j < cur.size by omega]
  · rw [List.getElem?_take_eq_none (by omega), List.getElem?_eq_none (by simp; omega)]
theorem holds_block {w : World} {g : Nat} {cur : Array Value} {e : TypeId} {zs : List Int} (hb : w.heap[g]? = some (.cells cur e (0, 0))) (ht : cur.toList.take zs.length = zs.map (Value.int .i64)) : Holds (Value.int .i64) w g 0 zs.toArray := by
  intro j hj
  have hj' : j < zs.length := by simpa using hj
  refine ⟨?_, by simp [World.frozen?, hb]⟩
  have h1 : (cur.toList.take zs.length)[j]? = (zs.map (Value.int .i64))[j]? := by rw [ht]
  rw [List.getElem?_take_of_lt hj'] at h1
  simp only [World.cell?, hb, Nat.zero_add]
  simp only [Option.isSome_none, Bool.false_eq_true, if_false]
  rw [← Array.getElem?_toList, h1]
  simp [hj']

set_option maxHeartbeats 1000000 in
set_option maxRecDepth 100000 in
theorem sorted_any (g : Nat) (lb : Array Value) (eg : ∀ args w, (callFunc g args).run Try.prog w = .ok (.enter g args) w) (C : Nat → Option (List Nat)) (n : Nat) (hn : n ≤ 8192) (hb : ∀ i, (C i).isSome = true → i < n) (w : World)
    (hseq : SeqGives Fence.wide 1 Try.prog g lb encN (KeysOf C) n w) :
    Calls Try.prog 60 #[.func (.func g) #[] lb] w fun e w' => ∃ v, e = .returned v ∧ NewNums w w' v (dirtyL C n) := by
  have HC := Lib.hid (callsIn_wide.1 (collect_in Fence.wide 3 trivial trivial rfl (Nat.le_refl _) g lb trivial eg (KeysOf C) n hn w hseq))
  have HB := Lib.hid hb
  clear hseq hb
  go_enter Try.func60, Try.ntmps60
  go_wp2_with fail
  refine (HC.out).mono ?_
  rintro e w1 ⟨v, ss, rfl, hS, hrow, hnil, hbl⟩
  have HP := Lib.hid (keys_perm HB.out hS)
  rcases hrow.2 with ⟨rfl, hz⟩ | ⟨gb, cap, cur, rfl, hbase, hgb, r1, r2, r3, r4⟩
  · have hss : ss = [] := List.eq_nil_of_length_eq_zero hz
    have HN : Hid (NewNums w w1 (.slice none 0 0) (dirtyL C n)) := Lib.hid (by
      have he : dirtyL C n = [] := by have := HP.out.length_eq; rw [hz] at this; exact List.eq_nil_of_length_eq_zero this.symm
      rw [he]
      subst hss
      exact ⟨hrow, by simp, hbl⟩)
    have HSO := Lib.hid (Try.slices_Sort_int_none none 0 w1)
    clear hrow hnil hbl hS
    go_wp2_with fail
    refine (HSO.out).mono ?_
    rintro e w' ⟨rfl, rfl⟩
    go_wp2_with fail
    go_ret
    exact ⟨_, rfl, HN.out⟩
  · have hlen : ss.length = (dirtyL C n).length := HP.out.length_eq
    have hne : ss ≠ [] := fun e => by have := hnil.2 e; cases this
    have hsm : ss.length ≤ n := by rw [hlen]; exact dirty_len C n
    have hH : Holds (Value.int .i64) w1 gb 0 (ints ss).toArray := holds_block hgb (by rw [ints_len, ints_enc]; simpa using r4)
    have hS2 := Try.slices_Sort_int gb 0 cap (ints ss) w1 hH (Array.getElem?_eq_some_iff.1 hgb).1 (by rw [ints_len]; omega)
    rw [ints_len, sort_keys HB.out hS] at hS2
    have HSO := Lib.hid hS2
    have HF : Hid (∀ k os, NewNums w (grow (putRow (Value.int .i64) (Sort.ahead w1 k) gb 0 (ints (dirtyL C n)).toArray) os) (.slice (some ⟨gb, 0, none⟩) ss.length cap) (dirtyL C n)) := Lib.hid (fun k os => by
      refine ⟨⟨by simp, .inr ⟨gb, cap, _, by rw [hlen], hbase, heap_sort _ hgb, by rw [← hlen]; exact r1, r2, by simp [putCells, r3], ?_⟩⟩, ?_, hbl.grown (grown_sort _) hbl.size (fun j hj => by cases hj; exact hbase)⟩
      · have := take_put (enc := Value.int .i64) cur (ints (dirtyL C n)) (by rw [ints_len, ← hlen, r3]; omega)
        rw [ints_len, ints_enc] at this
        rw [Nat.mul_one]
        exact this
      · constructor
        · intro e; cases e
        · intro e
          rw [e] at hlen
          exact absurd (List.eq_nil_of_length_eq_zero hlen) hne)
    clear hrow hnil hbl hS hH hS2 hgb r4 hlen hsm hne
    go_wp2_with fail
    refine (HSO.out).mono ?_
    rintro e w' ⟨he, k, os, hw⟩
    have HG : Hid (NewNums w w' (.slice (some ⟨gb, 0, none⟩) ss.length cap) (dirtyL C n)) := Lib.hid (by rw [hw]; exact HF.out k os)
    clear hw
    subst he
    go_wp2_with fail
    go_ret
    exact ⟨_, rfl, HG.out⟩
end Go.Proofs.Ytcbpgplmphgcgaa.dskw
