/- The disk: the numbers in the cache, gathered by an iterator. -/
import Derived.Test.YtcbpgplmphgcgaaDsk4
import Derived.RangeFuncBound
import Derived.Sort.MapsRangeIn
import Derived.Sort.KeysCollected
import Derived.OwnWalkIn
import Derived.TacticsInMore
import Derived.RegionIn
import Derived.LoopNIn
import Derived.LoopIn
import Derived.Maps.AppendAt
import Derived.Shelf.Abstract
namespace Go.Proofs.Ytcbpgplmphgcgaa.dskw
open Go.RowKit mem Go.Maps
set_option linter.unusedVariables false

theorem RangeC.left_eq {w : World} {b r n cnt : Nat} {C : Nat → Option (List Nat)} {left : Nat → Bool} (h : RangeC w b r n C left cnt) : w.rangeLeft b r = cnt := by
  obtain ⟨D, lf, h0, _⟩ := h
  exact h0.left_eq
theorem RangeC.walk {w : World} {b r n cnt : Nat} {C : Nat → Option (List Nat)} {left : Nat → Bool} (h : RangeC w b r n C left cnt) : ∃ o : Obj, w.heap[r]? = some o ∧ o.isWalk = true := by
  obtain ⟨D, lf, h0, _⟩ := h
  exact h0.iter_walk
theorem RangeC.walks {w w' : World} {b r n cnt : Nat} {C : Nat → Option (List Nat)} {left : Nat → Bool} (h : RangeC w b r n C left cnt) (hk : KeepsWalks w w') : RangeC w' b r n C left cnt := by
  obtain ⟨D, lf, h0, rest⟩ := h
  exact ⟨D, lf, h0.of_walks hk, rest⟩
theorem MapC.bound {w : World} {b n : Nat} {C : Nat → Option (List Nat)} (h : MapC w b n C) {i : Nat} (hi : (C i).isSome = true) : i < n := by
  obtain ⟨D, _, h2, _, h4⟩ := h
  obtain ⟨l, hl⟩ := Option.isSome_iff_exists.1 hi
  obtain ⟨j, hj, hjn, _⟩ := h2 _ (h4 i l hl).2.1
  have : i = j := by injection hj with _ e; omega
  omega
theorem MapC.below {w w' : World} {b n : Nat} {C : Nat → Option (List Nat)} (h : MapC w b n C) (hw : Below w.heap.size w w') : MapC w' b n C := h.only (Only.of_below hw) (fun f => f)

theorem grown_of {w w' : World} {r : Nat} (h : Only (fun k => k = r) w w') : w.grownBy w' (some r) := ⟨h.os, h.tape, h.output, h.size, fun i hi hne => h.block i hi (fun e => hne (by rw [e]))⟩
theorem grown_none {w w' : World} (h : Only (fun _ => False) w w') : w.grownBy w' none := ⟨h.os, h.tape, h.output, h.size, fun i hi _ => h.block i hi (fun f => f)⟩

/-- what has come so far -/
def Come (C : Nat → Option (List Nat)) (left : Nat → Bool) (ss : List Nat) : Prop := ss.Nodup ∧ ∀ i, i ∈ ss ↔ ((C i).isSome = true ∧ left i = false)
/-- all the numbers in the cache, each once -/
def KeysOf (C : Nat → Option (List Nat)) (ss : List Nat) : Prop := ss.Nodup ∧ ∀ i, i ∈ ss ↔ (C i).isSome = true

theorem Come.start (C : Nat → Option (List Nat)) : Come C (fun i => (C i).isSome) [] := ⟨List.nodup_nil, fun i => by
  constructor
  · intro h; cases h
  · rintro ⟨h1, h2⟩; have h2 : (C i).isSome = false := h2; rw [h1] at h2; cases h2⟩
theorem Come.step {C : Nat → Option (List Nat)} {left : Nat → Bool} {ss : List Nat} (h : Come C left ss) {i : Nat} {l : List Nat} (hc : C i = some l) (hl : left i = true) : Come C (fun j => left j && !decide (j = i)) (ss ++ [i]) := by
  have hni : i ∉ ss := fun hm => by have := ((h.2 i).1 hm).2; rw [hl] at this; cases this
  refine ⟨?_, fun j => ?_⟩
  · rw [List.nodup_append]
    refine ⟨h.1, by simp, fun a ha b hb e => ?_⟩
    rw [List.mem_singleton] at hb
    subst hb; subst e; exact hni ha
  · rw [List.mem_append, List.mem_singleton, h.2 j]
    by_cases e : j = i
    · subst e; simp [hc]
    · simp [e]
theorem Come.all {C : Nat → Option (List Nat)} {left : Nat → Bool} {ss : List Nat} (h : Come C left ss) (hl : ∀ i, left i = false) : KeysOf C ss := ⟨h.1, fun i => by rw [h.2 i, hl i]; simp⟩
theorem Come.few {C : Nat → Option (List Nat)} {left : Nat → Bool} {ss : List Nat} {n : Nat} (h : Come C left ss) (hn : ∀ i, (C i).isSome = true → i < n) {i : Nat} {l : List Nat} (hc : C i = some l) (hl : left i = true) : ss.length < n := by
  have hs := h.step hc hl
  have := nodup_le n (ss ++ [i]) hs.1 (fun x hx => hn x ((hs.2 x).1 hx).1)
  rw [List.length_append, List.length_singleton] at this
  omega

/-- a number, as a value -/
def encN (i : Nat) : Value := .int .i64 (i : Int)

set_option maxRecDepth 100000 in
set_option maxHeartbeats 1000000 in
theorem keys1_in (F : Fence) (k : Nat) (hf : F.fn 80) (hro : F.round = none) (hk : 1 ≤ k) (l Bm b n : Nat) (hn2 : n ≤ 8192) (C : Nat → Option (List Nat)) (J : List Nat → World → Prop)
    (hY : ∀ pre x W, J pre W → pre.length < n → YieldAt F (k - 1) Try.prog l #[encN x] W fun e W' => e = .returned (.bool true) ∧ J (pre ++ [x]) W' ∧ KeepsWalks W W')
    (W : World) (hJ : AbidesFrom W.heap.size J) (hm : W.cell? ⟨Bm, 0, none⟩ = some (.map (some b))) (hown : MapC W b n C) (h0 : J [] W) :
    CallsIn F k Try.prog 80 #[.func (.yield l) #[] #[], .pointer (some ⟨Bm, 0, none⟩)] W fun e W' => (∃ v, e = .returned v) ∧ ∃ ss, KeysOf C ss ∧ J ss W' := by
  obtain ⟨w0, cnt0, hrun, HR0, ho0, hs0⟩ := hown.range
  have HR := Lib.hid HR0
  have HB := Lib.hid (fun i => hown.bound (i := i))
  have HJ0 := Lib.hid (hJ [] W w0 none h0 (grown_none ho0) (fun r e => by cases e))
  have HYY := Lib.hid hY
  have HJJ := Lib.hid hJ
  clear HR0 ho0 hs0 hown h0 hY hJ
  refine callsIn_of_wp Try.func80 rfl hf ?_ hro
  simp only [Try.ntmps80, List.size_toArray, List.length_cons, List.length_nil, Nat.reduceAdd, Nat.reduceSub, Array.replicate_succ, Array.replicate_zero, List.push_toArray, List.append_toArray, List.nil_append, List.cons_append]
  gi_wp2
  gi_loopw [3] (fun _ wr => ∃ (left : Nat → Bool) (cnt : Nat) (ss : List Nat), Hid (RangeC wr b W.heap.size n C left cnt) ∧ Hid (Come C left ss) ∧ Hid (J ss wr)) (fun _ wr => wr.rangeLeft b W.heap.size)
  case atStart => exact ⟨_, _, [], HR, Lib.hid (Come.start C), HJ0⟩
  case round =>
    obtain ⟨left, cnt, ss, HRk, HC, HJs⟩ := hrel
    rcases HRk.out.next 0 with ⟨hall, hnx⟩ | ⟨i, lx, w2, cnt2, hCi, hSl, hin, hleft, hnx, hR2, hlt, ho2, hsz, hen⟩
    · gi_wp2
      go_end0
      exact ⟨⟨_, rfl⟩, ss, HC.out.all hall, HJs.out⟩
    · have hJ2 := HJJ.out ss wr w2 (some W.heap.size) HJs.out (grown_of ho2) (fun r e => by cases e; exact ⟨Nat.le_refl _, HRk.out.walk⟩)
      obtain ⟨fn, tmps, assign, body, hy, hR⟩ := HYY.out ss i w2 hJ2 (HC.out.few HB.out hCi hleft)
      have HRR := Lib.hid hR
      have HR2 := Lib.hid hR2
      have HC2 := Lib.hid (HC.out.step hCi hleft)
      unfold sec at hnx hen
      unfold encN at hy
      clear hR hR2 ho2 hsz hSl hCi hleft hJ2
      gi_wp2
      refine HRR.out.mono ?_
      rintro e W3 ⟨rfl, hJ3, hk3⟩
      have HJ3 := Lib.hid hJ3
      have HR3 := Lib.hid (HR2.out.walks hk3)
      clear hJ3 hk3 HRR hnx hen hy
      gi_wp2
      go_roundw
      case rel => exact ⟨_, cnt2, ss ++ [i], HR3, HC2, HJ3⟩
      case measure => rw [HR3.out.left_eq, HRk.out.left_eq]; exact hlt

/-- maps.Keys -/
theorem keys_in (F : Fence) (k : Nat) (hf : F.fn 61) (hro : F.round = none) (mb : Option Nat) (w : World) :
    CallsIn F k Try.prog 61 #[.map mb] w fun e w' => e = .returned (.func (.func 80) #[] #[.pointer (some ⟨w.heap.size, 0, none⟩)]) ∧ w' = w.alloc (.cells #[.map mb] 95) := by
  refine callsIn_of_wp Try.func61 rfl hf ?_ hro
  simp only [Try.ntmps61, List.size_toArray, List.length_cons, List.length_nil, Nat.reduceAdd, Nat.reduceSub, Array.replicate_succ, Array.replicate_zero, List.push_toArray, List.append_toArray, List.nil_append, List.cons_append]
  gi_wp2
  go_ret
  exact ⟨rfl, rfl⟩

/-- what maps.Keys hands back gives the numbers -/
theorem keys_give (F : Fence) (k : Nat) (hf : F.fn 80) (hro : F.round = none) (hk : 1 ≤ k) (Bm b n : Nat) (hn2 : n ≤ 8192) (C : Nat → Option (List Nat)) (w : World) (hBm : Bm < w.heap.size)
    (hm : w.cell? ⟨Bm, 0, none⟩ = some (.map (some b))) (hown : MapC w b n C) :
    SeqGives F k Try.prog 80 #[.pointer (some ⟨Bm, 0, none⟩)] encN (KeysOf C) n w := fun l J W hW hJ hY h0 =>
  keys1_in F k hf hro hk l Bm b n hn2 C J hY W hJ ((hW.cell (p := ⟨Bm, 0, none⟩) hBm).trans hm) (hown.below hW) h0
end Go.Proofs.Ytcbpgplmphgcgaa.dskw
