/- A range over a map of rows by accounts. -/
import Derived.Test.YtdjiljkdnpmilaaAccN
import Derived.Maps.RangeWalk
import Derived.RangeFuncBound
import Derived.Sort.MapsRangeIn
import Derived.Sort.KeysCollected
import Derived.OwnWalkIn
import Derived.TacticsInMore
import Derived.RegionIn
import Derived.LoopNIn
import Derived.LoopIn
import Derived.Maps.AppendAt
import Derived.Shelf.Abstract
namespace Go.Proofs.Ytdjiljkdnpmilaa.acck
open Go.RowKit mem Go.WideShapes Go.ChangeMaps Go.WideMaps Go.Maps accm accn
set_option linter.unusedVariables false
set_option maxRecDepth 100000

def RangeA (w : World) (b r n : Nat) (C : Ac → Option (List Int)) (left : Ac → Bool) (cnt : Nat) : Prop :=
  ∃ (D : DataW Unit) (lf : Lit → Bool), w.ranges Try.prog 38 accn.Rs b r n D lf cnt ∧ accn.Like D C ∧ (∀ a l, C a = some l → Row l ∧ InA a) ∧ ∀ a kl, keyOf Try.prog 38 (acc a) = some kl → lf kl = left a
theorem RangeA.left_eq {w : World} {b r n cnt : Nat} {C : Ac → Option (List Int)} {left : Ac → Bool} (h : RangeA w b r n C left cnt) : w.rangeLeft b r = cnt := by
  obtain ⟨D, lf, h0, _⟩ := h
  exact h0.left_eq
theorem RangeA.walk {w : World} {b r n cnt : Nat} {C : Ac → Option (List Int)} {left : Ac → Bool} (h : RangeA w b r n C left cnt) : ∃ o : Obj, w.heap[r]? = some o ∧ o.isWalk = true := by
  obtain ⟨D, lf, h0, _⟩ := h
  exact h0.iter_walk
theorem RangeA.walks {w w' : World} {b r n cnt : Nat} {C : Ac → Option (List Int)} {left : Ac → Bool} (h : RangeA w b r n C left cnt) (hk : KeepsWalks w w') : RangeA w' b r n C left cnt := by
  obtain ⟨D, lf, h0, rest⟩ := h
  exact ⟨D, lf, h0.of_walks hk, rest⟩
theorem RangeA.le {w : World} {b r n cnt : Nat} {C : Ac → Option (List Int)} {left : Ac → Bool} (h : RangeA w b r n C left cnt) : cnt ≤ n := by
  obtain ⟨D, lf, ⟨es, clock, since, seen, c0, hb, F, hs, hD, hr, hold, hc, _⟩, _⟩ := h
  have : (leftOf es seen).size ≤ es.size := by unfold leftOf; exact Array.size_filter_le
  omega
theorem MapA.below {w w' : World} {b n : Nat} {C : Ac → Option (List Int)} (h : MapA w b n C) (hw : Below w.heap.size w w') : MapA w' b n C := h.only (Only.of_below hw) (fun f => f)

theorem MapA.range {w : World} {b n : Nat} {C : Ac → Option (List Int)} (h : MapA w b n C) :
    ∃ w' cnt, (Instr.range 81 (.map (some b))).run Try.prog w = .ok (.pointer (some ⟨w.heap.size, 0, none⟩)) w' ∧ RangeA w' b w.heap.size n C (fun a => (C a).isSome) cnt ∧ Only (fun _ => False) w w' ∧ w'.heap.size = w.heap.size + 1 := by
  obtain ⟨D, h1, hL, h3⟩ := h
  obtain ⟨w', hrun, hr, hg, hs⟩ := h1.range accm.keyed Try.underlying81
  refine ⟨w', _, hrun, ⟨D, _, hr, hL, h3, fun a kl hkl => ?_⟩, (Only.of_grown hg).mono (fun k _ e => by cases e), hs⟩
  show _ = (C a).isSome
  cases hc : C a with
  | none => exact hL.out a kl hkl hc
  | some l => exact (hL.val a kl l hkl hc).2.1

theorem RangeA.next {w : World} {b r n cnt : Nat} {C : Ac → Option (List Int)} {left : Ac → Bool} (h : RangeA w b r n C left cnt) (ty : TypeId) :
    ((∀ a, (C a).isSome = true → left a = false) ∧ (Instr.next (.pointer (some ⟨r, 0, none⟩)) false ty).run Try.prog w = .ok (.tuple #[.bool false]) w) ∨
    ∃ (a : Ac) (l : List Int) (w' : World) (cnt' : Nat), C a = some l ∧ InA a ∧ left a = true ∧ (Instr.next (.pointer (some ⟨r, 0, none⟩)) false ty).run Try.prog w = .ok (.tuple #[.bool true, acc a, accn.sec l]) w' ∧
      RangeA w' b r n C (fun j => left j && !decide (j = a)) cnt' ∧ cnt' < cnt ∧ Only (fun k => k = r) w w' ∧ w'.heap.size = w.heap.size ∧ (Instr.entry (.pointer (some ⟨r, 0, none⟩))).run Try.prog w' = .ok (.tuple #[acc a, accn.sec l]) w' := by
  obtain ⟨D, lf, hr, hL, h3, hlf⟩ := h
  rcases hr.next accm.keyed ty with ⟨h0, hall, hrun⟩ | ⟨key, v, kl, y, w', cnt', hkey, hleft, hR, hat, hrun, hr', hlt, hg, hsz, hent⟩
  · refine .inl ⟨fun a ha => ?_, hrun⟩
    obtain ⟨l, hl⟩ := Option.isSome_iff_exists.1 ha
    obtain ⟨kl, hkl⟩ := acc_key (h3 a l hl).2
    rw [← hlf a kl hkl]
    exact hall _
  · have hhas : Maps.has D kl = true := Maps.has_true_of_atKey hat
    obtain ⟨a, hia, hka, has⟩ := hL.inn kl hhas
    have hke : key = acc a := accm.law.inj hkey hka
    subst hke
    obtain ⟨l, hl⟩ := Option.isSome_iff_exists.1 has
    obtain ⟨l', hsl, rfl, hy⟩ := accn.Rs_inv hR
    have hv := (hL.val a kl l hka hl).2.2 (accn.dat noughts)
    rw [hat, hy] at hv
    have hll := accn.dat_inj hv
    subst hll
    refine .inr ⟨a, l', w', cnt', hl, hia, by rw [← hlf a kl hka]; exact hleft, hrun, ⟨D, _, hr', hL, h3, fun j kj hkj => ?_⟩, hlt, (Only.of_grown hg).mono (fun k _ e => (Option.some.inj e).symm), hsz, hent⟩
    show (lf kj && !kj.sameKey kl) = (left j && !decide (j = a))
    rw [hlf j kj hkj]
    by_cases e : j = a
    · subst e
      obtain rfl := Option.some.inj (hkj.symm.trans hka)
      rw [WideAt.sameKey_self (accm.keyed.key hkj)]; simp
    · have hne : kj ≠ kl := fun q => e (acc_inj (accm.law.inj hkj (by rw [q]; exact hka)))
      rw [Maps.sameKey_ne hne]; simp [e]

theorem grown_of {w w' : World} {r : Nat} (h : Only (fun k => k = r) w w') : w.grownBy w' (some r) := ⟨h.os, h.tape, h.output, h.size, fun i hi hne => h.block i hi (fun e => hne (by rw [e]))⟩
theorem grown_none {w w' : World} (h : Only (fun _ => False) w w') : w.grownBy w' none := ⟨h.os, h.tape, h.output, h.size, fun i hi _ => h.block i hi (fun f => f)⟩

/-- what has come so far -/
def Come (C : Ac → Option (List Int)) (left : Ac → Bool) (ss : List Ac) : Prop := ss.Nodup ∧ ∀ i, i ∈ ss ↔ ((C i).isSome = true ∧ left i = false)
/-- all accounts on which something stands, each once -/
def KeysOf (C : Ac → Option (List Int)) (ss : List Ac) : Prop := ss.Nodup ∧ (∀ i, i ∈ ss ↔ (C i).isSome = true) ∧ ∀ i ∈ ss, InA i
theorem Come.start (C : Ac → Option (List Int)) : Come C (fun i => (C i).isSome) [] := ⟨List.nodup_nil, fun i => by
  constructor
  · intro h; cases h
  · rintro ⟨h1, h2⟩; have h2 : (C i).isSome = false := h2; rw [h1] at h2; cases h2⟩
theorem Come.step {C : Ac → Option (List Int)} {left : Ac → Bool} {ss : List Ac} (h : Come C left ss) {i : Ac} {l : List Int} (hc : C i = some l) (hl : left i = true) : Come C (fun j => left j && !decide (j = i)) (ss ++ [i]) := by
  have hni : i ∉ ss := fun hm => by have := ((h.2 i).1 hm).2; rw [hl] at this; cases this
  refine ⟨?_, fun j => ?_⟩
  · rw [List.nodup_append]
    refine ⟨h.1, by simp, fun a ha b hb e => ?_⟩
    rw [List.mem_singleton] at hb
    subst hb; subst e; exact hni ha
  · rw [List.mem_append, List.mem_singleton, h.2 j]
    by_cases e : j = i
    · subst e; simp [hc]
    · simp [e]
theorem Come.all {C : Ac → Option (List Int)} {left : Ac → Bool} {ss : List Ac} (h : Come C left ss) (hl : ∀ i, (C i).isSome = true → left i = false) (hin : ∀ a l, C a = some l → InA a) : KeysOf C ss := by
  refine ⟨h.1, fun i => ?_, fun i hi => ?_⟩
  · rw [h.2 i]
    exact ⟨fun q => q.1, fun q => ⟨q, hl i q⟩⟩
  · obtain ⟨l, hl⟩ := Option.isSome_iff_exists.1 ((h.2 i).1 hi).1
    exact hin i l hl
theorem RangeA.rows {w : World} {b r n cnt : Nat} {C : Ac → Option (List Int)} {left : Ac → Bool} (h : RangeA w b r n C left cnt) : ∀ a l, C a = some l → InA a := by
  obtain ⟨D, lf, h0, h1, h3, _⟩ := h
  exact fun a l e => (h3 a l e).2

set_option maxHeartbeats 1000000 in
theorem keys1_in (F : Fence) (k : Nat) (hf : F.fn 56) (hro : F.round = none) (hk : 1 ≤ k) (l Bm b n : Nat) (C : Ac → Option (List Int)) (J : List Ac → World → Prop)
    (hY : ∀ pre x W, J pre W → pre.length < n → YieldAt F (k - 1) Try.prog l #[acc x] W fun e W' => e = .returned (.bool true) ∧ J (pre ++ [x]) W' ∧ KeepsWalks W W')
    (W : World) (hJ : AbidesFrom W.heap.size J) (hm : W.cell? ⟨Bm, 0, none⟩ = some (.map (some b))) (hown : MapA W b n C) (h0 : J [] W) :
    CallsIn F k Try.prog 56 #[.func (.yield l) #[] #[], .pointer (some ⟨Bm, 0, none⟩)] W fun e W' => (∃ v, e = .returned v) ∧ ∃ ss, (KeysOf C ss ∧ ss.length ≤ n) ∧ J ss W' := by
  obtain ⟨w0, cnt0, hrun, HR0, ho0, hs0⟩ := MapA.range hown
  have HR := Lib.hid HR0
  have HCN : Hid (([] : List Ac).length + cnt0 ≤ n) := Lib.hid (by simpa using HR0.le)
  have HJ0 := Lib.hid (hJ [] W w0 none h0 (grown_none ho0) (fun r e => by cases e))
  have HYY := Lib.hid hY
  have HJJ := Lib.hid hJ
  clear HR0 ho0 hs0 hown h0 hY hJ
  refine callsIn_of_wp Try.func56 rfl hf ?_ hro
  simp only [Try.ntmps56, List.size_toArray, List.length_cons, List.length_nil, Nat.reduceAdd, Nat.reduceSub, Array.replicate_succ, Array.replicate_zero, List.push_toArray, List.append_toArray, List.nil_append, List.cons_append]
  gi_wp2
  gi_loopw [3] (fun _ wr => ∃ (left : Ac → Bool) (cnt : Nat) (ss : List Ac), Hid (RangeA wr b W.heap.size n C left cnt) ∧ Hid (Come C left ss) ∧ Hid (J ss wr) ∧ Hid (ss.length + cnt ≤ n)) (fun _ wr => wr.rangeLeft b W.heap.size)
  case atStart => exact ⟨_, _, [], HR, Lib.hid (Come.start C), HJ0, HCN⟩
  case round =>
    obtain ⟨left, cnt, ss, HRk, HC, HJs, HCk⟩ := hrel
    rcases HRk.out.next 0 with ⟨hall, hnx⟩ | ⟨i, lx, w2, cnt2, hCi, hin, hleft, hnx, hR2, hlt, ho2, hsz, hen⟩
    · gi_wp2
      go_end0
      exact ⟨⟨_, rfl⟩, ss, ⟨HC.out.all hall HRk.out.rows, by have := HCk.out; omega⟩, HJs.out⟩
    · have hJ2 := HJJ.out ss wr w2 (some W.heap.size) HJs.out (grown_of ho2) (fun r e => by cases e; exact ⟨Nat.le_refl _, HRk.out.walk⟩)
      obtain ⟨w3, hw3⟩ : ∃ x, x = w2.alloc (.cells #[.int .i64 i.k, .int .i64 i.n, .int .i64 i.g] 38) := ⟨_, rfl⟩
      have hJ3 := HJJ.out ss w2 w3 none hJ2 (by rw [hw3]; exact World.grownBy_alloc w2 _ none) (fun r e => by cases e)
      obtain ⟨fn, tmps, assign, body, hy, hR⟩ := HYY.out ss i w3 hJ3 (by have := HCk.out; omega)
      have HRR := Lib.hid hR
      have HR2 : Hid (RangeA w3 b W.heap.size n C (fun j => left j && !decide (j = i)) cnt2) := Lib.hid (hR2.walks (by rw [hw3]; exact KeepsWalks.alloc _ _))
      have HC2 := Lib.hid (HC.out.step hCi hleft)
      have HCN2 : Hid ((ss ++ [i]).length + cnt2 ≤ n) := Lib.hid (by have := HCk.out; rw [List.length_append, List.length_singleton]; omega)
      unfold acc accV accn.sec at hnx hen
      unfold acc accV at hy
      clear hR hR2 ho2 hsz hCi hleft hJ2 hJ3 hin
      obtain ⟨ik, im, ig⟩ := i
      dsimp only at hnx hen hy hw3
      subst hw3
      gi_wp2
      refine HRR.out.mono ?_
      rintro e W3 ⟨rfl, hJ3, hk3⟩
      have HJ3 := Lib.hid hJ3
      have HR3 := Lib.hid (HR2.out.walks hk3)
      clear hJ3 hk3 HRR hnx hen hy
      gi_wp2
      go_roundw
      case rel => exact ⟨_, cnt2, ss ++ [_], HR3, HC2, HJ3, HCN2⟩
      case measure => rw [HR3.out.left_eq, HRk.out.left_eq]; exact hlt
end Go.Proofs.Ytdjiljkdnpmilaa.acck
