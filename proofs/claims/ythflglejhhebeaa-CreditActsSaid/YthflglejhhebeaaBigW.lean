/- The document's numbers in parts: what Of, zero and less answer. -/
import Derived.Test.YthflglejhhebeaaMem
import Derived.Test.YthflglejhhebeaaBigM
import Derived.RegionTactic
import Derived.ChangeAlike
import Derived.Outline
namespace Go.Proofs.Ythflglejhhebeaa.bigw
open Go.RowKit mem bigm
set_option linter.unusedVariables false

/-- a number in parts, as a value -/
def big (A : Nat → Nat) (s : Bool) : Value := .agg #[.int .u64 (A 0 : Int), .int .u64 (A 1 : Int), .int .u64 (A 2 : Int), .int .u64 (A 3 : Int), .int .u64 (A 4 : Int), .int .u64 (A 5 : Int), .int .u64 (A 6 : Int), .int .u64 (A 7 : Int), .int .u64 (A 8 : Int), .int .u64 (A 9 : Int), .bool s]
def bigC (A : Nat → Nat) (s : Bool) : Array Value := #[.int .u64 (A 0 : Int), .int .u64 (A 1 : Int), .int .u64 (A 2 : Int), .int .u64 (A 3 : Int), .int .u64 (A 4 : Int), .int .u64 (A 5 : Int), .int .u64 (A 6 : Int), .int .u64 (A 7 : Int), .int .u64 (A 8 : Int), .int .u64 (A 9 : Int), .bool s]

theorem bigC_get (A : Nat → Nat) (s : Bool) (i : Nat) (h : i < 10) : (bigC A s)[i]? = some (.int .u64 (A i : Int)) := by
  match i, h with
  | 0, _ => rfl
  | 1, _ => rfl
  | 2, _ => rfl
  | 3, _ => rfl
  | 4, _ => rfl
  | 5, _ => rfl
  | 6, _ => rfl
  | 7, _ => rfl
  | 8, _ => rfl
  | 9, _ => rfl

theorem limbs64 (k : Nat) (h : k < 18446744073709551616) (s : Bool) : big (limb k) s = .agg #[.int .u64 ((k % 4294967296 : Nat) : Int), .int .u64 ((k / 4294967296 : Nat) : Int), .int .u64 0, .int .u64 0, .int .u64 0, .int .u64 0, .int .u64 0, .int .u64 0, .int .u64 0, .int .u64 0, .bool s] := by
  have h0 : limb k 0 = k % 4294967296 := by unfold limb; simp
  have h1 : limb k 1 = k / 4294967296 := by unfold limb; simp; omega
  have hz : ∀ i, 2 ≤ i → limb k i = 0 := by
    intro i hi
    unfold limb
    have : 4294967296 ^ 2 ≤ 4294967296 ^ i := Nat.pow_le_pow_right (by omega) hi
    rw [Nat.div_eq_of_lt (by omega)]
  unfold big
  rw [h0, h1, hz 2 (by omega), hz 3 (by omega), hz 4 (by omega), hz 5 (by omega), hz 6 (by omega), hz 7 (by omega), hz 8 (by omega), hz 9 (by omega)]
  rfl

theorem and_low (z : Int) (h0 : 0 ≤ z) (h1 : z < 18446744073709551616) : bits .and .u64 z 4294967295 = z % 4294967296 := by go_bits2

set_option maxRecDepth 100000 in
theorem of_any (n : Int) (hn : -9223372036854775808 ≤ n ∧ n ≤ 9223372036854775807) (w : World) :
    Calls Try.prog 73 #[.int .i64 n] w fun e w' => e = .returned (big (limb n.natAbs) (decide (n < 0))) ∧ Only (fun _ => False) w w' := by
  by_cases h0 : n < 0
  · have hk : n.natAbs < 18446744073709551616 := by omega
    have HB := Lib.hid (limbs64 n.natAbs hk (decide (n < 0)))
    have hd : Hid (decide (n < 0) = true) := Lib.hid (by simp; omega)
    obtain ⟨k, hkn⟩ : ∃ k : Nat, (k : Int) = -n := ⟨n.natAbs, by omega⟩
    have hw : IntKind.u64.wrap (-IntKind.u64.wrap n) = (k : Int) := by simp only [IntKind.wrap_u64]; omega
    have hand := and_low (k : Int) (by omega) (by omega)
    have HE : Hid (n.natAbs = k) := Lib.hid (by omega)
    clear hkn
    go_enter Try.func73, Try.ntmps73
    go_wp2
    rw [HB.out, hd.out, HE.out]
    exact bodyPost_ret (v := .agg #[.int .u64 ((k % 4294967296 : Nat) : Int), .int .u64 ((k / 4294967296 : Nat) : Int), .int .u64 0, .int .u64 0, .int .u64 0, .int .u64 0, .int .u64 0, .int .u64 0, .int .u64 0, .int .u64 0, .bool true])
      (by simp [results, Try.results73, go_sem]) rfl ⟨rfl, ((Only.refl _ w).alloc _).alloc _⟩
  · obtain ⟨k, rfl⟩ := Int.eq_ofNat_of_zero_le (Int.not_lt.1 h0)
    have hand := and_low (k : Int) (by omega) (by omega)
    have HB := Lib.hid (limbs64 k (by omega) (decide ((k : Int) < 0)))
    have hd : Hid (decide ((k : Int) < 0) = false) := Lib.hid (by simp)
    rw [show ((k : Int)).natAbs = k by omega]
    go_enter Try.func73, Try.ntmps73
    go_wp2
    rw [HB.out, hd.out]
    exact bodyPost_ret (v := .agg #[.int .u64 ((k % 4294967296 : Nat) : Int), .int .u64 ((k / 4294967296 : Nat) : Int), .int .u64 0, .int .u64 0, .int .u64 0, .int .u64 0, .int .u64 0, .int .u64 0, .int .u64 0, .int .u64 0, .bool false])
      (by simp [results, Try.results73, go_sem]) rfl ⟨rfl, ((Only.refl _ w).alloc _).alloc _⟩

/-- the cells of a boxed number -/
theorem box_cells (w : World) (A : Nat → Nat) (s : Bool) (t : TypeId) (g : Nat) (hg : g = w.heap.size) : ∀ i, i < 10 → (w.alloc (.cells (bigC A s) t)).cell? ⟨g, i, none⟩ = some (.int .u64 (A i : Int)) := by
  intro i hi
  subst hg
  rw [Go.Joins.cell_of_block (cs := bigC A s) (t := t) (fr := (0, 0)) (by rw [heap_alloc, if_pos rfl]), bigC_get A s i hi]

set_option maxRecDepth 100000 in
set_option maxHeartbeats 1000000 in
theorem less_any (n m : Nat) (s t : Bool) (hn : n < 4294967296 ^ 10) (hm : m < 4294967296 ^ 10) (w : World) :
    Calls Try.prog 79 #[big (limb n) s, big (limb m) t] w fun e w' => e = .returned (.bool (decide (n < m))) ∧ Only (fun _ => False) w w' := by
  have cn0 : ∀ i, i < 10 → ((w.alloc (.cells (bigC (limb n) s) 125)).alloc (.cells (bigC (limb m) t) 125)).cell? ⟨w.heap.size, i, none⟩ = some (.int .u64 (limb n i : Int)) := fun i hi =>
    ((Only.refl (fun _ => False) _).alloc _).cell' (box_cells w (limb n) s _ _ rfl i hi) (fun f => f)
  have cm0 : ∀ i, i < 10 → ((w.alloc (.cells (bigC (limb n) s) 125)).alloc (.cells (bigC (limb m) t) 125)).cell? ⟨w.heap.size + 1, i, none⟩ = some (.int .u64 (limb m i : Int)) := fun i hi =>
    box_cells _ (limb m) t _ _ (by rw [size_alloc]) i hi
  have CN := Lib.hid cn0
  have CM := Lib.hid cm0
  have HN := Lib.hid hn
  have HM := Lib.hid hm
  clear cn0 cm0 hn hm
  unfold big
  go_enter Try.func79, Try.ntmps79
  go_wp2_with fail
  go_loopw [5] (fun x wr => ∃ k : Nat, k ≤ 10 ∧ x = .int .i64 ((k : Int) - 1) ∧ Hid (n / 4294967296 ^ k = m / 4294967296 ^ k) ∧ Hid (Only (fun _ => False) ((w.alloc (.cells (bigC (limb n) s) 125)).alloc (.cells (bigC (limb m) t) 125)) wr)) (fun x _ => (intOf x + 1).toNat)
  case atStart => exact ⟨10, by omega, rfl, Lib.hid (by rw [div_top HN.out, div_top HM.out]), Lib.hid (Only.refl _ _)⟩
  case round =>
    obtain ⟨k, hk, rfl, HD, HO⟩ := hrel
    have O0 := Lib.hid ((((Only.refl (fun _ => False) w).alloc _).alloc _).trans HO.out)
    rcases Nat.eq_zero_or_pos k with h0 | h0
    · subst h0
      have hnm : n = m := by have := HD.out; simpa using this
      have hR : Hid (decide (n < m) = false) := Lib.hid (by simp; omega)
      clear hnm
      go_wp2
      go_ret
      rw [hR.out]
      exact ⟨rfl, O0.out⟩
    · obtain ⟨j, rfl⟩ : ∃ j, k = j + 1 := ⟨k - 1, by omega⟩
      rw [show (((j + 1 : Nat) : Int) - 1) = (j : Int) by omega]
      have x1 := HO.out.cell' (CN.out j (by omega)) (fun f => f)
      have x2 := HO.out.cell' (CM.out j (by omega)) (fun f => f)
      obtain ⟨a, ha⟩ : ∃ a, limb n j = a := ⟨_, rfl⟩
      obtain ⟨b, hb⟩ : ∃ b, limb m j = b := ⟨_, rfl⟩
      rw [ha] at x1
      rw [hb] at x2
      have HA := Lib.hid ha
      have HB := Lib.hid hb
      clear ha hb
      by_cases hab : a = b
      · have HS : Hid (n / 4294967296 ^ j = m / 4294967296 ^ j) := Lib.hid (by rw [div_step n j, div_step m j, HD.out, HA.out, HB.out, hab])
        have hq : ((a : Int) != (b : Int)) = false := by rw [bne_eq_false_iff_eq]; omega
        clear hab
        go_wp2_with fail
        go_region
        all_goals
          clear x1 x2 hq
          go_wp2_with fail
          go_roundw
          case rel => exact ⟨j, by omega, by go_num, HS, Lib.hid HO.out.drew⟩
          case measure => simp [intOf]
      · have hR : Hid (decide (n < m) = decide (a < b)) := Lib.hid (by rw [less_at HD.out (by rw [HA.out, HB.out]; exact hab), HA.out, HB.out])
        have hq : ((a : Int) != (b : Int)) = true := by rw [bne_iff_ne]; omega
        clear hab
        go_wp2_with fail
        go_region
        all_goals
          go_wp2_with fail
          go_region
          all_goals
            go_wp2
            go_ret
            rw [hR.out]
            exact ⟨rfl, O0.out.drew.drew⟩
end Go.Proofs.Ythflglejhhebeaa.bigw
