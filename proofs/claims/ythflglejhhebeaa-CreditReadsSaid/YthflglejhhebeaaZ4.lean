/- Several texts together: BigM, BigW, BigAdd, BigPlus, IntM, BigInt, BigMinus, BigTimes, Pairs0, SumA, SumR. -/
import Derived.Laws.BitsAllLaws
import Derived.Test.YthflglejhhebeaaMem
import Derived.RegionTactic
import Derived.ChangeAlike
import Derived.Outline
import Derived.ChangeKeysEq
import Derived.IntWalk
import Derived.RowKit
import Derived.Test.YthflglejhhebeaaMemI
import Derived.Laws.Externs
import Derived.Deep.RegionWith
namespace Go.Proofs.Ythflglejhhebeaa.bigm
set_option linter.unusedVariables false

/-- the i-th part of a number -/
def limb (n i : Nat) : Nat := n / 4294967296 ^ i % 4294967296

theorem limb_lt (n i : Nat) : limb n i < 4294967296 := Nat.mod_lt _ (by omega)

theorem pow_pos32 (i : Nat) : 0 < 4294967296 ^ i := Nat.pow_pos (by omega)

/-- the lower parts, and one more -/
theorem mod_step (n i : Nat) : n % 4294967296 ^ (i + 1) = n % 4294967296 ^ i + limb n i * 4294967296 ^ i := by
  have h1 : n % 4294967296 ^ (i + 1) / 4294967296 ^ i = limb n i := by
    unfold limb; rw [Nat.pow_succ, Nat.mod_mul_right_div_self]
  have h2 : n % 4294967296 ^ (i + 1) % 4294967296 ^ i = n % 4294967296 ^ i := by
    rw [Nat.pow_succ, Nat.mod_mul_right_mod]
  have h3 := Nat.div_add_mod (n % 4294967296 ^ (i + 1)) (4294967296 ^ i)
  rw [h1, h2, Nat.mul_comm] at h3
  omega

/-- what is carried -/
def over (n m i : Nat) : Nat := (n % 4294967296 ^ i + m % 4294967296 ^ i) / 4294967296 ^ i

theorem over_zero (n m : Nat) : over n m 0 = 0 := by unfold over; simp [Nat.mod_one]

theorem over_le (n m i : Nat) : over n m i ≤ 1 := by
  unfold over
  have hp := pow_pos32 i
  have h1 := Nat.mod_lt n hp
  have h2 := Nat.mod_lt m hp
  have : (n % 4294967296 ^ i + m % 4294967296 ^ i) / 4294967296 ^ i < 2 := by
    rw [Nat.div_lt_iff_lt_mul hp]; omega
  omega

theorem add_step (n m i : Nat) : (limb n i + limb m i + over n m i) % 4294967296 = limb (n + m) i ∧ (limb n i + limb m i + over n m i) / 4294967296 = over n m (i + 1) := by
  have hp := pow_pos32 i
  have e : (n % 4294967296 ^ (i + 1) + m % 4294967296 ^ (i + 1)) / 4294967296 ^ i = limb n i + limb m i + over n m i := by
    rw [mod_step n i, mod_step m i]
    unfold over
    rw [show n % 4294967296 ^ i + limb n i * 4294967296 ^ i + (m % 4294967296 ^ i + limb m i * 4294967296 ^ i) = (n % 4294967296 ^ i + m % 4294967296 ^ i) + (limb n i + limb m i) * 4294967296 ^ i by rw [Nat.add_mul]; omega]
    rw [Nat.add_mul_div_right _ _ hp]; omega
  constructor
  · rw [← e]
    unfold limb
    rw [← Nat.mod_mul_right_div_self, ← Nat.mod_mul_right_div_self (n + m)]
    rw [← Nat.pow_succ, ← Nat.add_mod]
  · rw [← e]
    unfold over
    rw [Nat.div_div_eq_div_mul, ← Nat.pow_succ]

/-- a number's parts, put together -/
def val (A : Nat → Nat) : Nat → Nat
  | 0 => 0
  | k + 1 => val A k + A k * 4294967296 ^ k

theorem val_lt (A : Nat → Nat) (k : Nat) (h : ∀ i, i < k → A i < 4294967296) : val A k < 4294967296 ^ k := by
  induction k with
  | zero => simp [val]
  | succ k ih =>
    have h1 := ih (fun i hi => h i (by omega))
    have h2 := h k (by omega)
    show val A k + A k * 4294967296 ^ k < _
    rw [Nat.pow_succ]
    have : A k * 4294967296 ^ k ≤ 4294967295 * 4294967296 ^ k := Nat.mul_le_mul_right _ (by omega)
    omega

theorem val_limb (n k : Nat) : val (limb n) k = n % 4294967296 ^ k := by
  induction k with
  | zero => simp [val, Nat.mod_one]
  | succ k ih => show val (limb n) k + limb n k * 4294967296 ^ k = _; rw [ih, mod_step]

/-- parts are those of what they come to -/
theorem limb_val (A : Nat → Nat) (k : Nat) (h : ∀ i, i < k → A i < 4294967296) : ∀ i, i < k → limb (val A k) i = A i := by
  induction k with
  | zero => intro i hi; omega
  | succ k ih =>
    intro i hi
    have hlt := val_lt A k (fun j hj => h j (by omega))
    have hp := pow_pos32 k
    by_cases hik : i = k
    · subst hik
      unfold limb
      show (val A i + A i * 4294967296 ^ i) / 4294967296 ^ i % 4294967296 = A i
      rw [Nat.add_mul_div_right _ _ hp, Nat.div_eq_of_lt hlt, Nat.zero_add, Nat.mod_eq_of_lt (h i (by omega))]
    · have h1 := ih (fun j hj => h j (by omega)) i (by omega)
      have h2 : val A (k + 1) % 4294967296 ^ (i + 1) = val A k % 4294967296 ^ (i + 1) := by
        show (val A k + A k * 4294967296 ^ k) % _ = _
        obtain ⟨d, hd⟩ : ∃ d, k = i + 1 + d := ⟨k - (i + 1), by omega⟩
        rw [hd, Nat.pow_add, Nat.mul_left_comm, Nat.add_mul_mod_self_left]
      have h3 : ∀ x, limb x i = x % 4294967296 ^ (i + 1) / 4294967296 ^ i := fun x => by
        unfold limb; rw [Nat.pow_succ, Nat.mod_mul_right_div_self]
      rw [h3, h2, ← h3, h1]

theorem sub_mod {n m K : Nat} (hK : 0 < K) (h : m ≤ n) : (n - m) % K + m % K = n % K + (if n % K < m % K then K else 0) := by
  have hn := Nat.div_add_mod n K
  have hm := Nat.div_add_mod m K
  have ln := Nat.mod_lt n hK
  have lm := Nat.mod_lt m hK
  by_cases hlt : n % K < m % K
  · rw [if_pos hlt]
    have hq : m / K < n / K := by
      rcases Nat.lt_or_ge (m / K) (n / K) with h1 | h1
      · exact h1
      · have := Nat.mul_le_mul_left K h1; omega
    obtain ⟨t, ht⟩ : ∃ t, n / K = m / K + 1 + t := ⟨n / K - (m / K + 1), by omega⟩
    have e : K * (n / K) = K * (m / K) + K + K * t := by rw [ht, Nat.mul_add, Nat.mul_add, Nat.mul_one]
    have e2 : n - m = (n % K + K - m % K) + K * t := by omega
    rw [e2, Nat.add_mul_mod_self_left, Nat.mod_eq_of_lt (by omega)]; omega
  · rw [if_neg hlt]
    have hq : m / K ≤ n / K := Nat.div_le_div_right h
    obtain ⟨t, ht⟩ : ∃ t, n / K = m / K + t := ⟨n / K - m / K, by omega⟩
    have e : K * (n / K) = K * (m / K) + K * t := by rw [ht, Nat.mul_add]
    have e2 : n - m = (n % K - m % K) + K * t := by omega
    rw [e2, Nat.add_mul_mod_self_left, Nat.mod_eq_of_lt (by omega)]; omega

/-- what is borrowed -/
def under (n m i : Nat) : Nat := if n % 4294967296 ^ i < m % 4294967296 ^ i then 1 else 0
theorem under_zero (n m : Nat) : under n m 0 = 0 := by unfold under; simp [Nat.mod_one]
theorem under_le (n m i : Nat) : under n m i ≤ 1 := by unfold under; split <;> omega

theorem sub_step {n m : Nat} (h : m ≤ n) (i : Nat) : limb n i + 4294967296 * under n m (i + 1) = limb (n - m) i + limb m i + under n m i := by
  have hp := pow_pos32 i
  have h1 := sub_mod (K := 4294967296 ^ i) hp h
  have h2 := sub_mod (K := 4294967296 ^ (i + 1)) (pow_pos32 (i + 1)) h
  rw [mod_step n i, mod_step m i, mod_step (n - m) i] at h2
  have e1 : (if n % 4294967296 ^ i < m % 4294967296 ^ i then 4294967296 ^ i else 0) = under n m i * 4294967296 ^ i := by
    unfold under; split <;> simp
  have e2 : (if n % 4294967296 ^ i + limb n i * 4294967296 ^ i < m % 4294967296 ^ i + limb m i * 4294967296 ^ i then 4294967296 ^ (i + 1) else 0) = under n m (i + 1) * 4294967296 * 4294967296 ^ i := by
    rw [← mod_step, ← mod_step]
    unfold under
    split
    · rw [Nat.pow_succ, Nat.one_mul, Nat.mul_comm]
    · simp
  rw [e1] at h1
  rw [e2] at h2
  have h3 : (limb n i + 4294967296 * under n m (i + 1)) * 4294967296 ^ i = (limb (n - m) i + limb m i + under n m i) * 4294967296 ^ i := by
    rw [Nat.add_mul, Nat.add_mul, Nat.add_mul, Nat.mul_comm 4294967296 (under n m (i + 1))]
    omega
  exact Nat.eq_of_mul_eq_mul_right hp h3

theorem div_step (n k : Nat) : n / 4294967296 ^ k = n / 4294967296 ^ (k + 1) * 4294967296 + limb n k := by
  unfold limb
  rw [Nat.pow_succ, ← Nat.div_div_eq_div_mul]
  have := Nat.div_add_mod (n / 4294967296 ^ k) 4294967296
  omega

theorem lt_of_div {n m k : Nat} (h : n / 4294967296 ^ k < m / 4294967296 ^ k) : n < m := by
  rcases Nat.lt_or_ge n m with h1 | h1
  · exact h1
  · have := Nat.div_le_div_right (c := 4294967296 ^ k) h1
    omega

theorem less_at {n m k : Nat} (h : n / 4294967296 ^ (k + 1) = m / 4294967296 ^ (k + 1)) (hne : limb n k ≠ limb m k) : decide (n < m) = decide (limb n k < limb m k) := by
  have h1 := div_step n k
  have h2 := div_step m k
  rcases Nat.lt_or_gt_of_ne hne with hl | hl
  · have : n < m := lt_of_div (k := k) (by omega)
    simp [this, hl]
  · have : m < n := lt_of_div (k := k) (by omega)
    have a : ¬ n < m := by omega
    have b : ¬ limb n k < limb m k := by omega
    simp [a, b]

theorem div_top {n k : Nat} (h : n < 4294967296 ^ k) : n / 4294967296 ^ k = 0 := Nat.div_eq_of_lt h

theorem big_of_limb {n i : Nat} (hi : 2 ≤ i) (h : ¬ limb n i = 0) : 18446744073709551616 ≤ n := by
  rcases Nat.lt_or_ge n 18446744073709551616 with h1 | h1
  · exfalso
    apply h
    unfold limb
    have : 4294967296 ^ 2 ≤ 4294967296 ^ i := Nat.pow_le_pow_right (by omega) hi
    rw [Nat.div_eq_of_lt (by omega)]
  · exact h1

theorem val_high (n : Nat) (h : ∀ j, 2 ≤ j → j < 10 → limb n j = 0) : ∀ k, k + 2 ≤ 10 → val (limb n) (k + 2) = val (limb n) 2 := by
  intro k
  induction k with
  | zero => intro _; rfl
  | succ k ih =>
    intro h2
    show val (limb n) (k + 2) + limb n (k + 2) * 4294967296 ^ (k + 2) = val (limb n) 2
    rw [ih (by omega), h (k + 2) (by omega) (by omega), Nat.zero_mul, Nat.add_zero]

theorem small_of {n a b : Nat} (h1 : a = n) (h2 : b = n % 18446744073709551616) (h3 : a = b) : n < 18446744073709551616 := by omega

theorem small_of_limbs {n : Nat} (hn : n < 4294967296 ^ 10) (h : ∀ j, 2 ≤ j → j < 10 → limb n j = 0) : n < 18446744073709551616 :=
  small_of ((val_limb n 10).trans (Nat.mod_eq_of_lt hn)) (val_limb n 2) (val_high n h 8 (Nat.le_refl _))

theorem or_limbs {n a b : Nat} (hn : n < 18446744073709551616) (ha : a = n % 4294967296) (hb : b = n / 4294967296) : bits .or .u64 (a : Int) (IntKind.u64.wrap ((b : Int) * 4294967296)) = (n : Int) := by
  have hw : IntKind.u64.wrap ((b : Int) * 4294967296) = ((b * 4294967296 : Nat) : Int) := by
    rw [IntKind.wrap_u64]; omega
  rw [hw, u64_or_nat _ _ (by omega) (by omega)]
  have h2 := Nat.shiftLeft_add_eq_or_of_lt (b := a) (i := 32) (by omega) b
  rw [Nat.shiftLeft_eq] at h2
  have e : (2 : Nat) ^ 32 = 4294967296 := by decide
  rw [e] at h2
  rw [Nat.or_comm, ← h2]
  congr 1
  omega
end Go.Proofs.Ythflglejhhebeaa.bigm

namespace Go.Proofs.Ythflglejhhebeaa.bigw
open Go.RowKit mem bigm
set_option linter.unusedVariables false

/-- a number in parts, as a value -/
def big (A : Nat → Nat) (s : Bool) : Value := .agg #[.int .u64 (A 0 : Int), .int .u64 (A 1 : Int), .int .u64 (A 2 : Int), .int .u64 (A 3 : Int), .int .u64 (A 4 : Int), .int .u64 (A 5 : Int), .int .u64 (A 6 : Int), .int .u64 (A 7 : Int), .int .u64 (A 8 : Int), .int .u64 (A 9 : Int), .bool s]
def bigC (A : Nat → Nat) (s : Bool) : Array Value := #[.int .u64 (A 0 : Int), .int .u64 (A 1 : Int), .int .u64 (A 2 : Int), .int .u64 (A 3 : Int), .int .u64 (A 4 : Int), .int .u64 (A 5 : Int), .int .u64 (A 6 : Int), .int .u64 (A 7 : Int), .int .u64 (A 8 : Int), .int .u64 (A 9 : Int), .bool s]

theorem bigC_get (A : Nat → Nat) (s : Bool) (i : Nat) (h : i < 10) : (bigC A s)[i]? = some (.int .u64 (A i : Int)) := by
  match i, h with
  | 0, _ => rfl
  | 1, _ => rfl
  | 2, _ => rfl
  | 3, _ => rfl
  | 4, _ => rfl
  | 5, _ => rfl
  | 6, _ => rfl
  | 7, _ => rfl
  | 8, _ => rfl
  | 9, _ => rfl

theorem limbs64 (k : Nat) (h : k < 18446744073709551616) (s : Bool) : big (limb k) s = .agg #[.int .u64 ((k % 4294967296 : Nat) : Int), .int .u64 ((k / 4294967296 : Nat) : Int), .int .u64 0, .int .u64 0, .int .u64 0, .int .u64 0, .int .u64 0, .int .u64 0, .int .u64 0, .int .u64 0, .bool s] := by
  have h0 : limb k 0 = k % 4294967296 := by unfold limb; simp
  have h1 : limb k 1 = k / 4294967296 := by unfold limb; simp; omega
  have hz : ∀ i, 2 ≤ i → limb k i = 0 := by
    intro i hi
    unfold limb
    have : 4294967296 ^ 2 ≤ 4294967296 ^ i := Nat.pow_le_pow_right (by omega) hi
    rw [Nat.div_eq_of_lt (by omega)]
  unfold big
  rw [h0, h1, hz 2 (by omega), hz 3 (by omega), hz 4 (by omega), hz 5 (by omega), hz 6 (by omega), hz 7 (by omega), hz 8 (by omega), hz 9 (by omega)]
  rfl

theorem and_low (z : Int) (h0 : 0 ≤ z) (h1 : z < 18446744073709551616) : bits .and .u64 z 4294967295 = z % 4294967296 := by go_bits2

set_option maxRecDepth 100000 in
theorem of_any (n : Int) (hn : -9223372036854775808 ≤ n ∧ n ≤ 9223372036854775807) (w : World) :
    Calls Try.prog 73 #[.int .i64 n] w fun e w' => e = .returned (big (limb n.natAbs) (decide (n < 0))) ∧ Only (fun _ => False) w w' := by
  by_cases h0 : n < 0
  · have hk : n.natAbs < 18446744073709551616 := by omega
    have HB := Lib.hid (limbs64 n.natAbs hk (decide (n < 0)))
    have hd : Hid (decide (n < 0) = true) := Lib.hid (by simp; omega)
    obtain ⟨k, hkn⟩ : ∃ k : Nat, (k : Int) = -n := ⟨n.natAbs, by omega⟩
    have hw : IntKind.u64.wrap (-IntKind.u64.wrap n) = (k : Int) := by simp only [IntKind.wrap_u64]; omega
    have hand := and_low (k : Int) (by omega) (by omega)
    have HE : Hid (n.natAbs = k) := Lib.hid (by omega)
    clear hkn
    go_enter Try.func73, Try.ntmps73
    go_wp2
    rw [HB.out, hd.out, HE.out]
    exact bodyPost_ret (v := .agg #[.int .u64 ((k % 4294967296 : Nat) : Int), .int .u64 ((k / 4294967296 : Nat) : Int), .int .u64 0, .int .u64 0, .int .u64 0, .int .u64 0, .int .u64 0, .int .u64 0, .int .u64 0, .int .u64 0, .bool true])
      (by simp [results, Try.results73, go_sem]) rfl ⟨rfl, ((Only.refl _ w).alloc _).alloc _⟩
  · obtain ⟨k, rfl⟩ := Int.eq_ofNat_of_zero_le (Int.not_lt.1 h0)
    have hand := and_low (k : Int) (by omega) (by omega)
    have HB := Lib.hid (limbs64 k (by omega) (decide ((k : Int) < 0)))
    have hd : Hid (decide ((k : Int) < 0) = false) := Lib.hid (by simp)
    rw [show ((k : Int)).natAbs = k by omega]
    go_enter Try.func73, Try.ntmps73
    go_wp2
    rw [HB.out, hd.out]
    exact bodyPost_ret (v := .agg #[.int .u64 ((k % 4294967296 : Nat) : Int), .int .u64 ((k / 4294967296 : Nat) : Int), .int .u64 0, .int .u64 0, .int .u64 0, .int .u64 0, .int .u64 0, .int .u64 0, .int .u64 0, .int .u64 0, .bool false])
      (by simp [results, Try.results73, go_sem]) rfl ⟨rfl, ((Only.refl _ w).alloc _).alloc _⟩

/-- the cells of a boxed number -/
theorem box_cells (w : World) (A : Nat → Nat) (s : Bool) (t : TypeId) (g : Nat) (hg : g = w.heap.size) : ∀ i, i < 10 → (w.alloc (.cells (bigC A s) t)).cell? ⟨g, i, none⟩ = some (.int .u64 (A i : Int)) := by
  intro i hi
  subst hg
  rw [Go.Joins.cell_of_block (cs := bigC A s) (t := t) (fr := (0, 0)) (by rw [heap_alloc, if_pos rfl]), bigC_get A s i hi]

set_option maxRecDepth 100000 in
set_option maxHeartbeats 1000000 in
theorem less_any (n m : Nat) (s t : Bool) (hn : n < 4294967296 ^ 10) (hm : m < 4294967296 ^ 10) (w : World) :
    Calls Try.prog 79 #[big (limb n) s, big (limb m) t] w fun e w' => e = .returned (.bool (decide (n < m))) ∧ Only (fun _ => False) w w' := by
  have cn0 : ∀ i, i < 10 → ((w.alloc (.cells (bigC (limb n) s) 125)).alloc (.cells (bigC (limb m) t) 125)).cell? ⟨w.heap.size, i, none⟩ = some (.int .u64 (limb n i : Int)) := fun i hi =>
    ((Only.refl (fun _ => False) _).alloc _).cell' (box_cells w (limb n) s _ _ rfl i hi) (fun f => f)
  have cm0 : ∀ i, i < 10 → ((w.alloc (.cells (bigC (limb n) s) 125)).alloc (.cells (bigC (limb m) t) 125)).cell? ⟨w.heap.size + 1, i, none⟩ = some (.int .u64 (limb m i : Int)) := fun i hi =>
    box_cells _ (limb m) t _ _ (by rw [size_alloc]) i hi
  have CN := Lib.hid cn0
  have CM := Lib.hid cm0
  have HN := Lib.hid hn
  have HM := Lib.hid hm
  clear cn0 cm0 hn hm
  unfold big
  go_enter Try.func79, Try.ntmps79
  go_wp2_with fail
  go_loopw [5] (fun x wr => ∃ k : Nat, k ≤ 10 ∧ x = .int .i64 ((k : Int) - 1) ∧ Hid (n / 4294967296 ^ k = m / 4294967296 ^ k) ∧ Hid (Only (fun _ => False) ((w.alloc (.cells (bigC (limb n) s) 125)).alloc (.cells (bigC (limb m) t) 125)) wr)) (fun x _ => (intOf x + 1).toNat)
  case atStart => exact ⟨10, by omega, rfl, Lib.hid (by rw [div_top HN.out, div_top HM.out]), Lib.hid (Only.refl _ _)⟩
  case round =>
    obtain ⟨k, hk, rfl, HD, HO⟩ := hrel
    have O0 := Lib.hid ((((Only.refl (fun _ => False) w).alloc _).alloc _).trans HO.out)
    rcases Nat.eq_zero_or_pos k with h0 | h0
    · subst h0
      have hnm : n = m := by have := HD.out; simpa using this
      have hR : Hid (decide (n < m) = false) := Lib.hid (by simp; omega)
      clear hnm
      go_wp2
      go_ret
      rw [hR.out]
      exact ⟨rfl, O0.out⟩
    · obtain ⟨j, rfl⟩ : ∃ j, k = j + 1 := ⟨k - 1, by omega⟩
      rw [show (((j + 1 : Nat) : Int) - 1) = (j : Int) by omega]
      have x1 := HO.out.cell' (CN.out j (by omega)) (fun f => f)
      have x2 := HO.out.cell' (CM.out j (by omega)) (fun f => f)
      obtain ⟨a, ha⟩ : ∃ a, limb n j = a := ⟨_, rfl⟩
      obtain ⟨b, hb⟩ : ∃ b, limb m j = b := ⟨_, rfl⟩
      rw [ha] at x1
      rw [hb] at x2
      have HA := Lib.hid ha
      have HB := Lib.hid hb
      clear ha hb
      by_cases hab : a = b
      · have HS : Hid (n / 4294967296 ^ j = m / 4294967296 ^ j) := Lib.hid (by rw [div_step n j, div_step m j, HD.out, HA.out, HB.out, hab])
        have hq : ((a : Int) != (b : Int)) = false := by rw [bne_eq_false_iff_eq]; omega
        clear hab
        go_wp2_with fail
        go_region
        all_goals
          clear x1 x2 hq
          go_wp2_with fail
          go_roundw
          case rel => exact ⟨j, by omega, by go_num, HS, Lib.hid HO.out.drew⟩
          case measure => simp [intOf]
      · have hR : Hid (decide (n < m) = decide (a < b)) := Lib.hid (by rw [less_at HD.out (by rw [HA.out, HB.out]; exact hab), HA.out, HB.out])
        have hq : ((a : Int) != (b : Int)) = true := by rw [bne_iff_ne]; omega
        clear hab
        go_wp2_with fail
        go_region
        all_goals
          go_wp2_with fail
          go_region
          all_goals
            go_wp2
            go_ret
            rw [hR.out]
            exact ⟨rfl, O0.out.drew.drew⟩
end Go.Proofs.Ythflglejhhebeaa.bigw

namespace Go.Proofs.Ythflglejhhebeaa.bigw
open Go.RowKit mem bigm
set_option linter.unusedVariables false

theorem off_ne {b i j : Nat} (h : i ≠ j) : (⟨b, i, none⟩ : Addr) ≠ ⟨b, j, none⟩ := fun e => h (by injection e)

/-- the first i parts of one number, the others of another -/
def mix (N n i j : Nat) : Nat := if j < i then limb N j else limb n j

theorem frozen_new (w : World) (C : Array Value) (t : TypeId) (g j : Nat) (hg : g = w.heap.size) : (w.alloc (.cells C t)).frozen? ⟨g, j, none⟩ = false := by subst hg; simp

theorem cell_new (w : World) (A : Nat → Nat) (s : Bool) (t : TypeId) (g : Nat) (hg : g = w.heap.size) (j : Nat) : (w.alloc (.cells (bigC A s) t)).cell? ⟨g, j, none⟩ = (bigC A s)[j]? := by
  subst hg
  rw [Go.Joins.cell_of_block (cs := bigC A s) (t := t) (fr := (0, 0)) (by rw [heap_alloc, if_pos rfl])]

/-- three numbers boxed, one behind the other -/
def boxes (w : World) (A B C : Nat → Nat) (s t u : Bool) (ty : TypeId) : World := ((w.alloc (.cells (bigC A s) ty)).alloc (.cells (bigC B t) ty)).alloc (.cells (bigC C u) ty)

theorem boxes_one (w : World) (A B C : Nat → Nat) (s t u : Bool) (ty : TypeId) (j : Nat) (v : Value) (h : (bigC A s)[j]? = some v) : (boxes w A B C s t u ty).cell? ⟨w.heap.size, j, none⟩ = some v ∧ (boxes w A B C s t u ty).frozen? ⟨w.heap.size, j, none⟩ = false := by
  have h1 := cell_new w A s ty _ rfl j
  rw [h] at h1
  have o : Only (fun _ => False) (w.alloc (.cells (bigC A s) ty)) (boxes w A B C s t u ty) := ((Only.refl _ _).alloc _).alloc _
  exact ⟨o.cell' h1 (fun f => f), (o.frozen (p := ⟨w.heap.size, j, none⟩) (by rw [size_alloc]; exact Nat.lt_succ_self _) (fun f => f)).trans (frozen_new w _ ty _ j rfl)⟩
theorem boxes_two (w : World) (A B C : Nat → Nat) (s t u : Bool) (ty : TypeId) (j : Nat) (v : Value) (h : (bigC B t)[j]? = some v) : (boxes w A B C s t u ty).cell? ⟨w.heap.size + 1, j, none⟩ = some v := by
  have h1 := cell_new (w.alloc (.cells (bigC A s) ty)) B t ty (w.heap.size + 1) (by rw [size_alloc]) j
  rw [h] at h1
  exact ((Only.refl (fun _ => False) _).alloc _).cell' h1 (fun f => f)
theorem boxes_three (w : World) (A B C : Nat → Nat) (s t u : Bool) (ty : TypeId) (j : Nat) (v : Value) (h : (bigC C u)[j]? = some v) : (boxes w A B C s t u ty).cell? ⟨w.heap.size + 1 + 1, j, none⟩ = some v ∧ (boxes w A B C s t u ty).frozen? ⟨w.heap.size + 1 + 1, j, none⟩ = false := by
  have h1 := cell_new ((w.alloc (.cells (bigC A s) ty)).alloc (.cells (bigC B t) ty)) C u ty (w.heap.size + 1 + 1) (by rw [size_alloc, size_alloc]) j
  rw [h] at h1
  exact ⟨h1, frozen_new _ _ ty _ j (by rw [size_alloc, size_alloc])⟩
theorem boxes_size (w : World) (A B C : Nat → Nat) (s t u : Bool) (ty : TypeId) : (boxes w A B C s t u ty).heap.size = w.heap.size + 3 := by
  unfold boxes; rw [size_alloc, size_alloc, size_alloc]
theorem boxes_only (w : World) (A B C : Nat → Nat) (s t u : Bool) (ty : TypeId) : Only (fun _ => False) w (boxes w A B C s t u ty) := (((Only.refl _ _).alloc _).alloc _).alloc _

set_option maxRecDepth 100000 in
set_option maxHeartbeats 4000000 in
theorem add_any (n m : Nat) (s t : Bool) (w : World) :
    Calls Try.prog 78 #[big (limb n) s, big (limb m) t] w fun e w' => e = .returned (big (limb (n + m)) s) ∧ Only (fun _ => False) w w' := by
  have B1 := Lib.hid (boxes_one w (limb n) (limb m) (fun _ => 0) s t false 125)
  have B2 := Lib.hid (boxes_two w (limb n) (limb m) (fun _ => 0) s t false 125)
  have B3 := Lib.hid (boxes_three w (limb n) (limb m) (fun _ => 0) s t false 125)
  have BS := Lib.hid (boxes_size w (limb n) (limb m) (fun _ => 0) s t false 125)
  have BO := Lib.hid (boxes_only w (limb n) (limb m) (fun _ => 0) s t false 125)
  
  unfold big
  go_enter Try.func78, Try.ntmps78
  go_wp2_with fail
  go_loopw [5, 6] (fun o x wr => ∃ i : Nat, i ≤ 10 ∧ x = .int .i64 (i : Int) ∧ o = .int .u64 (over n m i : Int) ∧ Hid (∀ j, j < 10 → wr.cell? ⟨w.heap.size, j, none⟩ = some (.int .u64 (mix (n + m) n i j : Int))) ∧
    Hid (wr.cell? ⟨w.heap.size, 10, none⟩ = some (.bool s)) ∧ Hid (Only (fun k => k = w.heap.size) (boxes w (limb n) (limb m) (fun _ => 0) s t false 125) wr) ∧ Hid (∀ j, j < 10 → wr.frozen? ⟨w.heap.size, j, none⟩ = false)) (fun _ x _ => 10 - (intOf x).toNat)
  case atStart => exact ⟨0, by omega, rfl, by rw [over_zero]; rfl, Lib.hid (fun j hj => by unfold mix; rw [if_neg (by omega)]; exact (B1.out j _ (bigC_get _ _ j hj)).1), Lib.hid (B1.out 10 _ rfl).1, Lib.hid (Only.refl _ _), Lib.hid (fun j hj => (B1.out j _ (bigC_get _ _ j hj)).2)⟩
  case round =>
    obtain ⟨i, hi, rfl, rfl, HA, HS, HO, HF⟩ := hrel
    by_cases hi10 : i < 10
    · have x1 := HA.out i hi10
      have hmx : mix (n + m) n i i = limb n i := by unfold mix; rw [if_neg (by omega)]
      rw [hmx] at x1
      clear hmx
      have x2 := HO.out.cell' (B2.out i _ (bigC_get _ _ i hi10)) (by show ¬ w.heap.size + 1 = w.heap.size; omega)
      have xf := HF.out i hi10
      have hst := add_step n m i
      have hov := over_le n m i
      have l1 := limb_lt n i
      have l2 := limb_lt m i
      obtain ⟨a, ha⟩ : ∃ a, limb n i = a := ⟨_, rfl⟩
      obtain ⟨b, hb⟩ : ∃ b, limb m i = b := ⟨_, rfl⟩
      obtain ⟨o, ho⟩ : ∃ o, over n m i = o := ⟨_, rfl⟩
      rw [ha, hb, ho] at hst
      rw [ha] at l1 x1
      rw [hb] at l2 x2
      rw [ho] at hov ⊢
      have HST := Lib.hid hst
      have HOV : Hid (((a : Int) + (b : Int) + (o : Int)) / 4294967296 = (over n m (i + 1) : Int)) := Lib.hid (by rw [← hst.2]; omega)
      have hand := and_low ((a : Int) + (b : Int) + (o : Int)) (by omega) (by omega)
      have hlo : ((a : Int) + (b : Int) + (o : Int)) % 4294967296 = (limb (n + m) i : Int) := by rw [← hst.1]; omega
      rw [hlo] at hand
      clear hst hlo ha hb ho

      go_wp2_with fail
      go_region
      all_goals
        skip
        go_wp2_with fail
        have HN : Hid (∀ j, j < 10 → (wr.setCell ⟨w.heap.size, i, none⟩ (.int .u64 (limb (n + m) i : Int))).cell? ⟨w.heap.size, j, none⟩ = some (.int .u64 (mix (n + m) n (i + 1) j : Int))) := Lib.hid (fun j hj => by
          by_cases hji : j = i
          · subst hji
            rw [cell_same x1]; unfold mix; rw [if_pos (by omega)]
          · rw [cell_other (off_ne (by omega)), HA.out j hj]
            unfold mix
            by_cases hlt : j < i
            · rw [if_pos hlt, if_pos (by omega)]
            · rw [if_neg hlt, if_neg (by omega)])
        go_roundw
        case rel => exact ⟨i + 1, by omega, by go_num, by rw [HOV.out], HN, Lib.hid (by show (wr.setCell ⟨w.heap.size, i, none⟩ _).cell? _ = _; rw [cell_other (off_ne (by omega))]; exact HS.out), Lib.hid ((HO.out.setCell (p := ⟨w.heap.size, i, none⟩) (.inl rfl) _).drew), Lib.hid (fun j hj => by show (wr.setCell ⟨w.heap.size, i, none⟩ _).frozen? _ = _; rw [frozen_set]; exact HF.out j hj)⟩
        case measure => simp [intOf]; omega
    · obtain rfl : i = 10 := by omega
      have hmx : ∀ j, j < 10 → mix (n + m) n 10 j = limb (n + m) j := fun j hj => by unfold mix; rw [if_pos hj]
      have a0 := HA.out 0 (by omega)
      rw [hmx 0 (by omega)] at a0
      have a1 := HA.out 1 (by omega)
      rw [hmx 1 (by omega)] at a1
      have a2 := HA.out 2 (by omega)
      rw [hmx 2 (by omega)] at a2
      have a3 := HA.out 3 (by omega)
      rw [hmx 3 (by omega)] at a3
      have a4 := HA.out 4 (by omega)
      rw [hmx 4 (by omega)] at a4
      have a5 := HA.out 5 (by omega)
      rw [hmx 5 (by omega)] at a5
      have a6 := HA.out 6 (by omega)
      rw [hmx 6 (by omega)] at a6
      have a7 := HA.out 7 (by omega)
      rw [hmx 7 (by omega)] at a7
      have a8 := HA.out 8 (by omega)
      rw [hmx 8 (by omega)] at a8
      have a9 := HA.out 9 (by omega)
      rw [hmx 9 (by omega)] at a9
      have r0 := HO.out.cell' (B3.out 0 _ rfl).1 (by show ¬ w.heap.size + 1 + 1 = w.heap.size; omega)
      have z0 := (HO.out.frozen (p := ⟨w.heap.size + 1 + 1, 0, none⟩) (by have := BS.out; show w.heap.size + 1 + 1 < _; omega) (by show ¬ w.heap.size + 1 + 1 = w.heap.size; omega)).trans (B3.out 0 _ rfl).2
      have r1 := HO.out.cell' (B3.out 1 _ rfl).1 (by show ¬ w.heap.size + 1 + 1 = w.heap.size; omega)
      have z1 := (HO.out.frozen (p := ⟨w.heap.size + 1 + 1, 1, none⟩) (by have := BS.out; show w.heap.size + 1 + 1 < _; omega) (by show ¬ w.heap.size + 1 + 1 = w.heap.size; omega)).trans (B3.out 1 _ rfl).2
      have r2 := HO.out.cell' (B3.out 2 _ rfl).1 (by show ¬ w.heap.size + 1 + 1 = w.heap.size; omega)
      have z2 := (HO.out.frozen (p := ⟨w.heap.size + 1 + 1, 2, none⟩) (by have := BS.out; show w.heap.size + 1 + 1 < _; omega) (by show ¬ w.heap.size + 1 + 1 = w.heap.size; omega)).trans (B3.out 2 _ rfl).2
      have r3 := HO.out.cell' (B3.out 3 _ rfl).1 (by show ¬ w.heap.size + 1 + 1 = w.heap.size; omega)
      have z3 := (HO.out.frozen (p := ⟨w.heap.size + 1 + 1, 3, none⟩) (by have := BS.out; show w.heap.size + 1 + 1 < _; omega) (by show ¬ w.heap.size + 1 + 1 = w.heap.size; omega)).trans (B3.out 3 _ rfl).2
      have r4 := HO.out.cell' (B3.out 4 _ rfl).1 (by show ¬ w.heap.size + 1 + 1 = w.heap.size; omega)
      have z4 := (HO.out.frozen (p := ⟨w.heap.size + 1 + 1, 4, none⟩) (by have := BS.out; show w.heap.size + 1 + 1 < _; omega) (by show ¬ w.heap.size + 1 + 1 = w.heap.size; omega)).trans (B3.out 4 _ rfl).2
      have r5 := HO.out.cell' (B3.out 5 _ rfl).1 (by show ¬ w.heap.size + 1 + 1 = w.heap.size; omega)
      have z5 := (HO.out.frozen (p := ⟨w.heap.size + 1 + 1, 5, none⟩) (by have := BS.out; show w.heap.size + 1 + 1 < _; omega) (by show ¬ w.heap.size + 1 + 1 = w.heap.size; omega)).trans (B3.out 5 _ rfl).2
      have r6 := HO.out.cell' (B3.out 6 _ rfl).1 (by show ¬ w.heap.size + 1 + 1 = w.heap.size; omega)
      have z6 := (HO.out.frozen (p := ⟨w.heap.size + 1 + 1, 6, none⟩) (by have := BS.out; show w.heap.size + 1 + 1 < _; omega) (by show ¬ w.heap.size + 1 + 1 = w.heap.size; omega)).trans (B3.out 6 _ rfl).2
      have r7 := HO.out.cell' (B3.out 7 _ rfl).1 (by show ¬ w.heap.size + 1 + 1 = w.heap.size; omega)
      have z7 := (HO.out.frozen (p := ⟨w.heap.size + 1 + 1, 7, none⟩) (by have := BS.out; show w.heap.size + 1 + 1 < _; omega) (by show ¬ w.heap.size + 1 + 1 = w.heap.size; omega)).trans (B3.out 7 _ rfl).2
      have r8 := HO.out.cell' (B3.out 8 _ rfl).1 (by show ¬ w.heap.size + 1 + 1 = w.heap.size; omega)
      have z8 := (HO.out.frozen (p := ⟨w.heap.size + 1 + 1, 8, none⟩) (by have := BS.out; show w.heap.size + 1 + 1 < _; omega) (by show ¬ w.heap.size + 1 + 1 = w.heap.size; omega)).trans (B3.out 8 _ rfl).2
      have r9 := HO.out.cell' (B3.out 9 _ rfl).1 (by show ¬ w.heap.size + 1 + 1 = w.heap.size; omega)
      have z9 := (HO.out.frozen (p := ⟨w.heap.size + 1 + 1, 9, none⟩) (by have := BS.out; show w.heap.size + 1 + 1 < _; omega) (by show ¬ w.heap.size + 1 + 1 = w.heap.size; omega)).trans (B3.out 9 _ rfl).2
      have r10 := HO.out.cell' (B3.out 10 _ rfl).1 (by show ¬ w.heap.size + 1 + 1 = w.heap.size; omega)
      have z10 := (HO.out.frozen (p := ⟨w.heap.size + 1 + 1, 10, none⟩) (by have := BS.out; show w.heap.size + 1 + 1 < _; omega) (by show ¬ w.heap.size + 1 + 1 = w.heap.size; omega)).trans (B3.out 10 _ rfl).2
      have a10 := HS.out
      clear hmx
      have OW := Lib.hid (BO.out.then HO.out (fun i hi e => by omega))
      go_wp2
      refine bodyPost_ret (v := .agg #[.int .u64 (limb (n + m) 0 : Int), .int .u64 (limb (n + m) 1 : Int), .int .u64 (limb (n + m) 2 : Int), .int .u64 (limb (n + m) 3 : Int), .int .u64 (limb (n + m) 4 : Int), .int .u64 (limb (n + m) 5 : Int), .int .u64 (limb (n + m) 6 : Int), .int .u64 (limb (n + m) 7 : Int), .int .u64 (limb (n + m) 8 : Int), .int .u64 (limb (n + m) 9 : Int), .bool s]) (by simp [results, Try.results78, go_sem, r0, r1, r2, r3, r4, r5, r6, r7, r8, r9, r10]) rfl ⟨rfl, ?_⟩
      repeat (refine Only.setCell ?_ (.inr (by show w.heap.size ≤ w.heap.size + 1 + 1; omega)) _)
      exact OW.out
set_option maxRecDepth 100000 in
set_option maxHeartbeats 4000000 in
theorem sub_any (n m : Nat) (s t : Bool) (hmn : m ≤ n) (w : World) :
    Calls Try.prog 80 #[big (limb n) s, big (limb m) t] w fun e w' => e = .returned (big (limb (n - m)) s) ∧ Only (fun _ => False) w w' := by
  have B1 := Lib.hid (boxes_one w (limb n) (limb m) (fun _ => 0) s t false 125)
  have B2 := Lib.hid (boxes_two w (limb n) (limb m) (fun _ => 0) s t false 125)
  have B3 := Lib.hid (boxes_three w (limb n) (limb m) (fun _ => 0) s t false 125)
  have BS := Lib.hid (boxes_size w (limb n) (limb m) (fun _ => 0) s t false 125)
  have BO := Lib.hid (boxes_only w (limb n) (limb m) (fun _ => 0) s t false 125)
  have HMN := Lib.hid hmn
  clear hmn
  unfold big
  go_enter Try.func80, Try.ntmps80
  go_wp2_with fail
  go_loopw [5, 6] (fun o x wr => ∃ i : Nat, i ≤ 10 ∧ x = .int .i64 (i : Int) ∧ o = .int .u64 (under n m i : Int) ∧ Hid (∀ j, j < 10 → wr.cell? ⟨w.heap.size, j, none⟩ = some (.int .u64 (mix (n - m) n i j : Int))) ∧
    Hid (wr.cell? ⟨w.heap.size, 10, none⟩ = some (.bool s)) ∧ Hid (Only (fun k => k = w.heap.size) (boxes w (limb n) (limb m) (fun _ => 0) s t false 125) wr) ∧ Hid (∀ j, j < 10 → wr.frozen? ⟨w.heap.size, j, none⟩ = false)) (fun _ x _ => 10 - (intOf x).toNat)
  case atStart => exact ⟨0, by omega, rfl, by rw [under_zero]; rfl, Lib.hid (fun j hj => by unfold mix; rw [if_neg (by omega)]; exact (B1.out j _ (bigC_get _ _ j hj)).1), Lib.hid (B1.out 10 _ rfl).1, Lib.hid (Only.refl _ _), Lib.hid (fun j hj => (B1.out j _ (bigC_get _ _ j hj)).2)⟩
  case round =>
    obtain ⟨i, hi, rfl, rfl, HA, HS, HO, HF⟩ := hrel
    by_cases hi10 : i < 10
    · have x1 := HA.out i hi10
      have hmx : mix (n - m) n i i = limb n i := by unfold mix; rw [if_neg (by omega)]
      rw [hmx] at x1
      clear hmx
      have x2 := HO.out.cell' (B2.out i _ (bigC_get _ _ i hi10)) (by show ¬ w.heap.size + 1 = w.heap.size; omega)
      have xf := HF.out i hi10
      have hst := sub_step HMN.out i
      have hov := under_le n m i
      have hov2 := under_le n m (i + 1)
      have l1 := limb_lt n i
      have l2 := limb_lt m i
      have l3 := limb_lt (n - m) i
      obtain ⟨a, ha⟩ : ∃ a, limb n i = a := ⟨_, rfl⟩
      obtain ⟨b, hb⟩ : ∃ b, limb m i = b := ⟨_, rfl⟩
      obtain ⟨o, ho⟩ : ∃ o, under n m i = o := ⟨_, rfl⟩
      rw [ha, hb, ho] at hst
      rw [ha] at l1 x1
      rw [hb] at l2 x2
      rw [ho] at hov ⊢
      have HOV : Hid ((1 : Int) - ((a : Int) + 4294967296 - (b : Int) - (o : Int)) / 4294967296 = (under n m (i + 1) : Int)) := Lib.hid (by omega)
      have hand := and_low ((a : Int) + 4294967296 - (b : Int) - (o : Int)) (by omega) (by omega)
      have hlo : ((a : Int) + 4294967296 - (b : Int) - (o : Int)) % 4294967296 = (limb (n - m) i : Int) := by omega
      rw [hlo] at hand
      clear hst hlo ha hb ho hov2 l3

      go_wp2_with fail
      go_region
      all_goals
        skip
        go_wp2_with fail
        have HN : Hid (∀ j, j < 10 → (wr.setCell ⟨w.heap.size, i, none⟩ (.int .u64 (limb (n - m) i : Int))).cell? ⟨w.heap.size, j, none⟩ = some (.int .u64 (mix (n - m) n (i + 1) j : Int))) := Lib.hid (fun j hj => by
          by_cases hji : j = i
          · subst hji
            rw [cell_same x1]; unfold mix; rw [if_pos (by omega)]
          · rw [cell_other (off_ne (by omega)), HA.out j hj]
            unfold mix
            by_cases hlt : j < i
            · rw [if_pos hlt, if_pos (by omega)]
            · rw [if_neg hlt, if_neg (by omega)])
        go_roundw
        case rel => exact ⟨i + 1, by omega, by go_num, by rw [HOV.out], HN, Lib.hid (by show (wr.setCell ⟨w.heap.size, i, none⟩ _).cell? _ = _; rw [cell_other (off_ne (by omega))]; exact HS.out), Lib.hid ((HO.out.setCell (p := ⟨w.heap.size, i, none⟩) (.inl rfl) _).drew), Lib.hid (fun j hj => by show (wr.setCell ⟨w.heap.size, i, none⟩ _).frozen? _ = _; rw [frozen_set]; exact HF.out j hj)⟩
        case measure => simp [intOf]; omega
    · obtain rfl : i = 10 := by omega
      have hmx : ∀ j, j < 10 → mix (n - m) n 10 j = limb (n - m) j := fun j hj => by unfold mix; rw [if_pos hj]
      have a0 := HA.out 0 (by omega)
      rw [hmx 0 (by omega)] at a0
      have a1 := HA.out 1 (by omega)
      rw [hmx 1 (by omega)] at a1
      have a2 := HA.out 2 (by omega)
      rw [hmx 2 (by omega)] at a2
      have a3 := HA.out 3 (by omega)
      rw [hmx 3 (by omega)] at a3
      have a4 := HA.out 4 (by omega)
      rw [hmx 4 (by omega)] at a4
      have a5 := HA.out 5 (by omega)
      rw [hmx 5 (by omega)] at a5
      have a6 := HA.out 6 (by omega)
      rw [hmx 6 (by omega)] at a6
      have a7 := HA.out 7 (by omega)
      rw [hmx 7 (by omega)] at a7
      have a8 := HA.out 8 (by omega)
      rw [hmx 8 (by omega)] at a8
      have a9 := HA.out 9 (by omega)
      rw [hmx 9 (by omega)] at a9
      have r0 := HO.out.cell' (B3.out 0 _ rfl).1 (by show ¬ w.heap.size + 1 + 1 = w.heap.size; omega)
      have z0 := (HO.out.frozen (p := ⟨w.heap.size + 1 + 1, 0, none⟩) (by have := BS.out; show w.heap.size + 1 + 1 < _; omega) (by show ¬ w.heap.size + 1 + 1 = w.heap.size; omega)).trans (B3.out 0 _ rfl).2
      have r1 := HO.out.cell' (B3.out 1 _ rfl).1 (by show ¬ w.heap.size + 1 + 1 = w.heap.size; omega)
      have z1 := (HO.out.frozen (p := ⟨w.heap.size + 1 + 1, 1, none⟩) (by have := BS.out; show w.heap.size + 1 + 1 < _; omega) (by show ¬ w.heap.size + 1 + 1 = w.heap.size; omega)).trans (B3.out 1 _ rfl).2
      have r2 := HO.out.cell' (B3.out 2 _ rfl).1 (by show ¬ w.heap.size + 1 + 1 = w.heap.size; omega)
      have z2 := (HO.out.frozen (p := ⟨w.heap.size + 1 + 1, 2, none⟩) (by have := BS.out; show w.heap.size + 1 + 1 < _; omega) (by show ¬ w.heap.size + 1 + 1 = w.heap.size; omega)).trans (B3.out 2 _ rfl).2
      have r3 := HO.out.cell' (B3.out 3 _ rfl).1 (by show ¬ w.heap.size + 1 + 1 = w.heap.size; omega)
      have z3 := (HO.out.frozen (p := ⟨w.heap.size + 1 + 1, 3, none⟩) (by have := BS.out; show w.heap.size + 1 + 1 < _; omega) (by show ¬ w.heap.size + 1 + 1 = w.heap.size; omega)).trans (B3.out 3 _ rfl).2
      have r4 := HO.out.cell' (B3.out 4 _ rfl).1 (by show ¬ w.heap.size + 1 + 1 = w.heap.size; omega)
      have z4 := (HO.out.frozen (p := ⟨w.heap.size + 1 + 1, 4, none⟩) (by have := BS.out; show w.heap.size + 1 + 1 < _; omega) (by show ¬ w.heap.size + 1 + 1 = w.heap.size; omega)).trans (B3.out 4 _ rfl).2
      have r5 := HO.out.cell' (B3.out 5 _ rfl).1 (by show ¬ w.heap.size + 1 + 1 = w.heap.size; omega)
      have z5 := (HO.out.frozen (p := ⟨w.heap.size + 1 + 1, 5, none⟩) (by have := BS.out; show w.heap.size + 1 + 1 < _; omega) (by show ¬ w.heap.size + 1 + 1 = w.heap.size; omega)).trans (B3.out 5 _ rfl).2
      have r6 := HO.out.cell' (B3.out 6 _ rfl).1 (by show ¬ w.heap.size + 1 + 1 = w.heap.size; omega)
      have z6 := (HO.out.frozen (p := ⟨w.heap.size + 1 + 1, 6, none⟩) (by have := BS.out; show w.heap.size + 1 + 1 < _; omega) (by show ¬ w.heap.size + 1 + 1 = w.heap.size; omega)).trans (B3.out 6 _ rfl).2
      have r7 := HO.out.cell' (B3.out 7 _ rfl).1 (by show ¬ w.heap.size + 1 + 1 = w.heap.size; omega)
      have z7 := (HO.out.frozen (p := ⟨w.heap.size + 1 + 1, 7, none⟩) (by have := BS.out; show w.heap.size + 1 + 1 < _; omega) (by show ¬ w.heap.size + 1 + 1 = w.heap.size; omega)).trans (B3.out 7 _ rfl).2
      have r8 := HO.out.cell' (B3.out 8 _ rfl).1 (by show ¬ w.heap.size + 1 + 1 = w.heap.size; omega)
      have z8 := (HO.out.frozen (p := ⟨w.heap.size + 1 + 1, 8, none⟩) (by have := BS.out; show w.heap.size + 1 + 1 < _; omega) (by show ¬ w.heap.size + 1 + 1 = w.heap.size; omega)).trans (B3.out 8 _ rfl).2
      have r9 := HO.out.cell' (B3.out 9 _ rfl).1 (by show ¬ w.heap.size + 1 + 1 = w.heap.size; omega)
      have z9 := (HO.out.frozen (p := ⟨w.heap.size + 1 + 1, 9, none⟩) (by have := BS.out; show w.heap.size + 1 + 1 < _; omega) (by show ¬ w.heap.size + 1 + 1 = w.heap.size; omega)).trans (B3.out 9 _ rfl).2
      have r10 := HO.out.cell' (B3.out 10 _ rfl).1 (by show ¬ w.heap.size + 1 + 1 = w.heap.size; omega)
      have z10 := (HO.out.frozen (p := ⟨w.heap.size + 1 + 1, 10, none⟩) (by have := BS.out; show w.heap.size + 1 + 1 < _; omega) (by show ¬ w.heap.size + 1 + 1 = w.heap.size; omega)).trans (B3.out 10 _ rfl).2
      have a10 := HS.out
      clear hmx
      have OW := Lib.hid (BO.out.then HO.out (fun i hi e => by omega))
      go_wp2
      refine bodyPost_ret (v := .agg #[.int .u64 (limb (n - m) 0 : Int), .int .u64 (limb (n - m) 1 : Int), .int .u64 (limb (n - m) 2 : Int), .int .u64 (limb (n - m) 3 : Int), .int .u64 (limb (n - m) 4 : Int), .int .u64 (limb (n - m) 5 : Int), .int .u64 (limb (n - m) 6 : Int), .int .u64 (limb (n - m) 7 : Int), .int .u64 (limb (n - m) 8 : Int), .int .u64 (limb (n - m) 9 : Int), .bool s]) (by simp [results, Try.results80, go_sem, r0, r1, r2, r3, r4, r5, r6, r7, r8, r9, r10]) rfl ⟨rfl, ?_⟩
      repeat (refine Only.setCell ?_ (.inr (by show w.heap.size ≤ w.heap.size + 1 + 1; omega)) _)
      exact OW.out
end Go.Proofs.Ythflglejhhebeaa.bigw

namespace Go.Proofs.Ythflglejhhebeaa.bigw
open Go.RowKit mem bigm
set_option linter.unusedVariables false

theorem items_eq (w : World) (d : Nat) (xs ys : Array Value) (A B : Nat → Nat) : ∀ (is : List Nat), (∀ i ∈ is, xs[i]? = some (.int .u64 (A i : Int)) ∧ ys[i]? = some (.int .u64 (B i : Int))) →
    ∃ r : Bool, (Op.eqItems (d + 1) 55 1 xs ys is).run Try.prog w = .ok r w ∧ (r = true ↔ ∀ i ∈ is, A i = B i) := by
  intro is
  induction is with
  | nil => intro _; exact ⟨true, by simp [Op.eqItems], by simp⟩
  | cons i is ih =>
    intro h
    obtain ⟨h1, h2⟩ := h i (by simp)
    obtain ⟨r, hr, hiff⟩ := ih (fun j hj => h j (by simp [hj]))
    have hpk : Try.prog.plainKey 55 = true := by kernel_rfl
    have p1 := run_part_plain (P := Try.prog) (w := w) hpk (xs := xs) (off := i * 1) (v := .int .u64 (A i : Int)) (by rw [Nat.mul_one]; exact h1)
    have p2 := run_part_plain (P := Try.prog) (w := w) hpk (xs := ys) (off := i * 1) (v := .int .u64 (B i : Int)) (by rw [Nat.mul_one]; exact h2)
    have p3 := run_equalIn_int (P := Try.prog) w d 55 .u64 .u64 (A i : Int) (B i : Int) Try.underlying55
    simp only [Op.eqItems, Sem.run_bind, p1, p2, p3, Result.andThen_ok]
    by_cases hab : A i = B i
    · have : ((A i : Int) == (B i : Int)) = true := by rw [beq_iff_eq]; omega
      rw [this]
      refine ⟨r, by simpa using hr, ?_⟩
      rw [hiff]; simp [hab]
    · have : ((A i : Int) == (B i : Int)) = false := by rw [beq_eq_false_iff_ne]; omega
      rw [this]
      exact ⟨false, by simp, by simp [hab]⟩

/-- a number is none if all its parts are -/
def allZero (A : Nat → Nat) : Bool := (List.range 10).all fun i => A i == 0

theorem eq_zero_run (w : World) (A : Nat → Nat) :
    (Op.equalIn 10000 123 (.agg #[.int .u64 (A 0 : Int), .int .u64 (A 1 : Int), .int .u64 (A 2 : Int), .int .u64 (A 3 : Int), .int .u64 (A 4 : Int), .int .u64 (A 5 : Int), .int .u64 (A 6 : Int), .int .u64 (A 7 : Int), .int .u64 (A 8 : Int), .int .u64 (A 9 : Int)])
      (.agg #[.int .u64 0, .int .u64 0, .int .u64 0, .int .u64 0, .int .u64 0, .int .u64 0, .int .u64 0, .int .u64 0, .int .u64 0, .int .u64 0])).run Try.prog w = .ok (allZero A) w := by
  obtain ⟨i0, hi, _⟩ : ∃ i, Try.prog.info? 55 = some i ∧ True := by
    have h : (Try.prog.info? 55).isSome = true := by kernel_rfl
    exact ⟨_, (Option.some_get h).symm, trivial⟩
  have hc : Try.prog.cellsOf 55 = 1 := by kernel_rfl
  have h1 := run_equalIn_array (P := Try.prog) w 9999 (t := 123) (e := 55) (n := 10) #[.int .u64 (A 0 : Int), .int .u64 (A 1 : Int), .int .u64 (A 2 : Int), .int .u64 (A 3 : Int), .int .u64 (A 4 : Int), .int .u64 (A 5 : Int), .int .u64 (A 6 : Int), .int .u64 (A 7 : Int), .int .u64 (A 8 : Int), .int .u64 (A 9 : Int)]
    #[.int .u64 0, .int .u64 0, .int .u64 0, .int .u64 0, .int .u64 0, .int .u64 0, .int .u64 0, .int .u64 0, .int .u64 0, .int .u64 0] Try.underlying123 hi
  rw [h1, hc]
  obtain ⟨r, hr, hiff⟩ := items_eq w 9998 #[.int .u64 (A 0 : Int), .int .u64 (A 1 : Int), .int .u64 (A 2 : Int), .int .u64 (A 3 : Int), .int .u64 (A 4 : Int), .int .u64 (A 5 : Int), .int .u64 (A 6 : Int), .int .u64 (A 7 : Int), .int .u64 (A 8 : Int), .int .u64 (A 9 : Int)]
    #[.int .u64 0, .int .u64 0, .int .u64 0, .int .u64 0, .int .u64 0, .int .u64 0, .int .u64 0, .int .u64 0, .int .u64 0, .int .u64 0] A (fun _ => 0) (List.range 10) (by
      intro i hi
      rw [List.mem_range] at hi
      match i, hi with
      | 0, _ => exact ⟨rfl, rfl⟩
      | 1, _ => exact ⟨rfl, rfl⟩
      | 2, _ => exact ⟨rfl, rfl⟩
      | 3, _ => exact ⟨rfl, rfl⟩
      | 4, _ => exact ⟨rfl, rfl⟩
      | 5, _ => exact ⟨rfl, rfl⟩
      | 6, _ => exact ⟨rfl, rfl⟩
      | 7, _ => exact ⟨rfl, rfl⟩
      | 8, _ => exact ⟨rfl, rfl⟩
      | 9, _ => exact ⟨rfl, rfl⟩)
  rw [hr]
  have : r = allZero A := by
    rw [Bool.eq_iff_iff, hiff]
    unfold allZero
    simp [List.all_eq_true]
  rw [this]

set_option maxRecDepth 100000 in
theorem zero_any (A : Nat → Nat) (s : Bool) (w : World) :
    Calls Try.prog 81 #[big A s] w fun e w' => e = .returned (.bool (allZero A)) ∧ Only (fun _ => False) w w' := by
  have hz := fun wx => eq_zero_run wx A
  unfold big
  go_enter Try.func81, Try.ntmps81
  go_wp2
  go_ret
  exact ⟨rfl, (Only.refl _ w).alloc _⟩
theorem boxes_two_frozen (w : World) (A B C : Nat → Nat) (s t u : Bool) (ty : TypeId) (j : Nat) (v : Value) (h : (bigC B t)[j]? = some v) : (boxes w A B C s t u ty).frozen? ⟨w.heap.size + 1, j, none⟩ = false := by
  have h1 := frozen_new (w.alloc (.cells (bigC A s) ty)) (bigC B t) ty (w.heap.size + 1) j (by rw [size_alloc])
  exact (((Only.refl (fun _ => False) _).alloc _).frozen (p := ⟨w.heap.size + 1, j, none⟩) (by rw [size_alloc, size_alloc]; exact Nat.lt_succ_self _) (fun f => f)).trans h1

theorem allZero_limb {n : Nat} (h : n < 4294967296 ^ 10) : allZero (limb n) = decide (n = 0) := by
  rw [Bool.eq_iff_iff]
  unfold allZero
  simp only [List.all_eq_true, List.mem_range, beq_iff_eq, decide_eq_true_eq]
  constructor
  · intro hz
    have h1 := val_limb n 10
    have h2 : ∀ k, k ≤ 10 → val (limb n) k = 0 := by
      intro k
      induction k with
      | zero => intro _; rfl
      | succ k ih => intro hk; show val (limb n) k + limb n k * _ = 0; rw [ih (by omega), hz k (by omega)]; simp
    rw [h2 10 (by omega), Nat.mod_eq_of_lt h] at h1
    exact h1.symm
  · intro h0 i _
    subst h0
    unfold limb; simp

/-- a number with its sign -/
def sb (x : Int) : Value := big (limb x.natAbs) (decide (x < 0))

theorem sb_unlike {x y : Int} {n m : Nat} {s t : Bool} (hn : x.natAbs = n) (hm : y.natAbs = m) (hs : decide (x < 0) = s) (ht : decide (y < 0) = t) (hst : ¬ s = t) :
    ∀ (d : Nat) (u : Bool), (n < m → d = m - n ∧ u = t) → (m < n → d = n - m ∧ u = s) → (n = m → d = 0 ∧ u = false) → sb (x + y) = big (limb d) u := by
  intro d u h1 h2 h3
  have e : (x + y).natAbs = d ∧ decide (x + y < 0) = u := by
    rcases Nat.lt_trichotomy n m with g | g | g
    · obtain ⟨rfl, rfl⟩ := h1 g
      refine ⟨?_, ?_⟩
      · by_cases g1 : x < 0 <;> by_cases g2 : y < 0 <;> simp [g1, g2] at hs ht <;> subst hs ht <;> simp at hst <;> omega
      · rw [← ht, decide_eq_decide]
        by_cases g1 : x < 0 <;> by_cases g2 : y < 0 <;> simp [g1, g2] at hs ht <;> subst hs ht <;> simp at hst <;> omega
    · obtain ⟨rfl, rfl⟩ := h3 g
      refine ⟨?_, ?_⟩
      · by_cases g1 : x < 0 <;> by_cases g2 : y < 0 <;> simp [g1, g2] at hs ht <;> subst hs ht <;> simp at hst <;> omega
      · rw [decide_eq_false_iff_not]
        by_cases g1 : x < 0 <;> by_cases g2 : y < 0 <;> simp [g1, g2] at hs ht <;> subst hs ht <;> simp at hst <;> omega
    · obtain ⟨rfl, rfl⟩ := h2 g
      refine ⟨?_, ?_⟩
      · by_cases g1 : x < 0 <;> by_cases g2 : y < 0 <;> simp [g1, g2] at hs ht <;> subst hs ht <;> simp at hst <;> omega
      · rw [← hs, decide_eq_decide]
        by_cases g1 : x < 0 <;> by_cases g2 : y < 0 <;> simp [g1, g2] at hs ht <;> subst hs ht <;> simp at hst <;> omega
  unfold sb; rw [e.1, e.2]

set_option maxRecDepth 100000 in
set_option maxHeartbeats 4000000 in
theorem plus_any (x y : Int) (hx : x.natAbs < 4294967296 ^ 9) (hy : y.natAbs < 4294967296 ^ 9) (w : World) :
    Calls Try.prog 72 #[sb x, sb y] w fun e w' => e = .returned (sb (x + y)) ∧ Only (fun _ => False) w w' := by
  obtain ⟨n, hn⟩ : ∃ n, x.natAbs = n := ⟨_, rfl⟩
  obtain ⟨m, hm⟩ : ∃ m, y.natAbs = m := ⟨_, rfl⟩
  obtain ⟨s, hs⟩ : ∃ s, decide (x < 0) = s := ⟨_, rfl⟩
  obtain ⟨t, ht⟩ : ∃ t, decide (y < 0) = t := ⟨_, rfl⟩
  have HX : Hid (sb x = big (limb n) s) := Lib.hid (by unfold sb; rw [hn, hs])
  have HY : Hid (sb y = big (limb m) t) := Lib.hid (by unfold sb; rw [hm, ht])
  rw [HX.out, HY.out]
  have HNM : Hid (n < 4294967296 ^ 9 ∧ m < 4294967296 ^ 9) := Lib.hid ⟨by omega, by omega⟩
  have B1 := Lib.hid (boxes_one w (limb n) (limb m) (fun _ => 0) s t false 125)
  have B2 := Lib.hid (boxes_two w (limb n) (limb m) (fun _ => 0) s t false 125)
  have B3 := Lib.hid (boxes_three w (limb n) (limb m) (fun _ => 0) s t false 125)
  have BF := Lib.hid (boxes_two_frozen w (limb n) (limb m) (fun _ => 0) s t false 125)
  have BS := Lib.hid (boxes_size w (limb n) (limb m) (fun _ => 0) s t false 125)
  have BO := Lib.hid (boxes_only w (limb n) (limb m) (fun _ => 0) s t false 125)
  by_cases hst : s = t
  · have hres : Hid (sb (x + y) = big (limb (n + m)) s) := Lib.hid (by
      have e1 : (x + y).natAbs = n + m := by
        subst hs ht
        by_cases h1 : x < 0 <;> by_cases h2 : y < 0 <;> simp [h1, h2] at hst <;> omega
      have e2 : decide (x + y < 0) = s := by
        subst hs ht
        by_cases h1 : x < 0 <;> by_cases h2 : y < 0 <;> simp [h1, h2] at hst ⊢ <;> omega
      unfold sb; rw [e1, e2])
    subst hst
    rw [hres.out]
    clear hx hy hn hm hs ht
    unfold big
    go_enter Try.func72, Try.ntmps72
    go_wp2_with fail
    refine (add_any n m s s _).mono ?_
    rintro e1 w1 ⟨rfl, hO1⟩
    replace hO1 : Only (fun _ => False) (boxes w (limb n) (limb m) (fun _ => 0) s s false 125) w1 := hO1
    have r0 := hO1.cell' (B3.out 0 _ rfl).1 (fun f => f)
    have z0 := (hO1.frozen (p := ⟨w.heap.size + 1 + 1, 0, none⟩) (by have := BS.out; show w.heap.size + 1 + 1 < _; omega) (fun f => f)).trans (B3.out 0 _ rfl).2
    have r1 := hO1.cell' (B3.out 1 _ rfl).1 (fun f => f)
    have z1 := (hO1.frozen (p := ⟨w.heap.size + 1 + 1, 1, none⟩) (by have := BS.out; show w.heap.size + 1 + 1 < _; omega) (fun f => f)).trans (B3.out 1 _ rfl).2
    have r2 := hO1.cell' (B3.out 2 _ rfl).1 (fun f => f)
    have z2 := (hO1.frozen (p := ⟨w.heap.size + 1 + 1, 2, none⟩) (by have := BS.out; show w.heap.size + 1 + 1 < _; omega) (fun f => f)).trans (B3.out 2 _ rfl).2
    have r3 := hO1.cell' (B3.out 3 _ rfl).1 (fun f => f)
    have z3 := (hO1.frozen (p := ⟨w.heap.size + 1 + 1, 3, none⟩) (by have := BS.out; show w.heap.size + 1 + 1 < _; omega) (fun f => f)).trans (B3.out 3 _ rfl).2
    have r4 := hO1.cell' (B3.out 4 _ rfl).1 (fun f => f)
    have z4 := (hO1.frozen (p := ⟨w.heap.size + 1 + 1, 4, none⟩) (by have := BS.out; show w.heap.size + 1 + 1 < _; omega) (fun f => f)).trans (B3.out 4 _ rfl).2
    have r5 := hO1.cell' (B3.out 5 _ rfl).1 (fun f => f)
    have z5 := (hO1.frozen (p := ⟨w.heap.size + 1 + 1, 5, none⟩) (by have := BS.out; show w.heap.size + 1 + 1 < _; omega) (fun f => f)).trans (B3.out 5 _ rfl).2
    have r6 := hO1.cell' (B3.out 6 _ rfl).1 (fun f => f)
    have z6 := (hO1.frozen (p := ⟨w.heap.size + 1 + 1, 6, none⟩) (by have := BS.out; show w.heap.size + 1 + 1 < _; omega) (fun f => f)).trans (B3.out 6 _ rfl).2
    have r7 := hO1.cell' (B3.out 7 _ rfl).1 (fun f => f)
    have z7 := (hO1.frozen (p := ⟨w.heap.size + 1 + 1, 7, none⟩) (by have := BS.out; show w.heap.size + 1 + 1 < _; omega) (fun f => f)).trans (B3.out 7 _ rfl).2
    have r8 := hO1.cell' (B3.out 8 _ rfl).1 (fun f => f)
    have z8 := (hO1.frozen (p := ⟨w.heap.size + 1 + 1, 8, none⟩) (by have := BS.out; show w.heap.size + 1 + 1 < _; omega) (fun f => f)).trans (B3.out 8 _ rfl).2
    have r9 := hO1.cell' (B3.out 9 _ rfl).1 (fun f => f)
    have z9 := (hO1.frozen (p := ⟨w.heap.size + 1 + 1, 9, none⟩) (by have := BS.out; show w.heap.size + 1 + 1 < _; omega) (fun f => f)).trans (B3.out 9 _ rfl).2
    have r10 := hO1.cell' (B3.out 10 _ rfl).1 (fun f => f)
    have z10 := (hO1.frozen (p := ⟨w.heap.size + 1 + 1, 10, none⟩) (by have := BS.out; show w.heap.size + 1 + 1 < _; omega) (fun f => f)).trans (B3.out 10 _ rfl).2
    have OW := Lib.hid (BO.out.trans hO1)
    clear hO1
    unfold big
    go_wp2
    refine bodyPost_ret (v := .agg #[.int .u64 (limb (n + m) 0 : Int), .int .u64 (limb (n + m) 1 : Int), .int .u64 (limb (n + m) 2 : Int), .int .u64 (limb (n + m) 3 : Int), .int .u64 (limb (n + m) 4 : Int), .int .u64 (limb (n + m) 5 : Int), .int .u64 (limb (n + m) 6 : Int), .int .u64 (limb (n + m) 7 : Int), .int .u64 (limb (n + m) 8 : Int), .int .u64 (limb (n + m) 9 : Int), .bool s]) (by simp [results, Try.results72, go_sem, r0, r1, r2, r3, r4, r5, r6, r7, r8, r9, r10]) rfl ⟨rfl, ?_⟩
    repeat (refine Only.setCell ?_ (.inr (by show w.heap.size ≤ w.heap.size + 1 + 1; omega)) _)
    exact OW.out
  · have hb : (s == t) = false := by rw [beq_eq_false_iff_ne]; exact hst
    have HN10 : Hid (n < 4294967296 ^ 10 ∧ m < 4294967296 ^ 10) := Lib.hid ⟨by omega, by omega⟩
    have hsg : Hid (∀ (d : Nat) (u : Bool), (n < m → d = m - n ∧ u = t) → (m < n → d = n - m ∧ u = s) → (n = m → d = 0 ∧ u = false) → sb (x + y) = big (limb d) u) := Lib.hid (sb_unlike hn hm hs ht hst)
    clear hx hy hn hm hs ht hst
    by_cases hnm : n < m
    · have hres : Hid (sb (x + y) = big (limb (m - n)) t) := Lib.hid (hsg.out _ _ (fun _ => ⟨rfl, rfl⟩) (fun h => by omega) (fun h => by omega))
      have hd : Hid (decide (n < m) = true) := Lib.hid (by simp; omega)
      have HZ : Hid (allZero (limb (m - n)) = false) := Lib.hid (by rw [allZero_limb (by have := HN10.out; omega)]; simp; omega)
      rw [hres.out]
      clear hsg
      unfold big
      go_enter Try.func72, Try.ntmps72
      go_wp2_with fail
      refine (less_any n m s t HN10.out.1 HN10.out.2 _).mono ?_
      rintro e1 w1 ⟨rfl, hO1⟩
      rw [hd.out]
      replace hO1 : Only (fun _ => False) (boxes w (limb n) (limb m) (fun _ => 0) s t false 125) w1 := hO1
      have a0 := hO1.cell' (B1.out 0 _ (bigC_get _ _ 0 (by omega))).1 (fun f => f)
      have a1 := hO1.cell' (B1.out 1 _ (bigC_get _ _ 1 (by omega))).1 (fun f => f)
      have a2 := hO1.cell' (B1.out 2 _ (bigC_get _ _ 2 (by omega))).1 (fun f => f)
      have a3 := hO1.cell' (B1.out 3 _ (bigC_get _ _ 3 (by omega))).1 (fun f => f)
      have a4 := hO1.cell' (B1.out 4 _ (bigC_get _ _ 4 (by omega))).1 (fun f => f)
      have a5 := hO1.cell' (B1.out 5 _ (bigC_get _ _ 5 (by omega))).1 (fun f => f)
      have a6 := hO1.cell' (B1.out 6 _ (bigC_get _ _ 6 (by omega))).1 (fun f => f)
      have a7 := hO1.cell' (B1.out 7 _ (bigC_get _ _ 7 (by omega))).1 (fun f => f)
      have a8 := hO1.cell' (B1.out 8 _ (bigC_get _ _ 8 (by omega))).1 (fun f => f)
      have a9 := hO1.cell' (B1.out 9 _ (bigC_get _ _ 9 (by omega))).1 (fun f => f)
      have a10 := hO1.cell' (B1.out 10 (.bool s) rfl).1 (fun f => f)
      have fa0 := (hO1.frozen (p := ⟨w.heap.size, 0, none⟩) (by have := BS.out; show w.heap.size < _; omega) (fun f => f)).trans (B1.out 0 _ rfl).2
      have fa1 := (hO1.frozen (p := ⟨w.heap.size, 1, none⟩) (by have := BS.out; show w.heap.size < _; omega) (fun f => f)).trans (B1.out 1 _ rfl).2
      have fa2 := (hO1.frozen (p := ⟨w.heap.size, 2, none⟩) (by have := BS.out; show w.heap.size < _; omega) (fun f => f)).trans (B1.out 2 _ rfl).2
      have fa3 := (hO1.frozen (p := ⟨w.heap.size, 3, none⟩) (by have := BS.out; show w.heap.size < _; omega) (fun f => f)).trans (B1.out 3 _ rfl).2
      have fa4 := (hO1.frozen (p := ⟨w.heap.size, 4, none⟩) (by have := BS.out; show w.heap.size < _; omega) (fun f => f)).trans (B1.out 4 _ rfl).2
      have fa5 := (hO1.frozen (p := ⟨w.heap.size, 5, none⟩) (by have := BS.out; show w.heap.size < _; omega) (fun f => f)).trans (B1.out 5 _ rfl).2
      have fa6 := (hO1.frozen (p := ⟨w.heap.size, 6, none⟩) (by have := BS.out; show w.heap.size < _; omega) (fun f => f)).trans (B1.out 6 _ rfl).2
      have fa7 := (hO1.frozen (p := ⟨w.heap.size, 7, none⟩) (by have := BS.out; show w.heap.size < _; omega) (fun f => f)).trans (B1.out 7 _ rfl).2
      have fa8 := (hO1.frozen (p := ⟨w.heap.size, 8, none⟩) (by have := BS.out; show w.heap.size < _; omega) (fun f => f)).trans (B1.out 8 _ rfl).2
      have fa9 := (hO1.frozen (p := ⟨w.heap.size, 9, none⟩) (by have := BS.out; show w.heap.size < _; omega) (fun f => f)).trans (B1.out 9 _ rfl).2
      have fa10 := (hO1.frozen (p := ⟨w.heap.size, 10, none⟩) (by have := BS.out; show w.heap.size < _; omega) (fun f => f)).trans (B1.out 10 _ rfl).2
      have b0 := hO1.cell' (B2.out 0 _ (bigC_get _ _ 0 (by omega))) (fun f => f)
      have b1 := hO1.cell' (B2.out 1 _ (bigC_get _ _ 1 (by omega))) (fun f => f)
      have b2 := hO1.cell' (B2.out 2 _ (bigC_get _ _ 2 (by omega))) (fun f => f)
      have b3 := hO1.cell' (B2.out 3 _ (bigC_get _ _ 3 (by omega))) (fun f => f)
      have b4 := hO1.cell' (B2.out 4 _ (bigC_get _ _ 4 (by omega))) (fun f => f)
      have b5 := hO1.cell' (B2.out 5 _ (bigC_get _ _ 5 (by omega))) (fun f => f)
      have b6 := hO1.cell' (B2.out 6 _ (bigC_get _ _ 6 (by omega))) (fun f => f)
      have b7 := hO1.cell' (B2.out 7 _ (bigC_get _ _ 7 (by omega))) (fun f => f)
      have b8 := hO1.cell' (B2.out 8 _ (bigC_get _ _ 8 (by omega))) (fun f => f)
      have b9 := hO1.cell' (B2.out 9 _ (bigC_get _ _ 9 (by omega))) (fun f => f)
      have b10 := hO1.cell' (B2.out 10 (.bool t) rfl) (fun f => f)
      have fb0 := (hO1.frozen (p := ⟨w.heap.size + 1, 0, none⟩) (by have := BS.out; show w.heap.size + 1 < _; omega) (fun f => f)).trans (BF.out 0 _ rfl)
      have fb1 := (hO1.frozen (p := ⟨w.heap.size + 1, 1, none⟩) (by have := BS.out; show w.heap.size + 1 < _; omega) (fun f => f)).trans (BF.out 1 _ rfl)
      have fb2 := (hO1.frozen (p := ⟨w.heap.size + 1, 2, none⟩) (by have := BS.out; show w.heap.size + 1 < _; omega) (fun f => f)).trans (BF.out 2 _ rfl)
      have fb3 := (hO1.frozen (p := ⟨w.heap.size + 1, 3, none⟩) (by have := BS.out; show w.heap.size + 1 < _; omega) (fun f => f)).trans (BF.out 3 _ rfl)
      have fb4 := (hO1.frozen (p := ⟨w.heap.size + 1, 4, none⟩) (by have := BS.out; show w.heap.size + 1 < _; omega) (fun f => f)).trans (BF.out 4 _ rfl)
      have fb5 := (hO1.frozen (p := ⟨w.heap.size + 1, 5, none⟩) (by have := BS.out; show w.heap.size + 1 < _; omega) (fun f => f)).trans (BF.out 5 _ rfl)
      have fb6 := (hO1.frozen (p := ⟨w.heap.size + 1, 6, none⟩) (by have := BS.out; show w.heap.size + 1 < _; omega) (fun f => f)).trans (BF.out 6 _ rfl)
      have fb7 := (hO1.frozen (p := ⟨w.heap.size + 1, 7, none⟩) (by have := BS.out; show w.heap.size + 1 < _; omega) (fun f => f)).trans (BF.out 7 _ rfl)
      have fb8 := (hO1.frozen (p := ⟨w.heap.size + 1, 8, none⟩) (by have := BS.out; show w.heap.size + 1 < _; omega) (fun f => f)).trans (BF.out 8 _ rfl)
      have fb9 := (hO1.frozen (p := ⟨w.heap.size + 1, 9, none⟩) (by have := BS.out; show w.heap.size + 1 < _; omega) (fun f => f)).trans (BF.out 9 _ rfl)
      have fb10 := (hO1.frozen (p := ⟨w.heap.size + 1, 10, none⟩) (by have := BS.out; show w.heap.size + 1 < _; omega) (fun f => f)).trans (BF.out 10 _ rfl)
      have O1 := Lib.hid hO1
      clear hO1
      go_wp2_with fail
      refine (sub_any m n t s (by omega) _).mono ?_
      rintro e1 w2 ⟨rfl, hO2⟩
      have O12 : Only (fun k => k = w.heap.size ∨ k = w.heap.size + 1) w1 w2 := by
        refine Only.then ?_ hO2 (fun _ _ f => f.elim)
        repeat (refine Only.setCell ?_ (.inl (by first | exact .inl rfl | exact .inr rfl)) _)
        exact Only.refl _ _
      have O02 := Lib.hid ((O1.out.mono (fun _ _ f => f.elim)).trans O12)
      have OW2 := Lib.hid ((BO.out.trans O1.out).then O12 (fun i hi e => by rcases e with e | e <;> omega))
      clear a0 a1 a2 a3 a4 a5 a6 a7 a8 a9 a10 fa0 fa1 fa2 fa3 fa4 fa5 fa6 fa7 fa8 fa9 fa10 b0 b1 b2 b3 b4 b5 b6 b7 b8 b9 b10 fb0 fb1 fb2 fb3 fb4 fb5 fb6 fb7 fb8 fb9 fb10 hO2 O12
      unfold big
      go_wp2_with fail
      refine (zero_any (limb (m - n)) t _).mono ?_
      rintro e1 w3 ⟨rfl, hO3⟩
      rw [HZ.out]
      replace hO3 : Only (fun _ => False) (w2.alloc (.cells (bigC (limb (m - n)) t) 125)) w3 := hO3
      have c0 := hO3.cell' ((cell_new w2 (limb (m - n)) t 125 _ rfl 0).trans (bigC_get _ _ 0 (by omega))) (fun f => f)
      have c1 := hO3.cell' ((cell_new w2 (limb (m - n)) t 125 _ rfl 1).trans (bigC_get _ _ 1 (by omega))) (fun f => f)
      have c2 := hO3.cell' ((cell_new w2 (limb (m - n)) t 125 _ rfl 2).trans (bigC_get _ _ 2 (by omega))) (fun f => f)
      have c3 := hO3.cell' ((cell_new w2 (limb (m - n)) t 125 _ rfl 3).trans (bigC_get _ _ 3 (by omega))) (fun f => f)
      have c4 := hO3.cell' ((cell_new w2 (limb (m - n)) t 125 _ rfl 4).trans (bigC_get _ _ 4 (by omega))) (fun f => f)
      have c5 := hO3.cell' ((cell_new w2 (limb (m - n)) t 125 _ rfl 5).trans (bigC_get _ _ 5 (by omega))) (fun f => f)
      have c6 := hO3.cell' ((cell_new w2 (limb (m - n)) t 125 _ rfl 6).trans (bigC_get _ _ 6 (by omega))) (fun f => f)
      have c7 := hO3.cell' ((cell_new w2 (limb (m - n)) t 125 _ rfl 7).trans (bigC_get _ _ 7 (by omega))) (fun f => f)
      have c8 := hO3.cell' ((cell_new w2 (limb (m - n)) t 125 _ rfl 8).trans (bigC_get _ _ 8 (by omega))) (fun f => f)
      have c9 := hO3.cell' ((cell_new w2 (limb (m - n)) t 125 _ rfl 9).trans (bigC_get _ _ 9 (by omega))) (fun f => f)
      have c10 := hO3.cell' ((cell_new w2 (limb (m - n)) t 125 _ rfl 10).trans (show _ = some (Value.bool t) from rfl)) (fun f => f)
      have O03 := Lib.hid ((O02.out.alloc (.cells (bigC (limb (m - n)) t) 125)).then hO3 (fun _ _ f => f.elim))
      have OW3 := Lib.hid ((OW2.out.alloc (.cells (bigC (limb (m - n)) t) 125)).trans hO3)
      have r0 := O03.out.cell' (B3.out 0 _ rfl).1 (by show ¬ (w.heap.size + 1 + 1 = w.heap.size ∨ w.heap.size + 1 + 1 = w.heap.size + 1); omega)
      have r1 := O03.out.cell' (B3.out 1 _ rfl).1 (by show ¬ (w.heap.size + 1 + 1 = w.heap.size ∨ w.heap.size + 1 + 1 = w.heap.size + 1); omega)
      have r2 := O03.out.cell' (B3.out 2 _ rfl).1 (by show ¬ (w.heap.size + 1 + 1 = w.heap.size ∨ w.heap.size + 1 + 1 = w.heap.size + 1); omega)
      have r3 := O03.out.cell' (B3.out 3 _ rfl).1 (by show ¬ (w.heap.size + 1 + 1 = w.heap.size ∨ w.heap.size + 1 + 1 = w.heap.size + 1); omega)
      have r4 := O03.out.cell' (B3.out 4 _ rfl).1 (by show ¬ (w.heap.size + 1 + 1 = w.heap.size ∨ w.heap.size + 1 + 1 = w.heap.size + 1); omega)
      have r5 := O03.out.cell' (B3.out 5 _ rfl).1 (by show ¬ (w.heap.size + 1 + 1 = w.heap.size ∨ w.heap.size + 1 + 1 = w.heap.size + 1); omega)
      have r6 := O03.out.cell' (B3.out 6 _ rfl).1 (by show ¬ (w.heap.size + 1 + 1 = w.heap.size ∨ w.heap.size + 1 + 1 = w.heap.size + 1); omega)
      have r7 := O03.out.cell' (B3.out 7 _ rfl).1 (by show ¬ (w.heap.size + 1 + 1 = w.heap.size ∨ w.heap.size + 1 + 1 = w.heap.size + 1); omega)
      have r8 := O03.out.cell' (B3.out 8 _ rfl).1 (by show ¬ (w.heap.size + 1 + 1 = w.heap.size ∨ w.heap.size + 1 + 1 = w.heap.size + 1); omega)
      have r9 := O03.out.cell' (B3.out 9 _ rfl).1 (by show ¬ (w.heap.size + 1 + 1 = w.heap.size ∨ w.heap.size + 1 + 1 = w.heap.size + 1); omega)
      have r10 := O03.out.cell' (B3.out 10 _ rfl).1 (by show ¬ (w.heap.size + 1 + 1 = w.heap.size ∨ w.heap.size + 1 + 1 = w.heap.size + 1); omega)
      have z0 := (O03.out.frozen (p := ⟨w.heap.size + 1 + 1, 0, none⟩) (by have := BS.out; show w.heap.size + 1 + 1 < _; omega) (by show ¬ (w.heap.size + 1 + 1 = w.heap.size ∨ w.heap.size + 1 + 1 = w.heap.size + 1); omega)).trans (B3.out 0 _ rfl).2
      have z1 := (O03.out.frozen (p := ⟨w.heap.size + 1 + 1, 1, none⟩) (by have := BS.out; show w.heap.size + 1 + 1 < _; omega) (by show ¬ (w.heap.size + 1 + 1 = w.heap.size ∨ w.heap.size + 1 + 1 = w.heap.size + 1); omega)).trans (B3.out 1 _ rfl).2
      have z2 := (O03.out.frozen (p := ⟨w.heap.size + 1 + 1, 2, none⟩) (by have := BS.out; show w.heap.size + 1 + 1 < _; omega) (by show ¬ (w.heap.size + 1 + 1 = w.heap.size ∨ w.heap.size + 1 + 1 = w.heap.size + 1); omega)).trans (B3.out 2 _ rfl).2
      have z3 := (O03.out.frozen (p := ⟨w.heap.size + 1 + 1, 3, none⟩) (by have := BS.out; show w.heap.size + 1 + 1 < _; omega) (by show ¬ (w.heap.size + 1 + 1 = w.heap.size ∨ w.heap.size + 1 + 1 = w.heap.size + 1); omega)).trans (B3.out 3 _ rfl).2
      have z4 := (O03.out.frozen (p := ⟨w.heap.size + 1 + 1, 4, none⟩) (by have := BS.out; show w.heap.size + 1 + 1 < _; omega) (by show ¬ (w.heap.size + 1 + 1 = w.heap.size ∨ w.heap.size + 1 + 1 = w.heap.size + 1); omega)).trans (B3.out 4 _ rfl).2
      have z5 := (O03.out.frozen (p := ⟨w.heap.size + 1 + 1, 5, none⟩) (by have := BS.out; show w.heap.size + 1 + 1 < _; omega) (by show ¬ (w.heap.size + 1 + 1 = w.heap.size ∨ w.heap.size + 1 + 1 = w.heap.size + 1); omega)).trans (B3.out 5 _ rfl).2
      have z6 := (O03.out.frozen (p := ⟨w.heap.size + 1 + 1, 6, none⟩) (by have := BS.out; show w.heap.size + 1 + 1 < _; omega) (by show ¬ (w.heap.size + 1 + 1 = w.heap.size ∨ w.heap.size + 1 + 1 = w.heap.size + 1); omega)).trans (B3.out 6 _ rfl).2
      have z7 := (O03.out.frozen (p := ⟨w.heap.size + 1 + 1, 7, none⟩) (by have := BS.out; show w.heap.size + 1 + 1 < _; omega) (by show ¬ (w.heap.size + 1 + 1 = w.heap.size ∨ w.heap.size + 1 + 1 = w.heap.size + 1); omega)).trans (B3.out 7 _ rfl).2
      have z8 := (O03.out.frozen (p := ⟨w.heap.size + 1 + 1, 8, none⟩) (by have := BS.out; show w.heap.size + 1 + 1 < _; omega) (by show ¬ (w.heap.size + 1 + 1 = w.heap.size ∨ w.heap.size + 1 + 1 = w.heap.size + 1); omega)).trans (B3.out 8 _ rfl).2
      have z9 := (O03.out.frozen (p := ⟨w.heap.size + 1 + 1, 9, none⟩) (by have := BS.out; show w.heap.size + 1 + 1 < _; omega) (by show ¬ (w.heap.size + 1 + 1 = w.heap.size ∨ w.heap.size + 1 + 1 = w.heap.size + 1); omega)).trans (B3.out 9 _ rfl).2
      have z10 := (O03.out.frozen (p := ⟨w.heap.size + 1 + 1, 10, none⟩) (by have := BS.out; show w.heap.size + 1 + 1 < _; omega) (by show ¬ (w.heap.size + 1 + 1 = w.heap.size ∨ w.heap.size + 1 + 1 = w.heap.size + 1); omega)).trans (B3.out 10 _ rfl).2
      clear hO3 hb
      go_wp2
      refine bodyPost_ret (v := .agg #[.int .u64 (limb (m - n) 0 : Int), .int .u64 (limb (m - n) 1 : Int), .int .u64 (limb (m - n) 2 : Int), .int .u64 (limb (m - n) 3 : Int), .int .u64 (limb (m - n) 4 : Int), .int .u64 (limb (m - n) 5 : Int), .int .u64 (limb (m - n) 6 : Int), .int .u64 (limb (m - n) 7 : Int), .int .u64 (limb (m - n) 8 : Int), .int .u64 (limb (m - n) 9 : Int), .bool t]) (by simp [results, Try.results72, go_sem, r0, r1, r2, r3, r4, r5, r6, r7, r8, r9, r10]) rfl ⟨rfl, ?_⟩
      repeat (refine Only.setCell ?_ (.inr (by show w.heap.size ≤ w.heap.size + 1 + 1; omega)) _)
      exact OW3.out
    · have hd : Hid (decide (n < m) = false) := Lib.hid (by simp; omega)
      have HZ : Hid (allZero (limb (n - m)) = decide (n - m = 0)) := Lib.hid (allZero_limb (by have := HN10.out; omega))
      obtain ⟨zb, hzb⟩ : ∃ zb, decide (n - m = 0) = zb := ⟨_, rfl⟩
      rw [hzb] at HZ
      have hres : Hid (sb (x + y) = big (limb (n - m)) (if zb then false else s)) := Lib.hid (by
        cases zb with
        | true => exact hsg.out _ _ (fun h => by omega) (fun h => by simp at hzb; omega) (fun h => ⟨by omega, rfl⟩)
        | false => exact hsg.out _ _ (fun h => by omega) (fun h => ⟨rfl, rfl⟩) (fun h => by simp at hzb; omega))
      rw [hres.out]
      clear hsg hzb
      cases zb
      all_goals
        simp only [Bool.false_eq_true, if_true, if_false]
        unfold big
        go_enter Try.func72, Try.ntmps72
        go_wp2_with fail
        refine (less_any n m s t HN10.out.1 HN10.out.2 _).mono ?_
        rintro e1 w1 ⟨rfl, hO1⟩
        rw [hd.out]
        replace hO1 : Only (fun _ => False) (boxes w (limb n) (limb m) (fun _ => 0) s t false 125) w1 := hO1
        have a0 := hO1.cell' (B1.out 0 _ (bigC_get _ _ 0 (by omega))).1 (fun f => f)
        have a1 := hO1.cell' (B1.out 1 _ (bigC_get _ _ 1 (by omega))).1 (fun f => f)
        have a2 := hO1.cell' (B1.out 2 _ (bigC_get _ _ 2 (by omega))).1 (fun f => f)
        have a3 := hO1.cell' (B1.out 3 _ (bigC_get _ _ 3 (by omega))).1 (fun f => f)
        have a4 := hO1.cell' (B1.out 4 _ (bigC_get _ _ 4 (by omega))).1 (fun f => f)
        have a5 := hO1.cell' (B1.out 5 _ (bigC_get _ _ 5 (by omega))).1 (fun f => f)
        have a6 := hO1.cell' (B1.out 6 _ (bigC_get _ _ 6 (by omega))).1 (fun f => f)
        have a7 := hO1.cell' (B1.out 7 _ (bigC_get _ _ 7 (by omega))).1 (fun f => f)
        have a8 := hO1.cell' (B1.out 8 _ (bigC_get _ _ 8 (by omega))).1 (fun f => f)
        have a9 := hO1.cell' (B1.out 9 _ (bigC_get _ _ 9 (by omega))).1 (fun f => f)
        have a10 := hO1.cell' (B1.out 10 (.bool s) rfl).1 (fun f => f)
        have b0 := hO1.cell' (B2.out 0 _ (bigC_get _ _ 0 (by omega))) (fun f => f)
        have b1 := hO1.cell' (B2.out 1 _ (bigC_get _ _ 1 (by omega))) (fun f => f)
        have b2 := hO1.cell' (B2.out 2 _ (bigC_get _ _ 2 (by omega))) (fun f => f)
        have b3 := hO1.cell' (B2.out 3 _ (bigC_get _ _ 3 (by omega))) (fun f => f)
        have b4 := hO1.cell' (B2.out 4 _ (bigC_get _ _ 4 (by omega))) (fun f => f)
        have b5 := hO1.cell' (B2.out 5 _ (bigC_get _ _ 5 (by omega))) (fun f => f)
        have b6 := hO1.cell' (B2.out 6 _ (bigC_get _ _ 6 (by omega))) (fun f => f)
        have b7 := hO1.cell' (B2.out 7 _ (bigC_get _ _ 7 (by omega))) (fun f => f)
        have b8 := hO1.cell' (B2.out 8 _ (bigC_get _ _ 8 (by omega))) (fun f => f)
        have b9 := hO1.cell' (B2.out 9 _ (bigC_get _ _ 9 (by omega))) (fun f => f)
        have b10 := hO1.cell' (B2.out 10 (.bool t) rfl) (fun f => f)
        have O1 := Lib.hid hO1
        clear hO1
        go_wp2_with fail
        refine (sub_any n m s t (by omega) _).mono ?_
        rintro e1 w2 ⟨rfl, hO2⟩
        have O02 := Lib.hid (O1.out.trans hO2)
        clear a0 a1 a2 a3 a4 a5 a6 a7 a8 a9 a10 b0 b1 b2 b3 b4 b5 b6 b7 b8 b9 b10 hO2
        unfold big
        go_wp2_with fail
        refine (zero_any (limb (n - m)) s _).mono ?_
        rintro e1 w3 ⟨rfl, hO3⟩
        rw [HZ.out]
        replace hO3 : Only (fun _ => False) (w2.alloc (.cells (bigC (limb (n - m)) s) 125)) w3 := hO3
        have c0 := hO3.cell' ((cell_new w2 (limb (n - m)) s 125 _ rfl 0).trans (bigC_get _ _ 0 (by omega))) (fun f => f)
        have c1 := hO3.cell' ((cell_new w2 (limb (n - m)) s 125 _ rfl 1).trans (bigC_get _ _ 1 (by omega))) (fun f => f)
        have c2 := hO3.cell' ((cell_new w2 (limb (n - m)) s 125 _ rfl 2).trans (bigC_get _ _ 2 (by omega))) (fun f => f)
        have c3 := hO3.cell' ((cell_new w2 (limb (n - m)) s 125 _ rfl 3).trans (bigC_get _ _ 3 (by omega))) (fun f => f)
        have c4 := hO3.cell' ((cell_new w2 (limb (n - m)) s 125 _ rfl 4).trans (bigC_get _ _ 4 (by omega))) (fun f => f)
        have c5 := hO3.cell' ((cell_new w2 (limb (n - m)) s 125 _ rfl 5).trans (bigC_get _ _ 5 (by omega))) (fun f => f)
        have c6 := hO3.cell' ((cell_new w2 (limb (n - m)) s 125 _ rfl 6).trans (bigC_get _ _ 6 (by omega))) (fun f => f)
        have c7 := hO3.cell' ((cell_new w2 (limb (n - m)) s 125 _ rfl 7).trans (bigC_get _ _ 7 (by omega))) (fun f => f)
        have c8 := hO3.cell' ((cell_new w2 (limb (n - m)) s 125 _ rfl 8).trans (bigC_get _ _ 8 (by omega))) (fun f => f)
        have c9 := hO3.cell' ((cell_new w2 (limb (n - m)) s 125 _ rfl 9).trans (bigC_get _ _ 9 (by omega))) (fun f => f)
        have c10 := hO3.cell' ((cell_new w2 (limb (n - m)) s 125 _ rfl 10).trans (show _ = some (Value.bool s) from rfl)) (fun f => f)
        have fc := (hO3.frozen (p := ⟨w2.heap.size, 10, none⟩) (by rw [size_alloc]; exact Nat.lt_succ_self _) (fun f => f)).trans (frozen_new w2 (bigC (limb (n - m)) s) 125 _ 10 rfl)
        have O03 := Lib.hid ((O02.out.alloc (.cells (bigC (limb (n - m)) s) 125)).then hO3 (fun _ _ f => f.elim))
        have r0 := O03.out.cell' (B3.out 0 _ rfl).1 (fun f => f)
        have r1 := O03.out.cell' (B3.out 1 _ rfl).1 (fun f => f)
        have r2 := O03.out.cell' (B3.out 2 _ rfl).1 (fun f => f)
        have r3 := O03.out.cell' (B3.out 3 _ rfl).1 (fun f => f)
        have r4 := O03.out.cell' (B3.out 4 _ rfl).1 (fun f => f)
        have r5 := O03.out.cell' (B3.out 5 _ rfl).1 (fun f => f)
        have r6 := O03.out.cell' (B3.out 6 _ rfl).1 (fun f => f)
        have r7 := O03.out.cell' (B3.out 7 _ rfl).1 (fun f => f)
        have r8 := O03.out.cell' (B3.out 8 _ rfl).1 (fun f => f)
        have r9 := O03.out.cell' (B3.out 9 _ rfl).1 (fun f => f)
        have r10 := O03.out.cell' (B3.out 10 _ rfl).1 (fun f => f)
        have z0 := (O03.out.frozen (p := ⟨w.heap.size + 1 + 1, 0, none⟩) (by have := BS.out; show w.heap.size + 1 + 1 < _; omega) (fun f => f)).trans (B3.out 0 _ rfl).2
        have z1 := (O03.out.frozen (p := ⟨w.heap.size + 1 + 1, 1, none⟩) (by have := BS.out; show w.heap.size + 1 + 1 < _; omega) (fun f => f)).trans (B3.out 1 _ rfl).2
        have z2 := (O03.out.frozen (p := ⟨w.heap.size + 1 + 1, 2, none⟩) (by have := BS.out; show w.heap.size + 1 + 1 < _; omega) (fun f => f)).trans (B3.out 2 _ rfl).2
        have z3 := (O03.out.frozen (p := ⟨w.heap.size + 1 + 1, 3, none⟩) (by have := BS.out; show w.heap.size + 1 + 1 < _; omega) (fun f => f)).trans (B3.out 3 _ rfl).2
        have z4 := (O03.out.frozen (p := ⟨w.heap.size + 1 + 1, 4, none⟩) (by have := BS.out; show w.heap.size + 1 + 1 < _; omega) (fun f => f)).trans (B3.out 4 _ rfl).2
        have z5 := (O03.out.frozen (p := ⟨w.heap.size + 1 + 1, 5, none⟩) (by have := BS.out; show w.heap.size + 1 + 1 < _; omega) (fun f => f)).trans (B3.out 5 _ rfl).2
        have z6 := (O03.out.frozen (p := ⟨w.heap.size + 1 + 1, 6, none⟩) (by have := BS.out; show w.heap.size + 1 + 1 < _; omega) (fun f => f)).trans (B3.out 6 _ rfl).2
        have z7 := (O03.out.frozen (p := ⟨w.heap.size + 1 + 1, 7, none⟩) (by have := BS.out; show w.heap.size + 1 + 1 < _; omega) (fun f => f)).trans (B3.out 7 _ rfl).2
        have z8 := (O03.out.frozen (p := ⟨w.heap.size + 1 + 1, 8, none⟩) (by have := BS.out; show w.heap.size + 1 + 1 < _; omega) (fun f => f)).trans (B3.out 8 _ rfl).2
        have z9 := (O03.out.frozen (p := ⟨w.heap.size + 1 + 1, 9, none⟩) (by have := BS.out; show w.heap.size + 1 + 1 < _; omega) (fun f => f)).trans (B3.out 9 _ rfl).2
        have z10 := (O03.out.frozen (p := ⟨w.heap.size + 1 + 1, 10, none⟩) (by have := BS.out; show w.heap.size + 1 + 1 < _; omega) (fun f => f)).trans (B3.out 10 _ rfl).2
        have hne : ¬ (w2.heap.size = w.heap.size + 1 + 1) := by have h1 := O02.out.size; have h2 := BS.out; omega
        have hne2 : ¬ (w.heap.size + 1 + 1 = w2.heap.size) := fun e => hne e.symm
        have HW2 : Hid (w.heap.size ≤ w2.heap.size) := Lib.hid (by have h1 := O02.out.size; have h2 := BS.out; omega)
        have OW3 := Lib.hid (BO.out.trans O03.out)
        clear hO3 hb
        go_wp2
        first
          | refine bodyPost_ret (v := .agg #[.int .u64 (limb (n - m) 0 : Int), .int .u64 (limb (n - m) 1 : Int), .int .u64 (limb (n - m) 2 : Int), .int .u64 (limb (n - m) 3 : Int), .int .u64 (limb (n - m) 4 : Int), .int .u64 (limb (n - m) 5 : Int), .int .u64 (limb (n - m) 6 : Int), .int .u64 (limb (n - m) 7 : Int), .int .u64 (limb (n - m) 8 : Int), .int .u64 (limb (n - m) 9 : Int), .bool s]) (by simp [results, Try.results72, go_sem, r0, r1, r2, r3, r4, r5, r6, r7, r8, r9, r10]) rfl ⟨rfl, ?_⟩
          | refine bodyPost_ret (v := .agg #[.int .u64 (limb (n - m) 0 : Int), .int .u64 (limb (n - m) 1 : Int), .int .u64 (limb (n - m) 2 : Int), .int .u64 (limb (n - m) 3 : Int), .int .u64 (limb (n - m) 4 : Int), .int .u64 (limb (n - m) 5 : Int), .int .u64 (limb (n - m) 6 : Int), .int .u64 (limb (n - m) 7 : Int), .int .u64 (limb (n - m) 8 : Int), .int .u64 (limb (n - m) 9 : Int), .bool false]) (by simp [results, Try.results72, go_sem, r0, r1, r2, r3, r4, r5, r6, r7, r8, r9, r10]) rfl ⟨rfl, ?_⟩
        repeat (refine Only.setCell ?_ (.inr (by first | (show w.heap.size ≤ w.heap.size + 1 + 1; omega) | exact HW2.out)) _)
        exact OW3.out
end Go.Proofs.Ythflglejhhebeaa.bigw

namespace Go.Proofs.Ythflglejhhebeaa.intm
open Go.RowKit
set_option linter.unusedVariables false

/-- the answer of a sum: a number that is an int, or none -/
def isInt (z : Int) : Bool := decide (-9223372036854775808 ≤ z) && decide (z ≤ 9223372036854775807)
def intOr (z : Int) : Int := if isInt z then z else 0

theorem isInt_iff (z : Int) : isInt z = true ↔ (-9223372036854775808 ≤ z ∧ z ≤ 9223372036854775807) := by
  unfold isInt; rw [Bool.and_eq_true, decide_eq_true_eq, decide_eq_true_eq]
theorem isInt_not (z : Int) : isInt z = false ↔ ¬ (-9223372036854775808 ≤ z ∧ z ≤ 9223372036854775807) := by
  rw [← isInt_iff]; simp

theorem wrap_i64 (n : Int) : IntKind.i64.wrap n = (n + 9223372036854775808) % 18446744073709551616 - 9223372036854775808 := by
  simp [IntKind.wrap, IntKind.bits, IntKind.signed]
  split <;> omega
theorem wrap64_eq (n : Int) : wrap64 n = (n + 9223372036854775808) % 18446744073709551616 - 9223372036854775808 := by unfold wrap64; rfl

theorem wrap_neg (v : BitVec 64) : IntKind.i64.wrap (v.toNat : Int) < 0 ↔ v.msb = true := by
  rw [wrap_i64, BitVec.msb_eq_decide, decide_eq_true_eq]
  have := v.isLt
  have e : (2 : Nat) ^ (64 - 1) = 9223372036854775808 := by decide
  rw [e]
  omega

theorem ofInt_msb {x : Int} (h : -9223372036854775808 ≤ x ∧ x ≤ 9223372036854775807) : (BitVec.ofInt 64 x).msb = decide (x < 0) := by
  rw [BitVec.msb_eq_decide, BitVec.toNat_ofInt]
  have e : (2 : Nat) ^ (64 - 1) = 9223372036854775808 := by decide
  have e2 : ((2 ^ 64 : Nat) : Int) = 18446744073709551616 := by decide
  rw [e, e2, decide_eq_decide]
  omega

theorem xor_neg {x y : Int} (hx : -9223372036854775808 ≤ x ∧ x ≤ 9223372036854775807) (hy : -9223372036854775808 ≤ y ∧ y ≤ 9223372036854775807) : bits .xor .i64 x y < 0 ↔ ¬ (x < 0 ↔ y < 0) := by
  unfold bits
  show IntKind.i64.wrap ((BitVec.ofInt 64 x ^^^ BitVec.ofInt 64 y).toNat : Int) < 0 ↔ _
  rw [wrap_neg, BitVec.msb_xor, ofInt_msb hx, ofInt_msb hy]
  by_cases h1 : x < 0 <;> by_cases h2 : y < 0 <;> simp [h1, h2]

theorem and_neg {x y : Int} (hx : -9223372036854775808 ≤ x ∧ x ≤ 9223372036854775807) (hy : -9223372036854775808 ≤ y ∧ y ≤ 9223372036854775807) : bits .and .i64 x y < 0 ↔ (x < 0 ∧ y < 0) := by
  unfold bits
  show IntKind.i64.wrap ((BitVec.ofInt 64 x &&& BitVec.ofInt 64 y).toNat : Int) < 0 ↔ _
  rw [wrap_neg, BitVec.msb_and, ofInt_msb hx, ofInt_msb hy]
  by_cases h1 : x < 0 <;> by_cases h2 : y < 0 <;> simp [h1, h2]

theorem bits_in (op : BinOp) (x y : Int) : -9223372036854775808 ≤ bits op .i64 x y ∧ bits op .i64 x y ≤ 9223372036854775807 := by
  unfold bits
  rw [wrap_i64]; omega

theorem wrap64_in (z : Int) : -9223372036854775808 ≤ wrap64 z ∧ wrap64 z ≤ 9223372036854775807 := by rw [wrap64_eq]; omega

theorem add_over {a b : Int} (ha : -9223372036854775808 ≤ a ∧ a ≤ 9223372036854775807) (hb : -9223372036854775808 ≤ b ∧ b ≤ 9223372036854775807) :
    bits .and .i64 (bits .xor .i64 a (wrap64 (a + b))) (bits .xor .i64 b (wrap64 (a + b))) < 0 ↔ isInt (a + b) = false := by
  rw [and_neg (bits_in _ _ _) (bits_in _ _ _), xor_neg ha (wrap64_in _), xor_neg hb (wrap64_in _), isInt_not, wrap64_eq]
  omega

theorem sub_over {a b : Int} (ha : -9223372036854775808 ≤ a ∧ a ≤ 9223372036854775807) (hb : -9223372036854775808 ≤ b ∧ b ≤ 9223372036854775807) :
    bits .and .i64 (bits .xor .i64 a b) (bits .xor .i64 a (wrap64 (a - b))) < 0 ↔ isInt (a - b) = false := by
  rw [and_neg (bits_in _ _ _) (bits_in _ _ _), xor_neg ha hb, xor_neg ha (wrap64_in _), isInt_not, wrap64_eq]
  omega

theorem wrap64_of {z : Int} (h : isInt z = true) : wrap64 z = z := by
  rw [isInt_iff] at h
  rw [wrap64_eq]; omega

/-- a product is told by the quotient -/
theorem mul_over {a b : Int} (ha : -9223372036854775808 ≤ a ∧ a ≤ 9223372036854775807) (hb : -9223372036854775808 ≤ b ∧ b ≤ 9223372036854775807) (h0 : b ≠ 0) (hmin : ¬ (a = -9223372036854775808 ∧ b = -1)) :
    wrap64 ((wrap64 (a * b)).tdiv b) = a ↔ isInt (a * b) = true := by
  constructor
  · intro h
    have hc := wrap64_in (a * b)
    obtain ⟨p, hp⟩ : ∃ p, a * b = p := ⟨_, rfl⟩
    rw [hp] at h hc ⊢
    obtain ⟨c, hcc⟩ : ∃ c, wrap64 p = c := ⟨_, rfl⟩
    have hmod : ∃ k : Int, c = p + 18446744073709551616 * k := by
      rw [← hcc, wrap64_eq]
      exact ⟨-((p + 9223372036854775808) / 18446744073709551616), by omega⟩
    rw [hcc] at h hc
    have hdiv := Int.mul_tdiv_add_tmod c b
    have hr : (c.tmod b).natAbs < b.natAbs := by
      rw [Int.natAbs_tmod]; exact Nat.mod_lt _ (by omega)
    have hq : (c.tdiv b).natAbs ≤ c.natAbs := by rw [Int.natAbs_tdiv]; exact Nat.div_le_self _ _
    have hqa : c.tdiv b = a := by
      rw [wrap64_eq] at h
      by_cases hb1 : c = -9223372036854775808 ∧ b = -1
      · obtain ⟨rfl, rfl⟩ := hb1
        have hd : (-9223372036854775808 : Int).tdiv (-1) = 9223372036854775808 := by decide
        rw [hd] at h
        exact absurd (And.intro (show a = -9223372036854775808 by omega) rfl) hmin
      · have hin : c.tdiv b ≤ 9223372036854775807 := by
          by_cases hc1 : c = -9223372036854775808
          · have hb2 : b ≠ -1 := fun e => hb1 ⟨hc1, e⟩
            by_cases hbp : 0 < b
            · have h2 : (c.tdiv b).natAbs = c.natAbs / b.natAbs := Int.natAbs_tdiv ..
              have h3 : c.tdiv b ≤ 0 := by
                have e := Int.mul_tdiv_add_tmod c b
                rcases Int.lt_or_le 0 (c.tdiv b) with h4 | h4
                · have h5 : b * 1 ≤ b * c.tdiv b := Int.mul_le_mul_of_nonneg_left (by omega) (by omega)
                  omega
                · exact h4
              omega
            · have h2 : (c.tdiv b).natAbs = c.natAbs / b.natAbs := Int.natAbs_tdiv ..
              have h3 : c.natAbs / b.natAbs ≤ c.natAbs / 2 := Nat.div_le_div_left (by omega) (by omega)
              omega
          · omega
        omega
    rw [hqa] at hdiv
    have hba : b * a = p := by rw [Int.mul_comm]; exact hp
    rw [hba] at hdiv
    obtain ⟨k, hk⟩ := hmod
    rw [isInt_iff]
    omega
  · intro h
    rw [wrap64_of h, Int.mul_tdiv_cancel _ h0, wrap64_of (by rw [isInt_iff]; exact ha)]
end Go.Proofs.Ythflglejhhebeaa.intm

namespace Go.Proofs.Ythflglejhhebeaa.bigw
open Go.RowKit mem bigm intm
set_option linter.unusedVariables false

theorem ret_pair {a b : Int} {c : Bool} (h : a = b) : Ending.returned (.tuple #[.int .i64 a, .bool c]) = .returned (.tuple #[.int .i64 b, .bool c]) := by rw [h]

set_option maxRecDepth 100000 in
set_option maxHeartbeats 2000000 in
theorem bint_any (z : Int) (hz : z.natAbs < 4294967296 ^ 10) (w : World) :
    Calls Try.prog 74 #[sb z] w fun e w' => e = .returned (.tuple #[.int .i64 (intOr z), .bool (isInt z)]) ∧ Only (fun _ => False) w w' := by
  obtain ⟨n, hn⟩ : ∃ n, z.natAbs = n := ⟨_, rfl⟩
  obtain ⟨s, hs⟩ : ∃ s, decide (z < 0) = s := ⟨_, rfl⟩
  have HX : Hid (sb z = big (limb n) s) := Lib.hid (by unfold sb; rw [hn, hs])
  rw [HX.out]
  rw [hn] at hz
  have BC := Lib.hid (box_cells w (limb n) s 125 _ rfl)
  have HN := Lib.hid hn
  have HZ := Lib.hid hz
  have HS := Lib.hid hs
  clear hz hn hs
  have bs : (w.alloc (.cells (bigC (limb n) s) 125)).cell? ⟨w.heap.size, 10, none⟩ = some (.bool s) := cell_new w (limb n) s _ _ rfl 10
  have b0 := BC.out 0 (by omega)
  have b1 := BC.out 1 (by omega)
  unfold bigC at bs b0 b1 BC
  unfold big
  go_enter Try.func74, Try.ntmps74
  go_wp2_with fail
  go_loop [4] (fun x => ∃ i : Nat, 2 ≤ i ∧ i ≤ 10 ∧ x = .int .i64 (i : Int) ∧ Hid (∀ j, 2 ≤ j → j < i → limb n j = 0)) (fun x => 10 - (intOf x).toNat)
  case atStart => exact ⟨2, by omega, by omega, rfl, Lib.hid (fun j h1 h2 => by omega)⟩
  case round =>
    obtain ⟨i, hi2, hi, rfl, HJ⟩ := hrel
    by_cases hi10 : i < 10
    · have x1 := BC.out i hi10
      by_cases h0 : limb n i = 0
      · rw [h0] at x1
        have HJ2 : Hid (∀ j, 2 ≤ j → j < i + 1 → limb n j = 0) := Lib.hid (fun j h1 h2 => by
          by_cases e : j = i
          · rw [e]; exact h0
          · exact HJ.out j h1 (by omega))
        clear h0
        go_wp2_with fail
        go_round
        case rel => exact ⟨i + 1, by omega, by omega, by go_num, HJ2⟩
        case measure => simp [intOf]; omega
      · have hq : ((limb n i : Int) != 0) = true := by rw [bne_iff_ne]; omega
        have hbig : Hid (18446744073709551616 ≤ n) := Lib.hid (big_of_limb hi2 h0)
        have hR : Hid (isInt z = false ∧ intOr z = 0) := Lib.hid (by
          have h1 : isInt z = false := by rw [isInt_not]; have h2 := hbig.out; have h3 := HN.out; omega
          exact ⟨h1, by unfold intOr; rw [h1]; rfl⟩)
        clear h0
        go_wp2
        go_ret2
        rw [hR.out.1, hR.out.2]
        exact ⟨rfl, (Only.refl _ w).alloc _⟩
    · obtain rfl : i = 10 := by omega
      have hsm : n < 18446744073709551616 := small_of_limbs HZ.out HJ.out
      have hl0 : limb n 0 = n % 4294967296 := by unfold limb; simp
      have hl1 : limb n 1 = n / 4294967296 := by unfold limb; simp; omega
      have hor := or_limbs hsm hl0 hl1
      have HOR := Lib.hid hor
      have HSM := Lib.hid hsm
      clear hl0 hl1 hsm hor
      obtain ⟨l0, hl0⟩ : ∃ l0, limb n 0 = l0 := ⟨_, rfl⟩
      obtain ⟨l1, hl1⟩ : ∃ l1, limb n 1 = l1 := ⟨_, rfl⟩
      have c0 := BC.out 0 (by omega)
      have c1 := BC.out 1 (by omega)
      rw [hl0] at b0
      rw [hl1] at b1
      rw [hl0, hl1] at HOR
      have hor := HOR.out
      clear c0 c1
      rcases Nat.lt_or_ge n 9223372036854775808 with hq | hq
      · have hqb : decide ((9223372036854775808 : Int) ≤ (n : Int)) = false := by rw [decide_eq_false_iff_not]; omega
        have hqc : decide ((9223372036854775808 : Int) < (n : Int)) = false := by rw [decide_eq_false_iff_not]; omega
        have hR : Hid (isInt z = true ∧ intOr z = z) := Lib.hid (by
          have h1 : isInt z = true := by rw [isInt_iff]; have h3 := HN.out; omega
          exact ⟨h1, by unfold intOr; rw [h1]; rfl⟩)
        have HQ := Lib.hid hq
        clear hq
        cases s
        · have hz : Hid ((n : Int) = z) := Lib.hid (by have h3 := HN.out; have h4 := HS.out; simp at h4; omega)
          go_wp2
          go_ret2
          rw [hR.out.1, hR.out.2]
          exact ⟨ret_pair (by rw [← hz.out, wrap64_eq]; have := HQ.out; omega), (Only.refl _ w).alloc _⟩
        · have hz : Hid (-(n : Int) = z) := Lib.hid (by have h3 := HN.out; have h4 := HS.out; simp at h4; omega)
          go_wp2
          go_ret2
          rw [hR.out.1, hR.out.2]
          exact ⟨ret_pair (by rw [← hz.out]; simp only [wrap64_eq, IntKind.wrap_u64]; have := HQ.out; omega), (Only.refl _ w).alloc _⟩
      · have hqb : decide ((9223372036854775808 : Int) ≤ (n : Int)) = true := by rw [decide_eq_true_iff]; omega
        have HQ := Lib.hid hq
        clear hq
        cases s
        · have hR : Hid (isInt z = false ∧ intOr z = 0) := Lib.hid (by
            have h1 : isInt z = false := by rw [isInt_not]; have h3 := HN.out; have h4 := HS.out; have h5 := HQ.out; simp at h4; omega
            exact ⟨h1, by unfold intOr; rw [h1]; rfl⟩)
          go_wp2
          go_ret2
          rw [hR.out.1, hR.out.2]
          exact ⟨rfl, (Only.refl _ w).alloc _⟩
        · by_cases he : n = 9223372036854775808
          · have hqc : decide ((9223372036854775808 : Int) < (n : Int)) = false := by rw [decide_eq_false_iff_not]; omega
            have hR : Hid (isInt z = true ∧ intOr z = z) := Lib.hid (by
              have h1 : isInt z = true := by rw [isInt_iff]; have h3 := HN.out; have h4 := HS.out; simp at h4; omega
              exact ⟨h1, by unfold intOr; rw [h1]; rfl⟩)
            have hz : Hid (-(n : Int) = z) := Lib.hid (by have h3 := HN.out; have h4 := HS.out; simp at h4; omega)
            have HE := Lib.hid he
            clear he
            go_wp2
            go_ret2
            rw [hR.out.1, hR.out.2]
            exact ⟨ret_pair (by rw [← hz.out]; simp only [wrap64_eq, IntKind.wrap_u64]; have := HE.out; omega), (Only.refl _ w).alloc _⟩
          · have hqc : decide ((9223372036854775808 : Int) < (n : Int)) = true := by rw [decide_eq_true_iff]; have h5 := HQ.out; omega
            have hR : Hid (isInt z = false ∧ intOr z = 0) := Lib.hid (by
              have h1 : isInt z = false := by rw [isInt_not]; have h3 := HN.out; have h4 := HS.out; have h5 := HQ.out; simp at h4; omega
              exact ⟨h1, by unfold intOr; rw [h1]; rfl⟩)
            clear he
            go_wp2
            go_ret2
            rw [hR.out.1, hR.out.2]
            exact ⟨rfl, (Only.refl _ w).alloc _⟩
end Go.Proofs.Ythflglejhhebeaa.bigw

namespace Go.Proofs.Ythflglejhhebeaa.bigw
open Go.RowKit mem bigm intm
set_option linter.unusedVariables false

/-- two numbers boxed -/
def boxes2 (w : World) (A B : Nat → Nat) (s t : Bool) (ty : TypeId) : World := (w.alloc (.cells (bigC A s) ty)).alloc (.cells (bigC B t) ty)
theorem boxes2_one (w : World) (A B : Nat → Nat) (s t : Bool) (ty : TypeId) (j : Nat) (v : Value) (h : (bigC A s)[j]? = some v) : (boxes2 w A B s t ty).cell? ⟨w.heap.size, j, none⟩ = some v ∧ (boxes2 w A B s t ty).frozen? ⟨w.heap.size, j, none⟩ = false := by
  have h1 := cell_new w A s ty _ rfl j
  rw [h] at h1
  have o : Only (fun _ => False) (w.alloc (.cells (bigC A s) ty)) (boxes2 w A B s t ty) := (Only.refl _ _).alloc _
  exact ⟨o.cell' h1 (fun f => f), (o.frozen (p := ⟨w.heap.size, j, none⟩) (by rw [size_alloc]; exact Nat.lt_succ_self _) (fun f => f)).trans (frozen_new w _ ty _ j rfl)⟩
theorem boxes2_two (w : World) (A B : Nat → Nat) (s t : Bool) (ty : TypeId) (j : Nat) (v : Value) (h : (bigC B t)[j]? = some v) : (boxes2 w A B s t ty).cell? ⟨w.heap.size + 1, j, none⟩ = some v ∧ (boxes2 w A B s t ty).frozen? ⟨w.heap.size + 1, j, none⟩ = false := by
  have h1 := cell_new (w.alloc (.cells (bigC A s) ty)) B t ty (w.heap.size + 1) (by rw [size_alloc]) j
  rw [h] at h1
  exact ⟨h1, frozen_new _ _ ty _ j (by rw [size_alloc])⟩
theorem boxes2_size (w : World) (A B : Nat → Nat) (s t : Bool) (ty : TypeId) : (boxes2 w A B s t ty).heap.size = w.heap.size + 2 := by
  unfold boxes2; rw [size_alloc, size_alloc]
theorem boxes2_only (w : World) (A B : Nat → Nat) (s t : Bool) (ty : TypeId) : Only (fun _ => False) w (boxes2 w A B s t ty) := ((Only.refl _ _).alloc _).alloc _

end Go.Proofs.Ythflglejhhebeaa.bigw

namespace Go.Proofs.Ythflglejhhebeaa.bigw
open Go.RowKit mem bigm intm
set_option linter.unusedVariables false

/-- one part put anew -/
def upd (D : Nat → Nat) (p x : Nat) : Nat → Nat := fun j => if j = p then x else D j

theorem val_upd_ge (D : Nat → Nat) (p x k : Nat) (h : k ≤ p) : val (upd D p x) k = val D k := by
  induction k with
  | zero => rfl
  | succ k ih =>
    show val (upd D p x) k + upd D p x k * 4294967296 ^ k = val D k + D k * 4294967296 ^ k
    rw [ih (by omega)]
    unfold upd; rw [if_neg (by omega)]

theorem val_upd (D : Nat → Nat) (p x k : Nat) (h : p < k) : val (upd D p x) k + D p * 4294967296 ^ p = val D k + x * 4294967296 ^ p := by
  induction k with
  | zero => omega
  | succ k ih =>
    show val (upd D p x) k + upd D p x k * 4294967296 ^ k + D p * 4294967296 ^ p = val D k + D k * 4294967296 ^ k + x * 4294967296 ^ p
    by_cases e : p = k
    · subst e
      rw [val_upd_ge D p x p (Nat.le_refl _)]
      unfold upd; rw [if_pos rfl]; omega
    · have h1 := ih (by omega)
      have h2 : upd D p x k = D k := by unfold upd; rw [if_neg (by omega)]
      rw [h2]; omega

/-- the state of the product, row i, place k -/
def Mul (n m i k o : Nat) (D : Nat → Nat) : Prop :=
  (∀ j, D j < 4294967296) ∧ (∀ j, i + 5 ≤ j → D j = 0) ∧ o < 4294967296 ∧ val D 10 + o * 4294967296 ^ (i + k) = val (limb n) i * val (limb m) 5 + limb n i * val (limb m) k * 4294967296 ^ i

theorem mul_place {n m i k o : Nat} {D : Nat → Nat} (h : Mul n m i k o D) (hi : i < 5) (hk : k < 5) :
    D (i + k) + limb n i * limb m k + o ≤ 18446744073709551615 ∧ Mul n m i (k + 1) ((D (i + k) + limb n i * limb m k + o) / 4294967296) (upd D (i + k) ((D (i + k) + limb n i * limb m k + o) % 4294967296)) := by
  obtain ⟨h1, h2, h3, h4⟩ := h
  have hd := h1 (i + k)
  have ha := limb_lt n i
  have hb := limb_lt m k
  have hp : limb n i * limb m k ≤ 4294967295 * 4294967295 := Nat.mul_le_mul (by omega) (by omega)
  refine ⟨by omega, ?_, ?_, ?_, ?_⟩
  · intro j
    unfold upd
    split
    · exact Nat.mod_lt _ (by omega)
    · exact h1 j
  · intro j hj
    unfold upd
    rw [if_neg (by omega)]; exact h2 j hj
  · rw [Nat.div_lt_iff_lt_mul (by omega)]; omega
  · obtain ⟨sv, hsv⟩ : ∃ sv, D (i + k) + limb n i * limb m k + o = sv := ⟨_, rfl⟩
    rw [hsv]
    have hu := val_upd D (i + k) (sv % 4294967296) 10 (by omega)
    have hdm := Nat.div_add_mod sv 4294967296
    have e1 : 4294967296 ^ (i + (k + 1)) = 4294967296 ^ (i + k) * 4294967296 := by rw [← Nat.add_assoc, Nat.pow_succ]
    rw [e1]
    have e2 : val (limb m) (k + 1) = val (limb m) k + limb m k * 4294967296 ^ k := rfl
    rw [e2, Nat.mul_add, Nat.add_mul, ← Nat.add_assoc, ← h4]
    have e3 : limb n i * (limb m k * 4294967296 ^ k) * 4294967296 ^ i = limb n i * limb m k * 4294967296 ^ (i + k) := by
      rw [Nat.pow_add, ← Nat.mul_assoc, Nat.mul_assoc (limb n i * limb m k), Nat.mul_comm (4294967296 ^ k)]
    rw [e3]
    have e4 : sv / 4294967296 * (4294967296 ^ (i + k) * 4294967296) = 4294967296 * (sv / 4294967296) * 4294967296 ^ (i + k) := by
      rw [Nat.mul_comm (4294967296 ^ (i + k)) 4294967296, ← Nat.mul_assoc, Nat.mul_comm (sv / 4294967296) 4294967296]
    rw [e4]
    have e5 : 4294967296 * (sv / 4294967296) * 4294967296 ^ (i + k) + sv % 4294967296 * 4294967296 ^ (i + k) = sv * 4294967296 ^ (i + k) := by
      rw [← Nat.add_mul, hdm]
    have e6 : sv * 4294967296 ^ (i + k) = D (i + k) * 4294967296 ^ (i + k) + limb n i * limb m k * 4294967296 ^ (i + k) + o * 4294967296 ^ (i + k) := by
      rw [← hsv, Nat.add_mul, Nat.add_mul]
    generalize 4294967296 * (sv / 4294967296) * 4294967296 ^ (i + k) = q1 at *
    generalize sv % 4294967296 * 4294967296 ^ (i + k) = q2 at *
    generalize limb n i * limb m k * 4294967296 ^ (i + k) = q3 at *
    generalize D (i + k) * 4294967296 ^ (i + k) = q4 at *
    generalize o * 4294967296 ^ (i + k) = q5 at *
    generalize sv * 4294967296 ^ (i + k) = q6 at *
    generalize val (upd D (i + k) (sv % 4294967296)) 10 = q7 at *
    generalize val D 10 = q8 at *
    clear h4 e1 e2 e3 e4 hdm hsv h1 h2 h3
    omega

/-- a row behind -/
theorem mul_row {n m i o : Nat} {D : Nat → Nat} (h : Mul n m i 5 o D) (hi : i < 5) : Mul n m (i + 1) 0 0 (upd D (i + 5) o) := by
  obtain ⟨h1, h2, h3, h4⟩ := h
  refine ⟨?_, ?_, by omega, ?_⟩
  · intro j
    unfold upd
    split
    · exact h3
    · exact h1 j
  · intro j hj
    unfold upd
    rw [if_neg (by omega)]; exact h2 j (by omega)
  · have hu := val_upd D (i + 5) o 10 (by omega)
    rw [h2 (i + 5) (Nat.le_refl _), Nat.zero_mul, Nat.add_zero] at hu
    rw [hu, h4]
    have e : val (limb n) (i + 1) = val (limb n) i + limb n i * 4294967296 ^ i := rfl
    have e2 : val (limb m) 0 = 0 := rfl
    rw [e, e2, Nat.mul_zero, Nat.zero_mul, Nat.add_zero, Nat.add_zero, Nat.add_mul]
    rw [Nat.mul_assoc (limb n i) (4294967296 ^ i), Nat.mul_comm (4294967296 ^ i), ← Nat.mul_assoc]

theorem mul_start (n m : Nat) : Mul n m 0 0 0 (fun _ => 0) := by
  refine ⟨fun j => by show 0 < _; omega, fun j _ => rfl, by omega, ?_⟩
  have : ∀ k, val (fun _ => 0) k = 0 := by
    intro k; induction k with
    | zero => rfl
    | succ k ih => show val (fun _ => 0) k + 0 * _ = 0; rw [ih, Nat.zero_mul]
  rw [this]
  show _ = 0 * val (limb m) 5 + limb n 0 * 0 * 4294967296 ^ 0
  simp

theorem mul_end {n m : Nat} {D : Nat → Nat} (h : Mul n m 5 0 0 D) (hn : n < 4294967296 ^ 5) (hm : m < 4294967296 ^ 5) : ∀ j, j < 10 → D j = limb (n * m) j := by
  obtain ⟨h1, _, _, h4⟩ := h
  have e2 : val (limb m) 0 = 0 := rfl
  rw [e2, Nat.mul_zero, Nat.zero_mul, Nat.add_zero, Nat.add_zero, val_limb, val_limb, Nat.mod_eq_of_lt hn, Nat.mod_eq_of_lt hm] at h4
  intro j hj
  rw [← h4, limb_val D 10 (fun i _ => h1 i) j hj]

theorem cells_upd {w : World} {D : Nat → Nat} {g p x : Nat} (h : ∀ j, j < 10 → w.cell? ⟨g, j, none⟩ = some (.int .u64 (D j : Int))) (hp : p < 10) : ∀ j, j < 10 → (w.setCell ⟨g, p, none⟩ (.int .u64 (x : Int))).cell? ⟨g, j, none⟩ = some (.int .u64 (upd D p x j : Int)) := by
  intro j hj
  unfold upd
  by_cases e : j = p
  · subst e
    rw [cell_same (h j hj), if_pos rfl]
  · rw [cell_other (off_ne (by omega)), h j hj, if_neg e]

/-- four numbers boxed -/
def boxes4 (w : World) (A B : Nat → Nat) (s t : Bool) (ty : TypeId) : World := (boxes w A B (fun _ => 0) s t false ty).alloc (.cells (bigC (fun _ => 0) false) ty)

/-- what holds at the heads of the product's loops -/
def Head (w wr : World) (n m : Nat) (s t : Bool) (i k o : Nat) : Prop :=
  ∃ D, Mul n m i k o D ∧ (∀ j, j < 10 → wr.cell? ⟨w.heap.size + 1 + 1 + 1, j, none⟩ = some (.int .u64 (D j : Int))) ∧ (∀ j, j < 11 → wr.frozen? ⟨w.heap.size + 1 + 1 + 1, j, none⟩ = false) ∧
    wr.cell? ⟨w.heap.size + 1 + 1 + 1, 10, none⟩ = some (.bool false) ∧ Only (fun q => q = w.heap.size + 1 + 1 + 1) (boxes4 w (limb n) (limb m) s t 125) wr

theorem head_start (w : World) (n m : Nat) (s t : Bool) : Head w (boxes4 w (limb n) (limb m) s t 125) n m s t 0 0 0 := by
  have hs := boxes_size w (limb n) (limb m) (fun _ => 0) s t false 125
  refine ⟨fun _ => 0, mul_start n m, ?_, ?_, ?_, Only.refl _ _⟩
  · intro j hj
    exact (cell_new (boxes w (limb n) (limb m) (fun _ => 0) s t false 125) (fun _ => 0) false _ (w.heap.size + 1 + 1 + 1) (by omega) j).trans (bigC_get _ _ j hj)
  · intro j hj
    exact frozen_new _ _ _ _ j (by omega)
  · exact cell_new (boxes w (limb n) (limb m) (fun _ => 0) s t false 125) (fun _ => 0) false _ (w.heap.size + 1 + 1 + 1) (by omega) 10

theorem head_place {w wr : World} {n m : Nat} {s t : Bool} {i k o : Nat} (h : Head w wr n m s t i k o) (hi : i < 5) (hk : k < 5) : ∃ d : Nat, wr.cell? ⟨w.heap.size + 1 + 1 + 1, i + k, none⟩ = some (.int .u64 (d : Int)) ∧
    d + limb n i * limb m k + o ≤ 18446744073709551615 ∧ Head w ((wr.setCell ⟨w.heap.size + 1 + 1 + 1, i + k, none⟩ (.int .u64 (((d + limb n i * limb m k + o) % 4294967296 : Nat) : Int))).drew) n m s t i (k + 1) ((d + limb n i * limb m k + o) / 4294967296) := by
  obtain ⟨D, h1, h2, h3, h4, h5⟩ := h
  obtain ⟨hb, hM⟩ := mul_place h1 hi hk
  refine ⟨D (i + k), h2 (i + k) (by omega), hb, _, hM, cells_upd h2 (by omega), ?_, ?_, ?_⟩
  · intro j hj
    show (wr.setCell ⟨w.heap.size + 1 + 1 + 1, i + k, none⟩ _).frozen? _ = _
    rw [frozen_set]; exact h3 j hj
  · show (wr.setCell ⟨w.heap.size + 1 + 1 + 1, i + k, none⟩ _).cell? _ = _
    rw [cell_other (off_ne (by omega))]; exact h4
  · exact (h5.setCell (p := ⟨w.heap.size + 1 + 1 + 1, i + k, none⟩) (.inl rfl) _).drew

theorem head_row {w wr : World} {n m : Nat} {s t : Bool} {i o : Nat} (h : Head w wr n m s t i 5 o) (hi : i < 5) : (∃ d : Nat, wr.cell? ⟨w.heap.size + 1 + 1 + 1, i + 5, none⟩ = some (.int .u64 (d : Int))) ∧
    Head w (wr.setCell ⟨w.heap.size + 1 + 1 + 1, i + 5, none⟩ (.int .u64 (o : Int))) n m s t (i + 1) 0 0 := by
  obtain ⟨D, h1, h2, h3, h4, h5⟩ := h
  refine ⟨⟨_, h2 (i + 5) (by omega)⟩, _, mul_row h1 hi, cells_upd h2 (by omega), ?_, ?_, ?_⟩
  · intro j hj
    rw [frozen_set]; exact h3 j hj
  · rw [cell_other (off_ne (by omega))]; exact h4
  · exact h5.setCell (p := ⟨w.heap.size + 1 + 1 + 1, i + 5, none⟩) (.inl rfl) _

theorem head_fr {w wr : World} {n m : Nat} {s t : Bool} {i k o : Nat} (h : Head w wr n m s t i k o) : ∀ j, j < 11 → wr.frozen? ⟨w.heap.size + 1 + 1 + 1, j, none⟩ = false := by
  obtain ⟨D, h1, h2, h3, h4, h5⟩ := h; exact h3
theorem head_only {w wr : World} {n m : Nat} {s t : Bool} {i k o : Nat} (h : Head w wr n m s t i k o) : Only (fun q => q = w.heap.size + 1 + 1 + 1) (boxes w (limb n) (limb m) (fun _ => 0) s t false 125) wr := by
  obtain ⟨D, h1, h2, h3, h4, h5⟩ := h
  have hs := boxes_size w (limb n) (limb m) (fun _ => 0) s t false 125
  exact ((Only.refl _ _).alloc _).trans (⟨h5.os, h5.tape, h5.output, h5.size, h5.block⟩)

theorem mul_small {n m : Nat} (hn : n < 4294967296 ^ 5) (hm : m < 4294967296 ^ 5) : n * m < 4294967296 ^ 10 := by
  have e : (4294967296 : Nat) ^ 10 = 4294967296 ^ 5 * 4294967296 ^ 5 := by rw [← Nat.pow_add]
  rw [e]
  exact Nat.mul_lt_mul_of_lt_of_le hn (Nat.le_of_lt hm) (Nat.pow_pos (by omega))

theorem sb_mul {x y : Int} {n m : Nat} {s t zb : Bool} (h : x.natAbs = n ∧ y.natAbs = m ∧ decide (x < 0) = s ∧ decide (y < 0) = t) (hz : decide (n * m = 0) = zb) : sb (x * y) = big (limb (n * m)) ((s != t) && !zb) := by
  obtain ⟨hn, hm, hs, ht⟩ := h
  unfold sb
  rw [Int.natAbs_mul, hn, hm]
  have e : decide (x * y < 0) = ((s != t) && !zb) := by
    rw [← hz, ← hs, ← ht, ← hn, ← hm]
    by_cases hx0 : x = 0
    · subst hx0; simp
    · by_cases hy0 : y = 0
      · subst hy0; simp
      · have hnz : ¬ (x.natAbs * y.natAbs = 0) := by
          rw [Nat.mul_eq_zero]; omega
        by_cases h1 : x < 0 <;> by_cases h2 : y < 0
        · have : 0 < x * y := Int.mul_pos_of_neg_of_neg h1 h2
          simp [h1, h2]; omega
        · have : x * y < 0 := Int.mul_neg_of_neg_of_pos h1 (by omega)
          simp [h1, h2, this, hnz]
        · have : x * y < 0 := Int.mul_neg_of_pos_of_neg (by omega) h2
          simp [h1, h2, this, hnz]
        · have : 0 < x * y := Int.mul_pos (by omega) (by omega)
          simp [h1, h2]; omega
  rw [e]

end Go.Proofs.Ythflglejhhebeaa.bigw

namespace Go.Proofs.Ythflglejhhebeaa.bigw
open Go.RowKit mem bigm intm
set_option linter.unusedVariables false

theorem of_sb (n : Int) (hn : -9223372036854775808 ≤ n ∧ n ≤ 9223372036854775807) (w : World) :
    Calls Try.prog 73 #[.int .i64 n] w fun e w' => e = .returned (sb n) ∧ Only (fun _ => False) w w' := of_any n hn w

theorem lt9 {k : Nat} (h : k ≤ 85070591730234615865843651857942052864) : k < 4294967296 ^ 9 := Nat.lt_of_le_of_lt h (Nat.le_of_ble_eq_true rfl)
theorem lt10 {k : Nat} (h : k ≤ 85070591730234615865843651857942052864) : k < 4294967296 ^ 10 := Nat.lt_of_le_of_lt h (Nat.le_of_ble_eq_true rfl)
theorem lt5 {k : Nat} (h : k ≤ 85070591730234615865843651857942052864) : k < 4294967296 ^ 5 := Nat.lt_of_le_of_lt h (Nat.le_of_ble_eq_true rfl)

theorem mul_le {a b : Int} (ha : -9223372036854775808 ≤ a ∧ a ≤ 9223372036854775807) (hb : -9223372036854775808 ≤ b ∧ b ≤ 9223372036854775807) : (a * b).natAbs ≤ 85070591730234615865843651857942052864 := by
  rw [Int.natAbs_mul]
  have h1 : a.natAbs ≤ 9223372036854775808 := by omega
  have h2 : b.natAbs ≤ 9223372036854775808 := by omega
  exact Nat.mul_le_mul h1 h2

end Go.Proofs.Ythflglejhhebeaa.bigw

namespace Go.Proofs.Ythflglejhhebeaa.bigw
open Go.RowKit mem bigm intm
set_option linter.unusedVariables false

theorem add64 (x y c : Int) (hx : 0 ≤ x) (hy : 0 ≤ y) (hc0 : 0 ≤ c) (hc : c ≤ 1) (w : World) : (callFunc 70 #[.int .u64 x, .int .u64 y, .int .u64 c]).run Try.prog w =
    .ok (.value (.tuple #[.int .u64 ((x + y + c) % 18446744073709551616), .int .u64 ((x + y + c) / 18446744073709551616)])) w := by
  rw [run_callFunc_extern Try.func70 (by kernel_rfl) (by kernel_rfl) (by kernel_rfl) (e := add64Entry) (by kernel_rfl), run_add64 x y c hx hy hc0 hc]
  rfl
theorem add64_0 (x y : Int) (hx : 0 ≤ x) (hy : 0 ≤ y) (w : World) : (callFunc 70 #[.int .u64 x, .int .u64 y, .int .u64 0]).run Try.prog w =
    .ok (.value (.tuple #[.int .u64 ((x + y) % 18446744073709551616), .int .u64 ((x + y) / 18446744073709551616)])) w := by
  simpa using add64 x y 0 hx hy (Int.le_refl 0) (by decide) w

/-- the upper word of a number -/
def up (n : Int) : Int := if n < 0 then 18446744073709551615 else 0

set_option maxRecDepth 100000 in
theorem sign_any (n : Int) (hn : -9223372036854775808 ≤ n ∧ n ≤ 9223372036854775807) (w : World) :
    Calls Try.prog 71 #[.int .i64 n] w fun e w' => e = .returned (.int .u64 (up n)) ∧ w = w' := by
  have hu : up n = (n / 9223372036854775808) % 18446744073709551616 := by unfold up; split <;> omega
  rw [hu]
  go_enter Try.func71, Try.ntmps71
  go_wp2
  go_ret
  exact ⟨rfl, rfl⟩

theorem u64_wrap (n : Int) : IntKind.u64.wrap n = n % 18446744073709551616 := by rfl

theorem sum_le : ∀ (l : List Int), (∀ c ∈ l, -9223372036854775808 ≤ c ∧ c ≤ 9223372036854775807) → -9223372036854775808 * (l.length : Int) ≤ l.sum ∧ l.sum ≤ 9223372036854775808 * (l.length : Int) := by
  intro l
  induction l with
  | nil => intro _; simp
  | cons c l ih =>
    intro h
    have h1 := ih (fun d hd => h d (by simp [hd]))
    have h2 := h c (by simp)
    rw [List.sum_cons, List.length_cons]
    omega

theorem sum_take_succ (l : List Int) (k : Nat) (h : k < l.length) : (l.take (k + 1)).sum = (l.take k).sum + l.getD k 0 := by
  rw [List.take_succ_eq_append_getElem h, List.sum_append]
  simp [List.getD, h]

/-- the two words of a sum on the way -/
def Two (hi lo s : Int) : Prop := 0 ≤ hi ∧ hi < 18446744073709551616 ∧ 0 ≤ lo ∧ lo < 18446744073709551616 ∧ ∃ m : Int, hi * 18446744073709551616 + lo = s + 340282366920938463463374607431768211456 * m

theorem two_step {hi lo s n : Int} (h : Two hi lo s) (hn : -9223372036854775808 ≤ n ∧ n ≤ 9223372036854775807) :
    Two ((hi + up n + (lo + n % 18446744073709551616) / 18446744073709551616) % 18446744073709551616) ((lo + n % 18446744073709551616) % 18446744073709551616) (s + n) := by
  obtain ⟨h1, h2, h3, h4, m, hm⟩ := h
  obtain ⟨q, hq⟩ : ∃ q, (hi + up n + (lo + n % 18446744073709551616) / 18446744073709551616) / 18446744073709551616 = q := ⟨_, rfl⟩
  refine ⟨by omega, by omega, by omega, by omega, m + (if n < 0 then 1 else 0) - q, ?_⟩
  unfold up at hq ⊢
  split <;> simp_all only [if_true, if_false] <;> omega

theorem two_end {hi lo s : Int} (h : Two hi lo s) (hs : -85070591730234615865843651857942052864 ≤ s ∧ s ≤ 85070591730234615865843651857942052864) :
    isInt s = decide (hi = up (wrap64 lo)) ∧ (hi = up (wrap64 lo) → wrap64 lo = s) := by
  obtain ⟨h1, h2, h3, h4, m, hm⟩ := h
  have hw : wrap64 lo = if lo < 9223372036854775808 then lo else lo - 18446744073709551616 := by
    unfold wrap64; split <;> omega
  rw [hw]
  have hiff : (hi = up (if lo < 9223372036854775808 then lo else lo - 18446744073709551616)) ↔ (-9223372036854775808 ≤ s ∧ s ≤ 9223372036854775807) := by
    unfold up; split <;> split <;> omega
  refine ⟨?_, ?_⟩
  · rw [Bool.eq_iff_iff, isInt_iff, decide_eq_true_eq]; exact hiff.symm
  · intro he
    have hb := hiff.1 he
    unfold up at he
    split at he <;> split at he <;> split <;> omega

set_option maxRecDepth 100000 in
set_option maxHeartbeats 1000000 in
theorem asum_any (a : Option Addr) (len cap : Nat) (l : List Int) (w : World) (h : ReadsI w a len l) :
    Calls Try.prog 61 #[.slice a len cap] w fun e w' => e = .returned (.tuple #[.int .i64 (intOr l.sum), .bool (isInt l.sum)]) ∧ w = w' := by
  obtain ⟨hl, hm, hr, hc⟩ := h
  unfold maxLen at hm
  have HL := Lib.hid hl
  have HR := Lib.hid hr
  clear hl hr
  have HB : Hid (-85070591730234615865843651857942052864 ≤ l.sum ∧ l.sum ≤ 85070591730234615865843651857942052864) := Lib.hid (by
    have := sum_le l HR.out
    rw [HL.out] at this
    omega)
  go_enter Try.func61, Try.ntmps61
  go_wp2_with fail
  go_loop [4, 5, 12] (fun hv lv i => ∃ (k : Nat) (hi lo : Int), k ≤ len ∧ i = .int .i64 k ∧ hv = .int .u64 hi ∧ lv = .int .u64 lo ∧ Hid (Two hi lo (l.take k).sum)) (fun _ _ i => len - (intOf i).toNat)
  case atStart => exact ⟨0, 0, 0, by omega, rfl, rfl, rfl, Lib.hid ⟨by omega, by omega, by omega, by omega, 0, by simp⟩⟩
  case round =>
    obtain ⟨k, hi, lo, hk, rfl, rfl, rfl, HT⟩ := hrel
    by_cases h8 : k < len
    · obtain ⟨b, off, rfl, hcell⟩ := hc.resolve_left (by omega)
      have hcl := hcell k h8
      have HS : Hid ((l.take (k + 1)).sum = (l.take k).sum + l.getD k 0) := Lib.hid (sum_take_succ l k (by rw [HL.out]; exact h8))
      have hn := in_getD l HR.out k
      have HN := Lib.hid (two_step HT.out hn)
      rw [← u64_wrap] at HN
      have HX := Lib.hid hn
      rw [← HS.out] at HN
      clear HS hcell hc
      generalize l.getD k 0 = n at *
      have q1 : 0 ≤ lo := HT.out.2.2.1
      have q2 : 0 ≤ IntKind.u64.wrap n := by rw [u64_wrap]; omega
      have q3 : 0 ≤ hi := HT.out.1
      have q4 : 0 ≤ up n := by unfold up; split <;> omega
      have q5 : 0 ≤ (lo + IntKind.u64.wrap n) / 18446744073709551616 := by rw [u64_wrap]; omega
      have q6 : (lo + IntKind.u64.wrap n) / 18446744073709551616 ≤ 1 := by rw [u64_wrap]; have := HT.out.2.2.2.1; omega
      clear hn
      go_wp2_with (simp only [add64_0 lo _ q1 q2])
      refine (sign_any n HX.out _).mono ?_
      rintro e1 w1 ⟨rfl, rfl⟩
      go_wp2_with (simp only [add64 hi (up n) _ q3 q4 q5 q6])
      go_round
      case rel => exact ⟨k + 1, _, _, by omega, by go_num, rfl, rfl, HN⟩
      case measure => simp [intOf]; omega
    · obtain rfl : k = len := by omega
      have HT2 := Lib.hid (two_end (by have := HT.out; rw [List.take_of_length_le (by rw [HL.out]; omega)] at this; exact this) HB.out)
      have HW := Lib.hid (wrap64_in lo)
      clear hc hm
      go_wp2_with fail
      refine (sign_any (wrap64 lo) HW.out _).mono ?_
      rintro e1 w1 ⟨rfl, rfl⟩
      generalize hu : up (wrap64 lo) = u at *
      have hd : isInt l.sum = decide (hi = u) := HT2.out.1
      by_cases he : hi = u
      · have e1 : isInt l.sum = true := by rw [hd, he]; simp
        have e2 : intOr l.sum = wrap64 lo := by unfold intOr; rw [e1, HT2.out.2 he]; rfl
        subst he
        clear hd HT2 HT
        go_wp2_with fail
        rw [e1, e2]
        go_ret2
        exact ⟨rfl, rfl⟩
      · have e1 : isInt l.sum = false := by rw [hd]; simp [he]
        have e2 : intOr l.sum = 0 := by unfold intOr; rw [e1]; rfl
        clear hd HT2 HT
        go_wp2_with fail
        rw [e1, e2]
        go_ret2
        exact ⟨rfl, rfl⟩
end Go.Proofs.Ythflglejhhebeaa.bigw

namespace Go.Proofs.Ythflglejhhebeaa.bigw
open Go.RowKit mem bigm intm
set_option linter.unusedVariables false

/-- cells stored one behind the other -/
def puts (g : Nat) : Nat → List Value → World → World
  | _, [], w => w
  | o, v :: vs, w => puts g (o + 1) vs (w.setCell ⟨g, o, none⟩ v)

theorem puts_frozen (g : Nat) : ∀ (vs : List Value) (o : Nat) (w : World) (p : Addr), (puts g o vs w).frozen? p = w.frozen? p := by
  intro vs
  induction vs with
  | nil => intro o w p; rfl
  | cons v vs ih => intro o w p; exact (ih (o + 1) _ p).trans frozen_set

theorem puts_only {S : Nat → Prop} (g : Nat) : ∀ (vs : List Value) (o : Nat) (a w : World), Only S a w → (S g ∨ a.heap.size ≤ g) → Only S a (puts g o vs w) := by
  intro vs
  induction vs with
  | nil => intro o a w h _; exact h
  | cons v vs ih => intro o a w h hg; exact ih (o + 1) a _ (h.setCell (p := ⟨g, o, none⟩) hg v) hg

theorem puts_cell (g : Nat) : ∀ (vs : List Value) (o : Nat) (w : World), (∀ j, j < o + vs.length → ∃ u, w.cell? ⟨g, j, none⟩ = some u) →
    ∀ j v, (j < o ∧ w.cell? ⟨g, j, none⟩ = some v ∨ o ≤ j ∧ vs[j - o]? = some v) → (puts g o vs w).cell? ⟨g, j, none⟩ = some v := by
  intro vs
  induction vs with
  | nil =>
    intro o w h j v hj
    rcases hj with ⟨_, h1⟩ | ⟨_, h1⟩
    · exact h1
    · simp at h1
  | cons x vs ih =>
    intro o w h j v hj
    have hx : ∀ i, i < (o + 1) + vs.length → ∃ u, (w.setCell ⟨g, o, none⟩ x).cell? ⟨g, i, none⟩ = some u := by
      intro i hi
      obtain ⟨u, hu⟩ := h i (by simp; omega)
      by_cases e : i = o
      · subst e; exact ⟨x, cell_same hu⟩
      · exact ⟨u, by rw [cell_other (off_ne (by omega))]; exact hu⟩
    refine ih (o + 1) _ hx j v ?_
    obtain ⟨u, hu⟩ := h o (by simp)
    rcases hj with ⟨h1, h2⟩ | ⟨h1, h2⟩
    · exact .inl ⟨by omega, by rw [cell_other (off_ne (by omega))]; exact h2⟩
    · by_cases e : j = o
      · subst e
        refine .inl ⟨by omega, ?_⟩
        rw [cell_same hu]
        simpa using h2
      · refine .inr ⟨by omega, ?_⟩
        rw [show j - o = (j - (o + 1)) + 1 by omega] at h2
        simpa using h2

/-- the eleven cells of a number -/
def lits (z : Int) : List Value := [.int .u64 (limb z.natAbs 0 : Int), .int .u64 (limb z.natAbs 1 : Int), .int .u64 (limb z.natAbs 2 : Int), .int .u64 (limb z.natAbs 3 : Int), .int .u64 (limb z.natAbs 4 : Int), .int .u64 (limb z.natAbs 5 : Int), .int .u64 (limb z.natAbs 6 : Int), .int .u64 (limb z.natAbs 7 : Int), .int .u64 (limb z.natAbs 8 : Int), .int .u64 (limb z.natAbs 9 : Int), .bool (decide (z < 0))]

theorem sb_lit (z : Int) : sb z = .agg (lits z).toArray := by rfl
theorem sb_lit2 (z : Int) : sb z = .agg #[.int .u64 (limb z.natAbs 0 : Int), .int .u64 (limb z.natAbs 1 : Int), .int .u64 (limb z.natAbs 2 : Int), .int .u64 (limb z.natAbs 3 : Int), .int .u64 (limb z.natAbs 4 : Int), .int .u64 (limb z.natAbs 5 : Int), .int .u64 (limb z.natAbs 6 : Int), .int .u64 (limb z.natAbs 7 : Int), .int .u64 (limb z.natAbs 8 : Int), .int .u64 (limb z.natAbs 9 : Int), .bool (decide (z < 0))] := by rfl

/-- a number's box at the head of a loop -/
def HeadS (w wr : World) (z : Int) : Prop :=
  (∀ j v, (lits z)[j]? = some v → wr.cell? ⟨w.heap.size, j, none⟩ = some v ∧ wr.frozen? ⟨w.heap.size, j, none⟩ = false) ∧ Only (fun _ => False) w wr ∧ w.heap.size < wr.heap.size

theorem heads_put {w wr w2 : World} {z y : Int} (h : HeadS w wr z) (ho : Only (fun _ => False) wr w2) : HeadS w (puts w.heap.size 0 (lits y) w2) y := by
  have hw2 : ∀ j v, (lits z)[j]? = some v → w2.cell? ⟨w.heap.size, j, none⟩ = some v ∧ w2.frozen? ⟨w.heap.size, j, none⟩ = false := fun j v hj =>
    ⟨ho.cell' (h.1 j v hj).1 (fun f => f), (ho.frozen (p := ⟨w.heap.size, j, none⟩) h.2.2 (fun f => f)).trans (h.1 j v hj).2⟩
  have hex : ∀ j, j < 11 → ∃ u, (lits z)[j]? = some u := fun j hj => ⟨(lits z)[j]'hj, List.getElem?_eq_getElem _⟩
  have ho2 := puts_only (S := fun _ => False) w.heap.size (lits y) 0 w w2 (h.2.1.trans ho) (.inr (Nat.le_refl _))
  refine ⟨?_, ho2, ?_⟩
  · intro j v hj
    refine ⟨puts_cell w.heap.size (lits y) 0 w2 ?_ j v (.inr ⟨Nat.zero_le _, by rw [Nat.sub_zero]; exact hj⟩), ?_⟩
    · intro i hi
      obtain ⟨u, hu⟩ := hex i (by rw [Nat.zero_add] at hi; exact hi)
      exact ⟨u, (hw2 i u hu).1⟩
    · rw [puts_frozen]
      have hlt : j < 11 := by
        rcases Nat.lt_or_ge j 11 with g | g
        · exact g
        · rw [List.getElem?_eq_none (show (lits y).length ≤ j from g)] at hj; cases hj
      obtain ⟨u, hu⟩ := hex j hlt
      exact (hw2 j u hu).2
  · have := (puts_only (S := fun _ => True) w.heap.size (lits y) 0 w2 w2 (Only.refl _ _) (.inl trivial)).size
    have h3 := ho.size
    have h4 := h.2.2
    omega

theorem sb_zero : sb 0 = .agg #[.int .u64 0, .int .u64 0, .int .u64 0, .int .u64 0, .int .u64 0, .int .u64 0, .int .u64 0, .int .u64 0, .int .u64 0, .int .u64 0, .bool false] := by rfl

theorem heads_start (w : World) : HeadS w (w.alloc (.cells #[.int .u64 0, .int .u64 0, .int .u64 0, .int .u64 0, .int .u64 0, .int .u64 0, .int .u64 0, .int .u64 0, .int .u64 0, .int .u64 0, .bool false] 125)) 0 := by
  refine ⟨fun j v hj => ⟨?_, ?_⟩, (Only.refl _ _).alloc _, by rw [size_alloc]; omega⟩
  · have h := cell_new w (fun _ => 0) false 125 _ rfl j
    refine h.trans ?_
    rw [← hj, show bigC (fun _ => 0) false = (lits 0).toArray from rfl, List.getElem?_toArray]
  · exact frozen_new w _ _ _ j rfl

set_option maxRecDepth 100000 in
set_option maxHeartbeats 1000000 in
theorem rsum_any (a : Option Addr) (len cap : Nat) (l : List Int) (w : World) (h : ReadsI w a len l) :
    Calls Try.prog 62 #[.slice a len cap] w fun e w' => e = .returned (.tuple #[.int .i64 (intOr l.sum), .bool (isInt l.sum)]) ∧ Only (fun _ => False) w w' := by
  have H := Lib.hid h
  have hm := h.2.1
  unfold maxLen at hm
  clear h
  have HB : Hid (∀ k, k ≤ len → (l.take k).sum.natAbs ≤ 85070591730234615865843651857942052864) := Lib.hid (by
    intro k hk
    have := sum_le (l.take k) (fun c hc => H.out.2.2.1 c (List.mem_of_mem_take hc))
    have hl := H.out.1
    have h2 : (l.take k).length = k := by simp; omega
    rw [h2] at this
    omega)
  go_enter Try.func62, Try.ntmps62
  go_wp2_with fail
  go_loopw [5] (fun i wr => ∃ k : Nat, k ≤ len ∧ i = .int .i64 k ∧ Hid (HeadS w wr (l.take k).sum)) (fun i _ => len - (intOf i).toNat)
  case atStart => exact ⟨0, by omega, rfl, Lib.hid (heads_start w)⟩
  case round =>
    obtain ⟨k, hk, rfl, HH⟩ := hrel
    by_cases h8 : k < len
    · obtain ⟨b, off, rfl, hcell⟩ := H.out.2.2.2.resolve_left (by omega)
      have hcl := HH.out.2.1.cell' (hcell k h8) (fun f => f)
      have HS : Hid ((l.take (k + 1)).sum = (l.take k).sum + l.getD k 0) := Lib.hid (sum_take_succ l k (by rw [H.out.1]; exact h8))
      have HX := Lib.hid (in_getD l H.out.2.2.1 k)
      have HS0 := Lib.hid (HB.out k hk)
      clear hcell
      generalize l.getD k 0 = n at *
      generalize hS : (l.take k).sum = S at *
      generalize hS' : (l.take (k + 1)).sum = S' at *
      have c0 := (HH.out.1 0 (.int .u64 (limb S.natAbs 0 : Int)) rfl).1
      have c1 := (HH.out.1 1 (.int .u64 (limb S.natAbs 1 : Int)) rfl).1
      have c2 := (HH.out.1 2 (.int .u64 (limb S.natAbs 2 : Int)) rfl).1
      have c3 := (HH.out.1 3 (.int .u64 (limb S.natAbs 3 : Int)) rfl).1
      have c4 := (HH.out.1 4 (.int .u64 (limb S.natAbs 4 : Int)) rfl).1
      have c5 := (HH.out.1 5 (.int .u64 (limb S.natAbs 5 : Int)) rfl).1
      have c6 := (HH.out.1 6 (.int .u64 (limb S.natAbs 6 : Int)) rfl).1
      have c7 := (HH.out.1 7 (.int .u64 (limb S.natAbs 7 : Int)) rfl).1
      have c8 := (HH.out.1 8 (.int .u64 (limb S.natAbs 8 : Int)) rfl).1
      have c9 := (HH.out.1 9 (.int .u64 (limb S.natAbs 9 : Int)) rfl).1
      have c10 := (HH.out.1 10 (.bool (decide (S < 0))) rfl).1
      have z0 := (HH.out.1 0 _ rfl).2
      have z1 := (HH.out.1 1 _ rfl).2
      have z2 := (HH.out.1 2 _ rfl).2
      have z3 := (HH.out.1 3 _ rfl).2
      have z4 := (HH.out.1 4 _ rfl).2
      have z5 := (HH.out.1 5 _ rfl).2
      have z6 := (HH.out.1 6 _ rfl).2
      have z7 := (HH.out.1 7 _ rfl).2
      have z8 := (HH.out.1 8 _ rfl).2
      have z9 := (HH.out.1 9 _ rfl).2
      have z10 := (HH.out.1 10 _ rfl).2
      have HNN : Hid (n.natAbs ≤ 85070591730234615865843651857942052864) := Lib.hid (by have := HX.out; omega)
      go_wp2_with fail
      go_region_with (first | (go_at_call 73; refine (of_sb n HX.out _).mono ?_; rintro e1 w6 ⟨rfl, hO6⟩; have HH6 := hO6; have d0 := hO6.cell' c0 (fun f => f); have d1 := hO6.cell' c1 (fun f => f); have d2 := hO6.cell' c2 (fun f => f); have d3 := hO6.cell' c3 (fun f => f); have d4 := hO6.cell' c4 (fun f => f); have d5 := hO6.cell' c5 (fun f => f); have d6 := hO6.cell' c6 (fun f => f); have d7 := hO6.cell' c7 (fun f => f); have d8 := hO6.cell' c8 (fun f => f); have d9 := hO6.cell' c9 (fun f => f); have d10 := hO6.cell' c10 (fun f => f)) | (go_at_call 72; refine (plus_any S n (lt9 HS0.out) (lt9 HNN.out) _).mono ?_; rintro e2 w7 ⟨rfl, hO7⟩; rw [sb_lit2]; have HO67 := hO6.trans hO7; have x0 := hO7.cell' d0 (fun f => f); have x1 := hO7.cell' d1 (fun f => f); have x2 := hO7.cell' d2 (fun f => f); have x3 := hO7.cell' d3 (fun f => f); have x4 := hO7.cell' d4 (fun f => f); have x5 := hO7.cell' d5 (fun f => f); have x6 := hO7.cell' d6 (fun f => f); have x7 := hO7.cell' d7 (fun f => f); have x8 := hO7.cell' d8 (fun f => f); have x9 := hO7.cell' d9 (fun f => f); have x10 := hO7.cell' d10 (fun f => f); have y0 := (HO67.frozen (p := ⟨w.heap.size, 0, none⟩) HH.out.2.2 (fun f => f)).trans z0; have y1 := (HO67.frozen (p := ⟨w.heap.size, 1, none⟩) HH.out.2.2 (fun f => f)).trans z1; have y2 := (HO67.frozen (p := ⟨w.heap.size, 2, none⟩) HH.out.2.2 (fun f => f)).trans z2; have y3 := (HO67.frozen (p := ⟨w.heap.size, 3, none⟩) HH.out.2.2 (fun f => f)).trans z3; have y4 := (HO67.frozen (p := ⟨w.heap.size, 4, none⟩) HH.out.2.2 (fun f => f)).trans z4; have y5 := (HO67.frozen (p := ⟨w.heap.size, 5, none⟩) HH.out.2.2 (fun f => f)).trans z5; have y6 := (HO67.frozen (p := ⟨w.heap.size, 6, none⟩) HH.out.2.2 (fun f => f)).trans z6; have y7 := (HO67.frozen (p := ⟨w.heap.size, 7, none⟩) HH.out.2.2 (fun f => f)).trans z7; have y8 := (HO67.frozen (p := ⟨w.heap.size, 8, none⟩) HH.out.2.2 (fun f => f)).trans z8; have y9 := (HO67.frozen (p := ⟨w.heap.size, 9, none⟩) HH.out.2.2 (fun f => f)).trans z9; have y10 := (HO67.frozen (p := ⟨w.heap.size, 10, none⟩) HH.out.2.2 (fun f => f)).trans z10))
      all_goals
        have HN : Hid (HeadS w (puts w.heap.size 0 (lits (S + n)) w7) (l.take (k + 1)).sum) := Lib.hid (by rw [hS', HS.out]; exact heads_put HH.out (((Only.refl _ _).drew).trans HO67))
        clear c0 c1 c2 c3 c4 c5 c6 c7 c8 c9 c10 d0 d1 d2 d3 d4 d5 d6 d7 d8 d9 d10 z0 z1 z2 z3 z4 z5 z6 z7 z8 z9 z10 x0 x1 x2 x3 x4 x5 x6 x7 x8 x9 x10 y0 y1 y2 y3 y4 y5 y6 y7 y8 y9 y10 hcl HH6 hO6 hO7 HO67
        go_wp2_with fail
        go_roundw
        case rel => exact ⟨k + 1, by omega, by go_num, HN⟩
        case measure => simp [intOf]; omega
    · obtain rfl : k = len := by omega
      have hS : (l.take k).sum = l.sum := by rw [List.take_of_length_le (by rw [H.out.1]; omega)]
      have HS0 := Lib.hid (HB.out k hk)
      rw [hS] at HH HS0
      generalize hSS : l.sum = S at *
      have c0 := (HH.out.1 0 (.int .u64 (limb S.natAbs 0 : Int)) rfl).1
      have c1 := (HH.out.1 1 (.int .u64 (limb S.natAbs 1 : Int)) rfl).1
      have c2 := (HH.out.1 2 (.int .u64 (limb S.natAbs 2 : Int)) rfl).1
      have c3 := (HH.out.1 3 (.int .u64 (limb S.natAbs 3 : Int)) rfl).1
      have c4 := (HH.out.1 4 (.int .u64 (limb S.natAbs 4 : Int)) rfl).1
      have c5 := (HH.out.1 5 (.int .u64 (limb S.natAbs 5 : Int)) rfl).1
      have c6 := (HH.out.1 6 (.int .u64 (limb S.natAbs 6 : Int)) rfl).1
      have c7 := (HH.out.1 7 (.int .u64 (limb S.natAbs 7 : Int)) rfl).1
      have c8 := (HH.out.1 8 (.int .u64 (limb S.natAbs 8 : Int)) rfl).1
      have c9 := (HH.out.1 9 (.int .u64 (limb S.natAbs 9 : Int)) rfl).1
      have c10 := (HH.out.1 10 (.bool (decide (S < 0))) rfl).1
      go_wp2_with fail
      refine (bint_any S (lt10 HS0.out) _).mono ?_
      rintro e1 w1 ⟨rfl, hO⟩
      have HO := Lib.hid (HH.out.2.1.trans hO)
      clear hO c0 c1 c2 c3 c4 c5 c6 c7 c8 c9 c10
      go_wp2_with fail
      rw [hSS]
      go_ret2
      exact ⟨rfl, HO.out⟩

set_option maxRecDepth 100000 in
theorem same_any (a b : Option Addr) (n c d : Nat) (l : List Int) (w : World) (h1 : ReadsI w a n l) (h2 : ReadsI w b n l) :
    Calls Try.prog 41 #[.slice a n c, .slice b n d] w fun e w' => e = .returned (.bool true) ∧ Only (fun _ => False) w w' := by
  have hm := h1.2.1
  unfold maxLen at hm
  have H1 := Lib.hid h1
  have H2 := Lib.hid h2
  clear h1 h2
  go_enter Try.func41, Try.ntmps41
  go_wp2_with fail
  go_loopw [5] (fun i wr => ∃ k : Nat, k ≤ n ∧ i = .int .i64 k ∧ Hid (Only (fun _ => False) w wr)) (fun i _ => n - (intOf i).toNat)
  case atStart => exact ⟨0, by omega, rfl, Lib.hid (Only.refl _ _)⟩
  case round =>
    obtain ⟨k, hk, rfl, HO⟩ := hrel
    by_cases h8 : k < n
    · obtain ⟨b1, off1, rfl, hc1⟩ := H1.out.2.2.2.resolve_left (by omega)
      obtain ⟨b2, off2, rfl, hc2⟩ := H2.out.2.2.2.resolve_left (by omega)
      have e1 := HO.out.cell' (hc1 k h8) (fun f => f)
      have e2 := HO.out.cell' (hc2 k h8) (fun f => f)
      clear hc1 hc2
      generalize l.getD k 0 = x at *
      go_wp2_with fail
      go_region
      all_goals
        go_wp2_with fail
        go_roundw
        case rel => exact ⟨k + 1, by omega, by go_num, Lib.hid HO.out.drew⟩
        case measure => simp [intOf]; omega
    · obtain rfl : k = n := by omega
      go_wp2_with fail
      go_ret
      exact ⟨rfl, HO.out⟩
end Go.Proofs.Ythflglejhhebeaa.bigw

