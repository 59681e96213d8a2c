/- Part and Blocks, the program's and the document's: what they answer. -/
import Derived.Test.YtooffbgcaichmaaDivide
import Derived.Test.YtooffbgcaichmaaDiv64
namespace Go.Proofs.Ytooffbgcaichmaa.bigw
open Go.RowKit mem bigm intm
set_option linter.unusedVariables false

def pq (a b c : Int) : Int := if 0 ≤ a ∧ 0 ≤ b ∧ 1 ≤ c ∧ a * b / c ≤ 9223372036854775807 then a * b / c else 0
def pr (a b c : Int) : Int := if 0 ≤ a ∧ 0 ≤ b ∧ 1 ≤ c ∧ a * b / c ≤ 9223372036854775807 then a * b % c else 0
def pk (a b c : Int) : Bool := decide (0 ≤ a ∧ 0 ≤ b ∧ 1 ≤ c ∧ a * b / c ≤ 9223372036854775807)

theorem part_no {a b c : Int} (h : ¬ (0 ≤ a ∧ 0 ≤ b ∧ 1 ≤ c ∧ a * b / c ≤ 9223372036854775807)) : pq a b c = 0 ∧ pr a b c = 0 ∧ pk a b c = false := by
  unfold pq pr pk; rw [if_neg h, if_neg h, decide_eq_false h]; exact ⟨rfl, rfl, rfl⟩
theorem part_yes {a b c : Int} (h : 0 ≤ a ∧ 0 ≤ b ∧ 1 ≤ c ∧ a * b / c ≤ 9223372036854775807) : pq a b c = a * b / c ∧ pr a b c = a * b % c ∧ pk a b c = true := by
  unfold pq pr pk; rw [if_pos h, if_pos h, decide_eq_true h]; exact ⟨rfl, rfl, rfl⟩

theorem words (N : Nat) : N / 18446744073709551616 * 18446744073709551616 + N % 18446744073709551616 = N := by omega

theorem high_big {N c : Nat} (hc : 0 < c) (h : c ≤ N / 18446744073709551616) : 18446744073709551616 ≤ N / c := by
  rw [Nat.le_div_iff_mul_le hc, Nat.mul_comm]
  exact (Nat.le_div_iff_mul_le (by omega)).1 h

theorem drewN_only {S : Nat → Prop} {a w : World} (h : Only S a w) (n : Nat) : Only S a (w.drewN n) := ⟨h.os, h.tape, h.output, h.size, h.block⟩

theorem sb_nat (N : Nat) : sb (N : Int) = big (limb N) false := by
  have : decide ((N : Int) < 0) = false := by rw [decide_eq_false_iff_not]; omega
  unfold sb; rw [this]; rfl

theorem bint_nat (N : Nat) (h : N < 4294967296 ^ 10) (w : World) :
    Calls Try.prog 10 #[big (limb N) false] w fun e w' => e = .returned (.tuple #[.int .i64 (intOr N), .bool (isInt N)]) ∧ Only (fun _ => False) w w' := by
  have := bint_any (N : Int) (by rw [Int.natAbs_natCast]; exact h) w
  rw [sb_nat] at this
  exact this

theorem nat_small {q : Nat} (h : q ≤ 9223372036854775807) : isInt (q : Int) = true ∧ intOr (q : Int) = (q : Int) := by
  have : isInt (q : Int) = true := (isInt_iff _).2 ⟨by omega, by omega⟩
  exact ⟨this, by unfold intOr; rw [this]; rfl⟩
theorem nat_large {q : Nat} (h : ¬ q ≤ 9223372036854775807) : isInt (q : Int) = false := (isInt_not _).2 (fun g => h (by omega))
theorem lt128 {n : Nat} (h : n ≤ 85070591730234615865843651857942052864) : n < 2 ^ 128 := Nat.lt_of_le_of_lt h (by decide)

theorem has_second (w5 w6 : World) (q r : Nat) (t : TypeId) (h : Only (fun _ => False) ((w5.alloc (.cells (bigL (limb q)).toArray t)).alloc (.cells (bigL (limb r)).toArray t)) w6) : Has w6 (w5.heap.size + 1) r := by
  have := Has.new (w5.alloc (.cells (bigL (limb q)).toArray t)) r t (bigL (limb r)).toArray rfl
  rw [size_alloc] at this
  exact this.only h (fun f => f)

theorem cast_div {x y z N : Nat} (h : x * y = N) : (x : Int) * (y : Int) / (z : Int) = ((N / z : Nat) : Int) ∧ (x : Int) * (y : Int) % (z : Int) = ((N % z : Nat) : Int) := by
  subst h
  rw [← Int.natCast_mul]; exact ⟨(Int.natCast_ediv _ _).symm, (Int.natCast_emod _ _).symm⟩

set_option maxRecDepth 100000 in
set_option maxHeartbeats 1000000 in
theorem apart_any (a b c : Int) (ha : -9223372036854775808 ≤ a ∧ a ≤ 9223372036854775807) (hb : -9223372036854775808 ≤ b ∧ b ≤ 9223372036854775807) (hc : -9223372036854775808 ≤ c ∧ c ≤ 9223372036854775807) (w : World) :
    Calls Try.prog 21 #[.int .i64 a, .int .i64 b, .int .i64 c] w fun e w' => e = .returned (.tuple #[.int .i64 (pq a b c), .int .i64 (pr a b c), .bool (pk a b c)]) ∧ Only (fun _ => False) w w' := by
  by_cases h0 : 0 ≤ a ∧ 0 ≤ b ∧ 1 ≤ c
  · obtain ⟨h1, h2, h3⟩ := h0
    obtain ⟨x, rfl⟩ := Int.eq_ofNat_of_zero_le h1
    obtain ⟨y, rfl⟩ := Int.eq_ofNat_of_zero_le h2
    obtain ⟨z, rfl⟩ := Int.eq_ofNat_of_zero_le (show 0 ≤ c by omega)
    have hx : x < 18446744073709551616 := by omega
    have hy : y < 18446744073709551616 := by omega
    have hz : 0 < z := by omega
    have hz2 : z < 9223372036854775808 := by omega
    have HX := Lib.hid hx
    have HY := Lib.hid hy
    have HZ := Lib.hid hz
    have HZ2 := Lib.hid hz2
    obtain ⟨N, hN⟩ : ∃ N, x * y = N := ⟨_, rfl⟩
    have HNN := Lib.hid hN
    have HC := Lib.hid (cast_div (z := z) hN)
    obtain ⟨hi, hhi⟩ : ∃ hi, N / 18446744073709551616 = hi := ⟨_, rfl⟩
    obtain ⟨lo, hlo⟩ : ∃ lo, N % 18446744073709551616 = lo := ⟨_, rfl⟩
    have HHI := Lib.hid hhi
    have HLO := Lib.hid hlo
    have HWN : Hid (hi * 18446744073709551616 + lo = N) := Lib.hid (by rw [← hhi, ← hlo]; exact words N)
    have HLL : Hid (lo < 18446744073709551616) := Lib.hid (by rw [← hlo]; exact Nat.mod_lt _ (by omega))
    clear hN hhi hlo
    have d1 : decide ((x : Int) < 0) = false := by rw [decide_eq_false_iff_not]; omega
    have d2 : decide ((y : Int) < 0) = false := by rw [decide_eq_false_iff_not]; omega
    have d3 : decide ((z : Int) < 1) = false := by rw [decide_eq_false_iff_not]; omega
    by_cases hh : z ≤ hi
    · have hR := part_no (a := x) (b := y) (c := z) (fun h => by
        have h4 := h.2.2.2
        rw [HC.out.1] at h4
        have h5 := high_big (N := N) (c := z) HZ.out (by rw [HHI.out]; exact hh)
        omega)
      have HR := Lib.hid hR
      clear hR
      go_enter Try.func21, Try.ntmps21
      go_wp2_with fail
      refine (Try.bits_Mul64 x y HX.out HY.out _).mono ?_
      rintro e1 w1 ⟨rfl, rfl⟩
      rw [HNN.out, HHI.out, HLO.out]
      go_wp2_with fail
      rw [HR.out.1, HR.out.2.1, HR.out.2.2]
      go_ret3
      exact ⟨rfl, Only.refl _ _⟩
    · obtain ⟨Q, hQ⟩ : ∃ Q, N / z = Q := ⟨_, rfl⟩
      obtain ⟨R, hR⟩ : ∃ R, N % z = R := ⟨_, rfl⟩
      have HQ := Lib.hid hQ
      have HR := Lib.hid hR
      have HRZ : Hid (R < z) := Lib.hid (by rw [← hR]; exact Nat.mod_lt _ hz)
      clear hQ hR
      by_cases hq : 9223372036854775807 < Q
      · have HA := Lib.hid (part_no (a := x) (b := y) (c := z) (fun h => by
          have h4 := h.2.2.2
          rw [HC.out.1, HQ.out] at h4
          omega))
        have dq : decide ((9223372036854775807 : Int) < (Q : Int)) = true := by rw [decide_eq_true_eq]; omega
        clear hq
        go_enter Try.func21, Try.ntmps21
        go_wp2_with fail
        refine (Try.bits_Mul64 x y HX.out HY.out _).mono ?_
        rintro e1 w1 ⟨rfl, rfl⟩
        rw [HNN.out, HHI.out, HLO.out]
        go_wp2_with fail
        refine (div64_any hi lo z Q R (by rw [HWN.out, HQ.out]) (by rw [HWN.out, HR.out]) (Nat.lt_of_not_le hh) HLL.out HZ2.out _).mono ?_
        rintro e2 w2 ⟨rfl, nd, rfl⟩
        go_wp2_with fail
        rw [HA.out.1, HA.out.2.1, HA.out.2.2]
        go_ret3
        exact ⟨rfl, drewN_only (Only.refl _ _) _⟩
      · have HA := Lib.hid (part_yes (a := x) (b := y) (c := z) ⟨h1, h2, h3, by rw [HC.out.1, HQ.out]; omega⟩)
        have dq : decide ((9223372036854775807 : Int) < (Q : Int)) = false := by rw [decide_eq_false_iff_not]; omega
        have hq2 : (Q : Int) ≤ 9223372036854775807 := by omega
        have hr2 : (R : Int) ≤ 9223372036854775807 := by have := HRZ.out; omega
        clear hq
        go_enter Try.func21, Try.ntmps21
        go_wp2_with fail
        refine (Try.bits_Mul64 x y HX.out HY.out _).mono ?_
        rintro e1 w1 ⟨rfl, rfl⟩
        rw [HNN.out, HHI.out, HLO.out]
        go_wp2_with fail
        refine (div64_any hi lo z Q R (by rw [HWN.out, HQ.out]) (by rw [HWN.out, HR.out]) (Nat.lt_of_not_le hh) HLL.out HZ2.out _).mono ?_
        rintro e2 w2 ⟨rfl, nd, rfl⟩
        go_wp2_with fail
        rw [HA.out.1, HA.out.2.1, HA.out.2.2, HC.out.1, HC.out.2, HQ.out, HR.out]
        go_ret3
        exact ⟨rfl, drewN_only (Only.refl _ _) _⟩
  · have HA := Lib.hid (part_no (a := a) (b := b) (c := c) (fun h => h0 ⟨h.1, h.2.1, h.2.2.1⟩))
    go_enter Try.func21, Try.ntmps21
    rw [HA.out.1, HA.out.2.1, HA.out.2.2]
    by_cases a1 : a < 0
    · clear h0
      go_wp2_with fail
      go_ret3
      exact ⟨rfl, Only.refl _ _⟩
    · by_cases b1 : b < 0
      · clear h0
        go_wp2_with fail
        go_ret3
        exact ⟨rfl, Only.refl _ _⟩
      · have c1 : c < 1 := by omega
        clear h0
        go_wp2_with fail
        go_ret3
        exact ⟨rfl, Only.refl _ _⟩

set_option maxRecDepth 100000 in
set_option maxHeartbeats 1000000 in
theorem rpart_any (a b c : Int) (ha : -9223372036854775808 ≤ a ∧ a ≤ 9223372036854775807) (hb : -9223372036854775808 ≤ b ∧ b ≤ 9223372036854775807) (hc : -9223372036854775808 ≤ c ∧ c ≤ 9223372036854775807) (w : World) :
    Calls Try.prog 22 #[.int .i64 a, .int .i64 b, .int .i64 c] w fun e w' => e = .returned (.tuple #[.int .i64 (pq a b c), .int .i64 (pr a b c), .bool (pk a b c)]) ∧ Only (fun _ => False) w w' := by
  by_cases h0 : 0 ≤ a ∧ 0 ≤ b ∧ 1 ≤ c
  · obtain ⟨h1, h2, h3⟩ := h0
    obtain ⟨x, rfl⟩ := Int.eq_ofNat_of_zero_le h1
    obtain ⟨y, rfl⟩ := Int.eq_ofNat_of_zero_le h2
    obtain ⟨z, rfl⟩ := Int.eq_ofNat_of_zero_le (show 0 ≤ c by omega)
    have HA := Lib.hid ha
    have HB := Lib.hid hb
    have HC := Lib.hid hc
    have d1 : decide ((x : Int) < 0) = false := by rw [decide_eq_false_iff_not]; omega
    have d2 : decide ((y : Int) < 0) = false := by rw [decide_eq_false_iff_not]; omega
    have d3 : decide ((z : Int) < 1) = false := by rw [decide_eq_false_iff_not]; omega
    have HAN : Hid ((x : Int).natAbs ≤ 85070591730234615865843651857942052864) := Lib.hid (by omega)
    have HBN : Hid ((y : Int).natAbs ≤ 85070591730234615865843651857942052864) := Lib.hid (by omega)
    have hz : 0 < z := by omega
    obtain ⟨N, hN⟩ : ∃ N, x * y = N := ⟨_, rfl⟩
    have HNE : Hid ((x : Int) * (y : Int) = (N : Int)) := Lib.hid (by rw [← hN]; exact (Int.natCast_mul x y).symm)
    have HNL : Hid (N ≤ 85070591730234615865843651857942052864) := Lib.hid (by
      have := mul_le ha hb
      rw [HNE.out, Int.natAbs_natCast] at this
      exact this)
    have HCD := Lib.hid (cast_div (z := z) hN)
    have HZ := Lib.hid hz
    have HZ2 : Hid (z < 18446744073709551616) := Lib.hid (by omega)
    have HQL : Hid (N / z ≤ 85070591730234615865843651857942052864) := Lib.hid (Nat.le_trans (Nat.div_le_self _ _) HNL.out)
    have HRL : Hid (N % z < z) := Lib.hid (Nat.mod_lt _ hz)
    have HRI : Hid (isInt ((N % z : Nat) : Int) = true ∧ intOr ((N % z : Nat) : Int) = ((N % z : Nat) : Int)) := Lib.hid (nat_small (by have := HRL.out; omega))
    have HQI : Hid ((¬ N / z ≤ 9223372036854775807 → isInt ((N / z : Nat) : Int) = false) ∧ (N / z ≤ 9223372036854775807 → isInt ((N / z : Nat) : Int) = true ∧ intOr ((N / z : Nat) : Int) = ((N / z : Nat) : Int))) := Lib.hid ⟨nat_large, nat_small⟩
    have HNO : Hid (¬ N / z ≤ 9223372036854775807 → pq x y z = 0 ∧ pr x y z = 0 ∧ pk x y z = false) := Lib.hid (fun h => part_no (fun g => h (by have := g.2.2.2; rw [HCD.out.1] at this; omega)))
    have HYES : Hid (N / z ≤ 9223372036854775807 → pq x y z = ((N / z : Nat) : Int) ∧ pr x y z = ((N % z : Nat) : Int) ∧ pk x y z = true) := Lib.hid (fun h => by
      have := part_yes (a := x) (b := y) (c := z) ⟨h1, h2, h3, by rw [HCD.out.1]; omega⟩
      rw [HCD.out.1, HCD.out.2] at this
      exact this)
    clear ha hb hc h1 h2 h3 hN hz
    go_enter Try.func22, Try.ntmps22
    go_wp2_with fail
    refine (of_sb x HA.out _).mono ?_
    rintro e1 w1 ⟨rfl, hO1⟩
    go_wp2_with fail
    refine (of_sb y HB.out _).mono ?_
    rintro e2 w2 ⟨rfl, hO2⟩
    go_wp2_with fail
    refine (times_any x y (lt5 HAN.out) (lt5 HBN.out) _).mono ?_
    rintro e3 w3 ⟨rfl, hO3⟩
    rw [HNE.out, sb_nat]
    go_wp2_with fail
    refine (of_sb z HC.out _).mono ?_
    rintro e4 w4 ⟨rfl, hO4⟩
    rw [sb_nat]
    go_wp2_with fail
    refine (divide_any N z HZ.out (lt128 HNL.out) HZ2.out _).mono ?_
    rintro e5 w5 ⟨rfl, hO5⟩
    have O5 := Lib.hid (hO1.trans (hO2.trans (hO3.trans (hO4.trans hO5))))
    clear hO1 hO2 hO3 hO4 hO5
    generalize N / z = q at *
    generalize N % z = r at *
    rw [big_lits, big_lits]
    go_wp2_with fail
    refine (bint_nat q (lt10 HQL.out) _).mono ?_
    rintro e6 w6 ⟨rfl, hO6⟩
    have HY := Lib.hid (has_second w5 w6 q r _ hO6)
    have O6 := Lib.hid (((O5.out.alloc _).alloc _).trans hO6)
    clear hO6
    have c0 := (HY.out 0 _ rfl).1
    have c1 := (HY.out 1 _ rfl).1
    have c2 := (HY.out 2 _ rfl).1
    have c3 := (HY.out 3 _ rfl).1
    have c4 := (HY.out 4 _ rfl).1
    have c5 := (HY.out 5 _ rfl).1
    have c6 := (HY.out 6 _ rfl).1
    have c7 := (HY.out 7 _ rfl).1
    have c8 := (HY.out 8 _ rfl).1
    have c9 := (HY.out 9 _ rfl).1
    have c10 := (HY.out 10 _ rfl).1
    by_cases hq : q ≤ 9223372036854775807
    · have h := HQI.out.2 hq
      rw [h.1, h.2]
      have HF := Lib.hid (HYES.out hq)
      clear hq h
      go_wp2_with fail
      refine (bint_nat r (lt64 (Nat.lt_trans HRL.out HZ2.out)) _).mono ?_
      rintro e7 w7 ⟨rfl, hO7⟩
      have O7 := Lib.hid (O6.out.trans hO7)
      rw [HRI.out.1, HRI.out.2]
      clear hO7 c0 c1 c2 c3 c4 c5 c6 c7 c8 c9 c10
      go_wp2_with fail
      rw [HF.out.1, HF.out.2.1, HF.out.2.2]
      go_ret3
      exact ⟨rfl, O7.out⟩
    · have h := HQI.out.1 hq
      rw [h, show intOr (q : Int) = 0 by unfold intOr; rw [h]; rfl]
      have HF := Lib.hid (HNO.out hq)
      clear hq h
      go_wp2_with fail
      refine (bint_nat r (lt64 (Nat.lt_trans HRL.out HZ2.out)) _).mono ?_
      rintro e7 w7 ⟨rfl, hO7⟩
      have O7 := Lib.hid (O6.out.trans hO7)
      rw [HRI.out.1, HRI.out.2]
      clear hO7 c0 c1 c2 c3 c4 c5 c6 c7 c8 c9 c10
      go_wp2_with fail
      rw [HF.out.1, HF.out.2.1, HF.out.2.2]
      go_ret3
      exact ⟨rfl, O7.out⟩
  · have HA := Lib.hid (part_no (a := a) (b := b) (c := c) (fun h => h0 ⟨h.1, h.2.1, h.2.2.1⟩))
    go_enter Try.func22, Try.ntmps22
    rw [HA.out.1, HA.out.2.1, HA.out.2.2]
    by_cases a1 : a < 0
    · clear h0
      go_wp2_with fail
      go_ret3
      exact ⟨rfl, Only.refl _ _⟩
    · by_cases b1 : b < 0
      · clear h0
        go_wp2_with fail
        go_ret3
        exact ⟨rfl, Only.refl _ _⟩
      · have c1 : c < 1 := by omega
        clear h0
        go_wp2_with fail
        go_ret3
        exact ⟨rfl, Only.refl _ _⟩

/-- the answer of Blocks -/
def bk (a c : Int) : Int := if 0 ≤ a ∧ 1 ≤ c then (if a % c = 0 then a / c else a / c + 1) else 0

def bok (a c : Int) : Bool := decide (0 ≤ a ∧ 1 ≤ c)

theorem div_small {a c : Int} (ha : 0 ≤ a) (ha2 : a ≤ 9223372036854775807) (hc : 1 ≤ c) (h : a % c ≠ 0) : a / c + 1 ≤ 9223372036854775807 := by
  by_cases h1 : c = 1
  · subst h1; exact absurd (Int.emod_one a) h
  · obtain ⟨x, rfl⟩ := Int.eq_ofNat_of_zero_le ha
    obtain ⟨z, rfl⟩ := Int.eq_ofNat_of_zero_le (show 0 ≤ c by omega)
    rw [← Int.natCast_ediv]
    rcases Nat.eq_zero_or_pos x with h0 | h0
    · subst h0; simp
    · have := Nat.div_lt_self h0 (show 1 < z by omega)
      omega

set_option maxRecDepth 100000 in
theorem ablocks_any (a c : Int) (ha : -9223372036854775808 ≤ a ∧ a ≤ 9223372036854775807) (hc : -9223372036854775808 ≤ c ∧ c ≤ 9223372036854775807) (w : World) :
    Calls Try.prog 23 #[.int .i64 a, .int .i64 c] w fun e w' => e = .returned (.tuple #[.int .i64 (bk a c), .bool (bok a c)]) ∧ w = w' := by
  unfold bk bok
  by_cases h0 : 0 ≤ a ∧ 1 ≤ c
  · rw [if_pos h0, decide_eq_true h0]
    have hn := Int.emod_nonneg a (show c ≠ 0 by omega)
    obtain ⟨h1, h2⟩ := h0
    have hd := Int.ediv_nonneg h1 (show 0 ≤ c by omega)
    by_cases hm : a % c = 0
    · rw [if_pos hm]
      go_enter Try.func23, Try.ntmps23
      go_wp2_with fail
      go_ret2
      exact ⟨rfl, rfl⟩
    · rw [if_neg hm]
      have hs := div_small h1 ha.2 h2 hm
      have hp : 0 < a % c := by omega
      go_enter Try.func23, Try.ntmps23
      go_wp2_with fail
      go_ret2
      exact ⟨rfl, rfl⟩
  · rw [if_neg h0, decide_eq_false h0]
    by_cases a1 : a < 0
    · clear h0
      go_enter Try.func23, Try.ntmps23
      go_wp2_with fail
      go_ret2
      exact ⟨rfl, rfl⟩
    · have c1 : c < 1 := by omega
      clear h0
      go_enter Try.func23, Try.ntmps23
      go_wp2_with fail
      go_ret2
      exact ⟨rfl, rfl⟩

set_option maxRecDepth 100000 in
theorem rblocks_any (a c : Int) (ha : -9223372036854775808 ≤ a ∧ a ≤ 9223372036854775807) (hc : -9223372036854775808 ≤ c ∧ c ≤ 9223372036854775807) (w : World) :
    Calls Try.prog 24 #[.int .i64 a, .int .i64 c] w fun e w' => e = .returned (.tuple #[.int .i64 (bk a c), .bool (bok a c)]) ∧ w = w' := by
  unfold bk bok
  by_cases h0 : 0 ≤ a ∧ 1 ≤ c
  · rw [if_pos h0, decide_eq_true h0]
    have hn := Int.emod_nonneg a (show c ≠ 0 by omega)
    obtain ⟨h1, h2⟩ := h0
    have hd := Int.ediv_nonneg h1 (show 0 ≤ c by omega)
    by_cases hm : a % c = 0
    · rw [if_pos hm]
      go_enter Try.func24, Try.ntmps24
      go_wp2_with fail
      go_ret2
      exact ⟨rfl, rfl⟩
    · rw [if_neg hm]
      have hs := div_small h1 ha.2 h2 hm
      have hp : 0 < a % c := by omega
      go_enter Try.func24, Try.ntmps24
      go_wp2_with fail
      go_ret2
      exact ⟨rfl, rfl⟩
  · rw [if_neg h0, decide_eq_false h0]
    by_cases a1 : a < 0
    · clear h0
      go_enter Try.func24, Try.ntmps24
      go_wp2_with fail
      go_ret2
      exact ⟨rfl, rfl⟩
    · have c1 : c < 1 := by omega
      clear h0
      go_enter Try.func24, Try.ntmps24
      go_wp2_with fail
      go_ret2
      exact ⟨rfl, rfl⟩
end Go.Proofs.Ytooffbgcaichmaa.bigw
