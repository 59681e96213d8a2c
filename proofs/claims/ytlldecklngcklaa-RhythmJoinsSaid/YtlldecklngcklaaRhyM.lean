/- Rhythms: four quarters as whole numbers, where they point to; the steps of the sum in the plane, as floats. -/
import Derived.Test.YtlldecklngcklaaFltM
import Derived.Laws.BitsAllLaws
import Derived.KernelRfl
namespace Go.Proofs.Ytlldecklngcklaa.rhym
open fltm Ieee
set_option linter.unusedVariables false

/-- each quarter is within its bounds -/
def Q1 (a : Int) : Prop := 0 ≤ a ∧ a ≤ 1125899906842624
instance (a : Int) : Decidable (Q1 a) := inferInstanceAs (Decidable (_ ∧ _))
def Q4 (a b c d : Int) : Prop := Q1 a ∧ Q1 b ∧ Q1 c ∧ Q1 d
instance (a b c d : Int) : Decidable (Q4 a b c d) := inferInstanceAs (Decidable (_ ∧ _))
def rightB (a b c d : Int) : Bool := decide (Q4 a b c d)
theorem right_yes {a b c d : Int} (h : Q4 a b c d) : rightB a b c d = true := decide_eq_true h
theorem right_no {a b c d : Int} (h : ¬ Q4 a b c d) : rightB a b c d = false := decide_eq_false h
theorem right_of {a b c d : Int} (h : rightB a b c d = true) : Q4 a b c d := of_decide_eq_true h
theorem right_of_not {a b c d : Int} (h : rightB a b c d = false) : ¬ Q4 a b c d := of_decide_eq_false h

/-- both parts of the vector -/
def vx (a b c d : Int) : Int := if rightB a b c d = true then a - c else 0
def vy (a b c d : Int) : Int := if rightB a b c d = true then b - d else 0
theorem v_bounds (a b c d : Int) : (-1125899906842624 ≤ vx a b c d ∧ vx a b c d ≤ 1125899906842624) ∧ (-1125899906842624 ≤ vy a b c d ∧ vy a b c d ≤ 1125899906842624) := by
  unfold vx vy
  cases h : rightB a b c d with
  | false => simp
  | true =>
    obtain ⟨⟨_, _⟩, ⟨_, _⟩, ⟨_, _⟩, ⟨_, _⟩⟩ := right_of h
    simp
    omega

/-- where it points to -/
def peakN (x y : Int) : Int := if x = 0 ∧ y = 0 then 0 else if y.natAbs ≤ x.natAbs then (if 0 < x then 0 else 2) else if 0 < y then 1 else 3
def peakB (x y : Int) : Bool := !(decide (x = 0) && decide (y = 0))

theorem fl_pos {n : Int} (h : 0 ≤ n) : fl n = W false n.natAbs := by
  unfold fl
  rw [decide_eq_false (by omega)]
theorem fl_zero : fl 0 = 0 := by kernel_rfl
theorem W_ff : W false 0 = 0 := by kernel_rfl
theorem W_t0 : W true 0 = 9223372036854775808 := by kernel_rfl
theorem W_f1 : W false 1 = 4607182418800017408 := by kernel_rfl
theorem W_t1 : W true 1 = 13830554455654793216 := by kernel_rfl

theorem fadd (s t : Bool) (a b : Nat) (ha : a < 9007199254740992) (hb : b < 9007199254740992) (hs : (val s a + val t b).natAbs < 9007199254740992) :
    floatBits .add .f64 (W s a) (W t b) = some (W (sgn s t (val s a + val t b)) (val s a + val t b).natAbs) := add_W s t a b ha hb hs
theorem fsub (s t : Bool) (a b : Nat) (ha : a < 9007199254740992) (hb : b < 9007199254740992) (hs : (val s a - val t b).natAbs < 9007199254740992) :
    floatBits .sub .f64 (W s a) (W t b) = some (W (sgn s (!t) (val s a - val t b)) (val s a - val t b).natAbs) := sub_W s t a b ha hb hs
theorem fmul (s t : Bool) (a b : Nat) (ha : a < 9007199254740992) (hb : b < 9007199254740992) (hm : a * b < 9007199254740992) :
    floatBits .mul .f64 (W s a) (W t b) = some (W (s ^^ t) (a * b)) := mul_W s t a b ha hb hm

/-- the product of a whole number and a power of the imaginary unit -/
theorem cmul_0 (n : Nat) (h : n < 9007199254740992) : cMulBits (W false n) 0 4607182418800017408 0 = some (W false n, 0) := by
  have e : cMulBits (W false n) (W false 0) (W false 1) (W false 0) = some (W false n, W false 0) := by
    unfold cMulBits
    rw [fmul false false n 1 h (by omega) (by omega), fmul false false 0 0 (by omega) (by omega) (by omega), fmul false false n 0 h (by omega) (by omega), fmul false false 0 1 (by omega) (by omega) (by omega)]
    simp only [Option.bind_some, Nat.mul_one, Nat.mul_zero, Bool.xor_false]
    rw [fsub false false n 0 h (by omega) (by simp [val]; omega), fadd false false 0 0 (by omega) (by omega) (by simp [val])]
    have e1 : (val false n - val false 0) = n := by simp [val]
    have e2 : (val false 0 + val false 0) = 0 := by simp [val]
    have e3 : sgn false (!false) (n : Int) = false := by unfold sgn; split <;> simp
    rw [e1, e2, e3]
    simp [sgn]
  rw [W_ff, W_f1] at e
  exact e
theorem cmul_1 (n : Nat) (h : n < 9007199254740992) : cMulBits (W false n) 0 0 4607182418800017408 = some (0, W false n) := by
  have e : cMulBits (W false n) (W false 0) (W false 0) (W false 1) = some (W false 0, W false n) := by
    unfold cMulBits
    rw [fmul false false n 0 h (by omega) (by omega), fmul false false 0 1 (by omega) (by omega) (by omega), fmul false false n 1 h (by omega) (by omega), fmul false false 0 0 (by omega) (by omega) (by omega)]
    simp only [Option.bind_some, Nat.mul_one, Nat.mul_zero, Bool.xor_false]
    rw [fsub false false 0 0 (by omega) (by omega) (by simp [val]), fadd false false n 0 h (by omega) (by simp [val]; omega)]
    have e1 : (val false n + val false 0) = n := by simp [val]
    have e2 : (val false 0 - val false 0) = 0 := by simp [val]
    have e3 : sgn false false (n : Int) = false := by unfold sgn; split <;> simp
    rw [e1, e2, e3]
    simp [sgn]
  rw [W_ff, W_f1] at e
  exact e
theorem cmul_2 (n : Nat) (h : n < 9007199254740992) : cMulBits (W false n) 0 13830554455654793216 0 = some (W true n, 0) := by
  have e : cMulBits (W false n) (W false 0) (W true 1) (W false 0) = some (W true n, W false 0) := by
    unfold cMulBits
    rw [fmul false true n 1 h (by omega) (by omega), fmul false false 0 0 (by omega) (by omega) (by omega), fmul false false n 0 h (by omega) (by omega), fmul false true 0 1 (by omega) (by omega) (by omega)]
    simp only [Option.bind_some, Nat.mul_one, Nat.mul_zero, Bool.xor_false, Bool.false_xor]
    rw [fsub true false n 0 h (by omega) (by simp [val]; omega), fadd false true 0 0 (by omega) (by omega) (by simp [val])]
    have e1 : (val true n - val false 0) = -(n : Int) := by simp [val]
    have e2 : (val false 0 + val true 0) = 0 := by simp [val]
    have e3 : sgn true (!false) (-(n : Int)) = true := by unfold sgn; split <;> simp; omega
    rw [e1, e2, e3]
    simp [sgn]
  rw [W_ff, W_t1] at e
  exact e
theorem cmul_3 (n : Nat) (h : n < 9007199254740992) : cMulBits (W false n) 0 9223372036854775808 13830554455654793216 = some (0, W true n) := by
  have e : cMulBits (W false n) (W false 0) (W true 0) (W true 1) = some (W false 0, W true n) := by
    unfold cMulBits
    rw [fmul false true n 0 h (by omega) (by omega), fmul false true 0 1 (by omega) (by omega) (by omega), fmul false true n 1 h (by omega) (by omega), fmul false true 0 0 (by omega) (by omega) (by omega)]
    simp only [Option.bind_some, Nat.mul_one, Nat.mul_zero, Bool.false_xor]
    rw [fsub true true 0 0 (by omega) (by omega) (by simp [val]), fadd true true n 0 h (by omega) (by simp [val]; omega)]
    have e1 : (val true n + val true 0) = -(n : Int) := by simp [val]
    have e2 : (val true 0 - val true 0) = 0 := by simp [val]
    have e3 : sgn true true (-(n : Int)) = true := by unfold sgn; split <;> simp; omega
    rw [e1, e2, e3]
    simp [sgn]
  rw [W_ff, W_t0, W_t1] at e
  exact e
/-- the turns of the unit itself -/
theorem cturn_0 : cMulBits 4607182418800017408 0 0 4607182418800017408 = some (0, 4607182418800017408) := by kernel_rfl
theorem cturn_1 : cMulBits 0 4607182418800017408 0 4607182418800017408 = some (13830554455654793216, 0) := by kernel_rfl
theorem cturn_2 : cMulBits 13830554455654793216 0 0 4607182418800017408 = some (9223372036854775808, 13830554455654793216) := by kernel_rfl
theorem cturn_3 : cMulBits 9223372036854775808 13830554455654793216 0 4607182418800017408 = some (4607182418800017408, 9223372036854775808) := by kernel_rfl

theorem add_fl {v u : Int} (hv : v.natAbs < 9007199254740992) (hu : u.natAbs < 9007199254740992) (hs : (v + u).natAbs < 9007199254740992) : floatBits .add .f64 (fl v) (fl u) = some (fl (v + u)) := by
  unfold fl
  rw [fadd _ _ _ _ hv hu (by rw [val_fl, val_fl]; exact hs), val_fl, val_fl]
  congr 2
  unfold sgn
  split
  · rename_i h
    rw [h]
    simp
    omega
  · rfl
theorem add_W_fl {v : Int} {s : Bool} {n : Nat} (hv : v.natAbs < 9007199254740992) (hu : n < 9007199254740992) (hs : (v + val s n).natAbs < 9007199254740992) : floatBits .add .f64 (fl v) (W s n) = some (fl (v + val s n)) := by
  unfold fl
  rw [fadd _ _ _ _ hv hu (by rw [val_fl]; exact hs), val_fl]
  congr 2
  unfold sgn
  split
  · rename_i h
    rw [h]
    by_cases h0 : v < 0
    · have e : s = false := by
        cases s
        · rfl
        · simp [val] at h; omega
      simp [e]
    · simp [h0]
  · rfl
theorem csum_fl {v u x y : Int} {s t : Bool} {n m : Nat} (h1 : v.natAbs < 9007199254740992) (h2 : u.natAbs < 9007199254740992) (h3 : n < 9007199254740992) (h4 : m < 9007199254740992)
    (h5 : (v + val s n).natAbs < 9007199254740992) (h6 : (u + val t m).natAbs < 9007199254740992) (hx : v + val s n = x) (hy : u + val t m = y) : cSumBits .add .f64 (fl v) (fl u) (W s n) (W t m) = some (fl x, fl y) := by
  unfold cSumBits
  rw [add_W_fl h1 h3 h5, add_W_fl h2 h4 h6, hx, hy]
  rfl

theorem cmp_fl {v u : Int} (hv : v.natAbs < 9007199254740992) (hu : u.natAbs < 9007199254740992) : FloatKind.f64.format.order (fl v) (fl u) = some (compare v u) := by
  have := order_W (decide (v < 0)) (decide (u < 0)) v.natAbs u.natAbs hv hu
  rw [val_fl, val_fl] at this
  exact this
theorem cmpz {v u : Int} : (some (compare v u) == some Ordering.gt) = decide (u < v) ∧ (some (compare v u) == some Ordering.lt) = decide (v < u) ∧ (some (compare v u) == some Ordering.eq) = decide (v = u) := by
  show ((some (compareOfLessAndEq v u) == some Ordering.gt) = _) ∧ ((some (compareOfLessAndEq v u) == some Ordering.lt) = _) ∧ ((some (compareOfLessAndEq v u) == some Ordering.eq) = _)
  unfold compareOfLessAndEq
  rcases Int.lt_trichotomy v u with h | h | h
  · rw [if_pos h, decide_eq_false (by omega), decide_eq_true h, decide_eq_false (by omega)]; exact ⟨rfl, rfl, rfl⟩
  · rw [if_neg (by omega), if_pos h, decide_eq_false (by omega), decide_eq_false (by omega), decide_eq_true h]; exact ⟨rfl, rfl, rfl⟩
  · rw [if_neg (by omega), if_neg (by omega), decide_eq_true h, decide_eq_false (by omega), decide_eq_false (by omega)]; exact ⟨rfl, rfl, rfl⟩
theorem gt_fl {v u : Int} (hv : v.natAbs < 9007199254740992) (hu : u.natAbs < 9007199254740992) : (FloatKind.f64.format.order (fl v) (fl u) == some Ordering.gt) = decide (u < v) := by rw [cmp_fl hv hu]; exact cmpz.1
theorem lt_fl {v u : Int} (hv : v.natAbs < 9007199254740992) (hu : u.natAbs < 9007199254740992) : (FloatKind.f64.format.order (fl v) (fl u) == some Ordering.lt) = decide (v < u) := by rw [cmp_fl hv hu]; exact cmpz.2.1
theorem eq_fl {v u : Int} (hv : v.natAbs < 9007199254740992) (hu : u.natAbs < 9007199254740992) : (FloatKind.f64.format.order (fl v) (fl u) == some Ordering.eq) = decide (v = u) := by rw [cmp_fl hv hu]; exact cmpz.2.2

/-- the opposite, and the size -/
theorem W_lt (n : Nat) (h : n < 9007199254740992) : W false n < 9223372036854775808 ∧ W true n = 9223372036854775808 + W false n := by
  by_cases h0 : n = 0
  · subst h0; rw [W_ff, W_t0]; omega
  · obtain ⟨b1, b2, hL⟩ := mag_bounds n h0 h
    have e1 : W false n = double.word false _ := nearest_shift false n 0 h0 h
    have e2 : W true n = double.word true _ := nearest_shift true n 0 h0 h
    rw [e1, e2]
    unfold Format.word
    rw [d_sign]
    simp
    omega
theorem toInt_fl {v : Int} (hv : v.natAbs < 9007199254740992) : (FloatKind.f64.decode (fl v)).toInt .zero = some v := by
  have := toInt_W (decide (v < 0)) v.natAbs hv
  rw [val_fl] at this
  exact this
theorem int_fl {v : Int} (hv : v.natAbs < 9007199254740992) : floatToIntVal .f64 (fl v) .i64 = some v := by
  unfold floatToIntVal
  rw [toInt_fl hv]
  simp [IntKind.min, IntKind.max, IntKind.signed, IntKind.bits]
  omega

theorem xor_top (x : Nat) (h : x < 9223372036854775808) : x ^^^ 9223372036854775808 = 9223372036854775808 + x ∧ (9223372036854775808 + x) ^^^ 9223372036854775808 = x := by
  have e : (9223372036854775808 : Nat) = 2 ^ 63 := by decide
  constructor
  · have h1 := @Nat.xor_mod_two_pow x 9223372036854775808 63
    have h2 := @Nat.xor_div_two_pow x 9223372036854775808 63
    rw [← e] at h1 h2
    rw [Nat.mod_eq_of_lt h, Nat.mod_self, Nat.xor_zero] at h1
    rw [Nat.div_eq_of_lt h, Nat.div_self (by omega), Nat.zero_xor] at h2
    omega
  · have h1 := @Nat.xor_mod_two_pow (9223372036854775808 + x) 9223372036854775808 63
    have h2 := @Nat.xor_div_two_pow (9223372036854775808 + x) 9223372036854775808 63
    rw [← e] at h1 h2
    rw [show (9223372036854775808 + x) % 9223372036854775808 = x by omega, Nat.mod_self, Nat.xor_zero] at h1
    rw [show (9223372036854775808 + x) / 9223372036854775808 = 1 by omega, Nat.div_self (by omega), Nat.xor_self] at h2
    omega
theorem neg_W (s : Bool) (n : Nat) (h : n < 9007199254740992) : W s n ^^^ 9223372036854775808 = W (!s) n := by
  obtain ⟨h1, h2⟩ := W_lt n h
  cases s
  · rw [(xor_top _ h1).1]; exact h2.symm
  · rw [h2, (xor_top _ h1).2]; rfl
theorem neg_fl {v : Int} (h0 : v < 0) (hv : v.natAbs < 9007199254740992) : fl v ^^^ 9223372036854775808 = fl (-v) := by
  unfold fl
  rw [decide_eq_true h0, neg_W _ _ hv, decide_eq_false (by omega : ¬ -v < 0), Int.natAbs_neg]
  rfl
theorem abs_fl {v : Int} (hv : v.natAbs < 9007199254740992) : bits .andNot .u64 ((fl v : Nat) : Int) 9223372036854775808 = ((fl ((v.natAbs : Nat) : Int) : Nat) : Int) := by
  obtain ⟨h1, h2⟩ := W_lt v.natAbs hv
  have hf : fl ((v.natAbs : Nat) : Int) = W false v.natAbs := by rw [fl_pos (by omega)]; rfl
  have hl : fl v < 18446744073709551616 ∧ fl v % 9223372036854775808 = W false v.natAbs := by
    unfold fl
    by_cases h : v < 0
    · rw [decide_eq_true h, h2]; omega
    · rw [decide_eq_false h]; omega
  have := u64_andNot_nat (fl v) 9223372036854775808 hl.1 (by omega)
  rw [hf]
  refine this.trans ?_
  have e : 18446744073709551615 - 9223372036854775808 = 2 ^ 63 - 1 := by decide
  have e2 : (2 : Nat) ^ 63 = 9223372036854775808 := by decide
  rw [e, Nat.and_two_pow_sub_one_eq_mod, e2, hl.2]

/-- the document's way to the same answers -/
theorem peak_0 {x y : Int} (h : x = 0 ∧ y = 0) : peakN x y = 0 ∧ peakB x y = false := by unfold peakN peakB; simp [h.1, h.2]
theorem peak_b {x y : Int} (h : ¬ (x = 0 ∧ y = 0)) : peakB x y = true := by
  unfold peakB
  by_cases h1 : x = 0
  · by_cases h2 : y = 0
    · exact absurd ⟨h1, h2⟩ h
    · simp [h2]
  · simp [h1]
end Go.Proofs.Ytlldecklngcklaa.rhym
