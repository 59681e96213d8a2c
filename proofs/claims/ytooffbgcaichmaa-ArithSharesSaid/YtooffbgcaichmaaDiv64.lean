/- The library's Div64, walked: what it answers where the upper word is less than the divisor. -/
import Derived.Test.YtooffbgcaichmaaMem
import Derived.Test.YtooffbgcaichmaaDivM
import Derived.Test.YtooffbgcaichmaaShelf
import Derived.RegionTactic
import Derived.ChangeAlike
import Derived.Outline
import Derived.Laws.BitsAllLaws
namespace Go.Proofs.Ytooffbgcaichmaa.bigw
open Go.RowKit mem divm
set_option linter.unusedVariables false

theorem bitLen_lt : ∀ (f x : Nat), x < 2 ^ f → f ≤ 64 → x < 2 ^ Lib.bitLenAux f x ∧ (x ≠ 0 → 2 ^ Lib.bitLenAux f x ≤ 2 * x) ∧ Lib.bitLenAux f x ≤ f := by
  intro f
  induction f with
  | zero => intro x hx _; simp [Lib.bitLenAux]; omega
  | succ f ih =>
    intro x hx hf
    rw [Lib.bitLenAux]
    by_cases h0 : x = 0
    · subst h0; simp
    · rw [if_neg h0]
      rw [Nat.pow_succ] at hx
      obtain ⟨h1, h2, h3⟩ := ih (x / 2) (by omega) (by omega)
      rw [Nat.add_comm, Nat.pow_succ]
      refine ⟨by omega, fun _ => ?_, by omega⟩
      by_cases h4 : x / 2 = 0
      · rw [h4] at h1 ⊢
        have : Lib.bitLenAux f 0 = 0 := by cases f <;> simp [Lib.bitLenAux]
        rw [this]; omega
      · have := h2 h4; omega

theorem shift_of {y : Nat} (hy : 0 < y) (hy2 : y < 9223372036854775808) : ∃ s : Nat, (64 - (Lib.bitLen ((y : Nat) : Int).toNat : Int)) = (s : Int) ∧ 0 < s ∧ s < 64 ∧ 9223372036854775808 ≤ y * 2 ^ s ∧ y * 2 ^ s < 18446744073709551616 := by
  rw [Int.toNat_natCast]
  obtain ⟨h1, h2, h3⟩ := bitLen_lt 64 y (by omega) (Nat.le_refl _)
  have h2 := h2 (by omega)
  have hL : Lib.bitLen y = Lib.bitLenAux 64 y := rfl
  rw [hL]
  generalize Lib.bitLenAux 64 y = l at *
  have h4 : l ≤ 63 := by
    rcases Nat.lt_or_ge l 64 with h | h
    · omega
    · obtain rfl : l = 64 := by omega
      omega
  have h5 : 0 < l := by
    rcases Nat.eq_zero_or_pos l with h | h
    · subst h; simp at h1; omega
    · exact h
  refine ⟨64 - l, by omega, by omega, by omega, ?_, ?_⟩
  · have e : 2 ^ l * 2 ^ (64 - l) = 18446744073709551616 := by rw [← Nat.pow_add, show l + (64 - l) = 64 by omega]
    have := Nat.mul_le_mul_right (2 ^ (64 - l)) h2
    rw [e, Nat.mul_assoc] at this; omega
  · have e : 2 ^ l * 2 ^ (64 - l) = 18446744073709551616 := by rw [← Nat.pow_add, show l + (64 - l) = 64 by omega]
    have := Nat.mul_lt_mul_of_pos_right h1 (Nat.two_pow_pos (64 - l))
    rw [e] at this; exact this

theorem wrap_nat0 {n : Nat} (h : n < 18446744073709551616) : IntKind.u64.wrap (n : Int) = (n : Int) := by rw [IntKind.wrap_u64]; omega
theorem forms {hi lo y s : Nat} (h0 : 0 < s) (hs : s < 64) (hlo : lo < 18446744073709551616) (hV : y * 2 ^ s < 18446744073709551616) (hU : hi * 2 ^ s + lo / 2 ^ (64 - s) < 18446744073709551616) :
    IntKind.u64.wrap ((y : Int) * 2 ^ s) = ((y * 2 ^ s : Nat) : Int) ∧
    bits .or .u64 (IntKind.u64.wrap ((hi : Int) * 2 ^ s)) ((lo : Int) / 2 ^ (64 - s)) = ((hi * 2 ^ s + lo / 2 ^ (64 - s) : Nat) : Int) ∧
    IntKind.u64.wrap ((lo : Int) * 2 ^ s) = ((lo * 2 ^ s % 18446744073709551616 : Nat) : Int) := by
  have c : ∀ a b : Nat, ((a : Int) * 2 ^ b) = ((a * 2 ^ b : Nat) : Int) := fun a b => by rw [Int.natCast_mul, Int.natCast_pow]; rfl
  have c2 : ∀ a b : Nat, ((a : Int) / 2 ^ b) = ((a / 2 ^ b : Nat) : Int) := fun a b => by rw [Int.natCast_ediv, Int.natCast_pow]; rfl
  have hp : 2 ^ s * 2 ^ (64 - s) = 18446744073709551616 := by rw [← Nat.pow_add, show s + (64 - s) = 64 by omega]
  have hl : lo / 2 ^ (64 - s) < 2 ^ s := by
    rw [Nat.div_lt_iff_lt_mul (Nat.two_pow_pos _), hp]; exact hlo
  have w : ∀ n : Nat, IntKind.u64.wrap (n : Int) = ((n % 18446744073709551616 : Nat) : Int) := fun n => by rw [IntKind.wrap_u64]; omega
  refine ⟨?_, ?_, ?_⟩
  · rw [c, w, Nat.mod_eq_of_lt hV]
  · have h1 : hi * 2 ^ s < 18446744073709551616 := Nat.lt_of_le_of_lt (Nat.le_add_right _ _) hU
    have h2 : lo / 2 ^ (64 - s) < 18446744073709551616 := Nat.lt_of_le_of_lt (Nat.le_add_left _ _) hU
    rw [c, c2, w, Nat.mod_eq_of_lt h1, u64_or_nat _ _ h1 h2, or_add hl]
  · rw [c, w]

theorem pos_of {V : Nat} (h : 9223372036854775808 ≤ V) : 0 < V := by omega
theorem halves (L : Nat) (h : L < 18446744073709551616) : L / 4294967296 * 4294967296 + L % 4294967296 = L ∧ L / 4294967296 < 4294967296 ∧ L % 4294967296 < 4294967296 := by omega

theorem round_down {V u d q r v1 : Nat} (hV : 9223372036854775808 ≤ V) (hV1 : V < 18446744073709551616) (hu : u < V) (hd : d < 4294967296) (hr : r < 4294967296) (hv : V / 4294967296 = v1) (g : Guess V u d q r)
    (h : 4294967296 ≤ q ∨ 4294967296 * r + d < q * (V % 4294967296)) : ∃ q' r' : Nat, IntKind.u64.wrap ((q : Int) - 1) = (q' : Int) ∧ IntKind.u64.wrap ((r : Int) + (v1 : Int)) = (r' : Int) ∧ q = q' + 1 ∧ Guess V u d q' r' := by
  obtain ⟨h1, h2⟩ := guess_down hV hu hd g h
  have h3 := h2.eq
  have h4 : q - 1 ≤ (q - 1) * (V / 4294967296) := Nat.le_mul_of_pos_right _ (by omega)
  have hq : q - 1 < 18446744073709551616 := by omega
  have hr2 : r + V / 4294967296 < 18446744073709551616 := by omega
  refine ⟨q - 1, r + V / 4294967296, ?_, ?_, by omega, h2⟩
  · rw [← wrap_nat0 hq]; congr 1; omega
  · rw [← wrap_nat0 hr2]; congr 1; omega

theorem round_cases {V u d q r v1 v0 : Nat} (hV : 9223372036854775808 ≤ V) (hV1 : V < 18446744073709551616) (hu : u < V) (hd : d < 4294967296) (hr : r < 4294967296) (hv : V / 4294967296 = v1) (hv0 : V % 4294967296 = v0) (g : Guess V u d q r) :
    ((∃ q' r' : Nat, decide ((4294967296 : Int) ≤ (q : Int)) = true ∧ IntKind.u64.wrap ((q : Int) - 1) = (q' : Int) ∧ IntKind.u64.wrap ((r : Int) + (v1 : Int)) = (r' : Int) ∧ decide ((4294967296 : Int) ≤ (r' : Int)) = false ∧ Hid (q = q' + 1) ∧ Hid (r' < 4294967296) ∧ Hid (Guess V u d q' r')) ∨
     (∃ q' r' m x t : Nat, decide ((4294967296 : Int) ≤ (q : Int)) = false ∧ IntKind.u64.wrap ((q : Int) * (v0 : Int)) = (m : Int) ∧ IntKind.u64.wrap (4294967296 * (r : Int)) = (x : Int) ∧ IntKind.u64.wrap ((x : Int) + (d : Int)) = (t : Int) ∧ decide (t < m) = true ∧ IntKind.u64.wrap ((q : Int) - 1) = (q' : Int) ∧ IntKind.u64.wrap ((r : Int) + (v1 : Int)) = (r' : Int) ∧ decide ((4294967296 : Int) ≤ (r' : Int)) = false ∧ Hid (q = q' + 1) ∧ Hid (r' < 4294967296) ∧ Hid (Guess V u d q' r'))) ∨
    ((∃ q' r' : Nat, decide ((4294967296 : Int) ≤ (q : Int)) = true ∧ IntKind.u64.wrap ((q : Int) - 1) = (q' : Int) ∧ IntKind.u64.wrap ((r : Int) + (v1 : Int)) = (r' : Int) ∧ decide ((4294967296 : Int) ≤ (r' : Int)) = true ∧ Hid (q' = (u * 4294967296 + d) / V)) ∨
     (∃ q' r' m x t : Nat, decide ((4294967296 : Int) ≤ (q : Int)) = false ∧ IntKind.u64.wrap ((q : Int) * (v0 : Int)) = (m : Int) ∧ IntKind.u64.wrap (4294967296 * (r : Int)) = (x : Int) ∧ IntKind.u64.wrap ((x : Int) + (d : Int)) = (t : Int) ∧ decide (t < m) = true ∧ IntKind.u64.wrap ((q : Int) - 1) = (q' : Int) ∧ IntKind.u64.wrap ((r : Int) + (v1 : Int)) = (r' : Int) ∧ decide ((4294967296 : Int) ≤ (r' : Int)) = true ∧ Hid (q' = (u * 4294967296 + d) / V)) ∨
     (∃ q' m x t : Nat, q' = q ∧ decide ((4294967296 : Int) ≤ (q' : Int)) = false ∧ IntKind.u64.wrap ((q' : Int) * (v0 : Int)) = (m : Int) ∧ IntKind.u64.wrap (4294967296 * (r : Int)) = (x : Int) ∧ IntKind.u64.wrap ((x : Int) + (d : Int)) = (t : Int) ∧ decide (t < m) = false ∧ Hid (q' = (u * 4294967296 + d) / V))) := by
  have hv0l : v0 < 4294967296 := by omega
  have c : ∀ x : Nat, 4294967296 ≤ x → decide ((4294967296 : Int) ≤ (x : Int)) = true := fun x h => by rw [decide_eq_true_eq]; omega
  have c' : ∀ x : Nat, ¬ 4294967296 ≤ x → decide ((4294967296 : Int) ≤ (x : Int)) = false := fun x h => by rw [decide_eq_false_iff_not]; omega
  have E : ¬ 4294967296 ≤ q → IntKind.u64.wrap ((q : Int) * (v0 : Int)) = ((q * v0 : Nat) : Int) := fun h => by
    rw [← Int.natCast_mul]; exact wrap_nat0 (by have : q * v0 ≤ 4294967295 * 4294967295 := Nat.mul_le_mul (by omega) (by omega); omega)
  have X : IntKind.u64.wrap (4294967296 * (r : Int)) = ((4294967296 * r : Nat) : Int) := by rw [← wrap_nat0 (n := 4294967296 * r) (by omega)]; congr 1
  have T : IntKind.u64.wrap (((4294967296 * r : Nat) : Int) + (d : Int)) = ((4294967296 * r + d : Nat) : Int) := by rw [← wrap_nat0 (n := 4294967296 * r + d) (by omega)]; congr 1
  by_cases hb : 4294967296 ≤ q
  · obtain ⟨q', r', ea, eb, hqq, hg⟩ := round_down hV hV1 hu hd hr hv g (.inl hb)
    by_cases hbr : 4294967296 ≤ r'
    · exact .inr (.inl ⟨q', r', c q hb, ea, eb, c r' hbr, Lib.hid (guess_break hV hu hg hbr)⟩)
    · exact .inl (.inl ⟨q', r', c q hb, ea, eb, c' r' hbr, Lib.hid hqq, Lib.hid (by omega), Lib.hid hg⟩)
  · by_cases hc : 4294967296 * r + d < q * v0
    · obtain ⟨q', r', ea, eb, hqq, hg⟩ := round_down hV hV1 hu hd hr hv g (.inr (by rw [hv0]; exact hc))
      by_cases hbr : 4294967296 ≤ r'
      · exact .inr (.inr (.inl ⟨q', r', _, _, _, c' q hb, E hb, X, T, by rw [decide_eq_true_eq]; exact hc, ea, eb, c r' hbr, Lib.hid (guess_break hV hu hg hbr)⟩))
      · exact .inl (.inr ⟨q', r', _, _, _, c' q hb, E hb, X, T, by rw [decide_eq_true_eq]; exact hc, ea, eb, c' r' hbr, Lib.hid hqq, Lib.hid (by omega), Lib.hid hg⟩)
    · exact .inr (.inr (.inr ⟨q, _, _, _, rfl, c' q hb, E hb, X, T, by rw [decide_eq_false_iff_not]; exact hc, Lib.hid (guess_end hV g (by rw [hv0]; exact hc))⟩))

/-- what a digit leaves, in words of 64 bits -/
theorem rest_wrap {V u d q : Nat} (hV : 9223372036854775808 ≤ V) (hV1 : V < 18446744073709551616) (hq : q = (u * 4294967296 + d) / V) :
    IntKind.u64.wrap (IntKind.u64.wrap (IntKind.u64.wrap ((u : Int) * 4294967296) + (d : Int)) - IntKind.u64.wrap ((q : Int) * (V : Int))) = (((u * 4294967296 + d) % V : Nat) : Int) := by
  have h := digit_rest (V := V) (u := u) (d := d) (by omega) hV1
  rw [← hq] at h
  have hm : (u * 4294967296 + d) % V < V := Nat.mod_lt _ (by omega)
  rw [Int.natCast_add, Int.natCast_mul] at h
  generalize (u * 4294967296 + d) % V = R at *
  generalize (q : Int) * (V : Int) = p at *
  simp only [IntKind.wrap_u64]
  omega

theorem wrap_any (z : Int) : ∃ a : Nat, IntKind.u64.wrap z = (a : Int) := ⟨(IntKind.u64.wrap z).toNat, by rw [IntKind.wrap_u64]; omega⟩
theorem rest_steps {V u d q : Nat} (hV : 9223372036854775808 ≤ V) (hV1 : V < 18446744073709551616) (hq : q = (u * 4294967296 + d) / V) :
    ∃ a b c W : Nat, IntKind.u64.wrap ((u : Int) * 4294967296) = (a : Int) ∧ IntKind.u64.wrap ((a : Int) + (d : Int)) = (b : Int) ∧ IntKind.u64.wrap ((q : Int) * (V : Int)) = (c : Int) ∧ IntKind.u64.wrap ((b : Int) - (c : Int)) = (W : Int) ∧ Hid ((u * 4294967296 + d) % V = W) := by
  have h := rest_wrap hV hV1 hq
  obtain ⟨a, ha⟩ := wrap_any ((u : Int) * 4294967296)
  rw [ha] at h
  obtain ⟨b, hb⟩ := wrap_any ((a : Int) + (d : Int))
  rw [hb] at h
  obtain ⟨c, hc⟩ := wrap_any ((q : Int) * (V : Int))
  rw [hc] at h
  exact ⟨a, b, c, _, ha, hb, hc, h, Lib.hid rfl⟩

theorem two_words (U d1 d0 : Nat) : U * 18446744073709551616 + (d1 * 4294967296 + d0) = (U * 4294967296 + d1) * 4294967296 + d0 := by omega

theorem two_ends {U V L d1 d0 W Q R s q1 q2 : Nat} (hV : 0 < V) (hL : d1 * 4294967296 + d0 = L) (hW : (U * 18446744073709551616 + L) / V = Q ∧ (U * 18446744073709551616 + L) % V / 2 ^ s = R)
    (h1 : q1 = (U * 4294967296 + d1) / V) (hw : (U * 4294967296 + d1) % V = W) (h2 : q2 = (W * 4294967296 + d0) / V) : q1 * 4294967296 + q2 = Q ∧ (W * 4294967296 + d0) % V / 2 ^ s = R := by
  obtain ⟨ha, hb⟩ := two_digits (V := V) (hi := U) (d1 := d1) (d0 := d0) hV
  have e : U * 18446744073709551616 + L = (U * 4294967296 + d1) * 4294967296 + d0 := by rw [← hL]; exact two_words U d1 d0
  rw [e, ha, hb, ← h1, hw, ← h2] at hW
  exact hW

theorem quot_steps {a b : Nat} (ha : a < 4294967296) (hb : b < 4294967296) : ∃ x z : Nat, IntKind.u64.wrap ((a : Int) * 4294967296) = (x : Int) ∧ IntKind.u64.wrap ((x : Int) + (b : Int)) = (z : Int) ∧ a * 4294967296 + b = z := by
  refine ⟨a * 4294967296, a * 4294967296 + b, ?_, ?_, rfl⟩
  · rw [← wrap_nat0 (n := a * 4294967296) (by omega)]; congr 1
  · rw [← wrap_nat0 (n := a * 4294967296 + b) (by omega)]; congr 1

theorem shr_nat {a s b : Nat} (h : a / 2 ^ s = b) : (a : Int) / 2 ^ s = (b : Int) := by rw [← h, Int.natCast_ediv, Int.natCast_pow]; rfl

theorem quot_wrap {a b : Nat} (ha : a < 4294967296) (hb : b < 4294967296) : IntKind.u64.wrap (IntKind.u64.wrap ((a : Int) * 4294967296) + (b : Int)) = ((a * 4294967296 + b : Nat) : Int) := by
  simp only [IntKind.wrap_u64]; omega

theorem first_guess {u V v1 : Nat} (hV : 9223372036854775808 ≤ V) (hV1 : V < 18446744073709551616) (hu : u < V) (hv : V / 4294967296 = v1) (d : Nat) (hd : d < 4294967296) :
    ∃ q p r : Nat, IntKind.u64.wrap ((u : Int) / (v1 : Int)) = (q : Int) ∧ IntKind.u64.wrap ((q : Int) * (v1 : Int)) = (p : Int) ∧ IntKind.u64.wrap ((u : Int) - (p : Int)) = (r : Int) ∧ Hid (r < 4294967296) ∧ Hid (Guess V u d q r) := by
  subst hv
  have hG := guess_start (V := V) (u := u) (d := d) hV hd
  have hr : u % (V / 4294967296) < 4294967296 := by have := Nat.mod_lt u (show 0 < V / 4294967296 by omega); omega
  have hmm : u / (V / 4294967296) * (V / 4294967296) ≤ u := Nat.div_mul_le_self _ _
  have hq : u / (V / 4294967296) ≤ u := Nat.div_le_self _ _
  have h := Nat.div_add_mod u (V / 4294967296)
  rw [Nat.mul_comm] at h
  refine ⟨u / (V / 4294967296), u / (V / 4294967296) * (V / 4294967296), u % (V / 4294967296), ?_, ?_, ?_, Lib.hid hr, Lib.hid hG⟩
  · rw [← Int.natCast_ediv]; exact wrap_nat0 (by omega)
  · rw [← Int.natCast_mul]; exact wrap_nat0 (by omega)
  · generalize u / (V / 4294967296) * (V / 4294967296) = p at *
    rw [show (u : Int) - (p : Int) = ((u % (V / 4294967296) : Nat) : Int) by omega]
    exact wrap_nat0 (by omega)

theorem wrap_nat {n : Nat} (h : n < 18446744073709551616) : IntKind.u64.wrap (n : Int) = (n : Int) := by rw [IntKind.wrap_u64]; omega
theorem and_nat {n : Nat} (h : n < 18446744073709551616) : bits .and .u64 (n : Int) 4294967295 = ((n % 4294967296 : Nat) : Int) := by
  have h := bits_and_u64_nat n 4294967295 h (by omega)
  rw [show n &&& 4294967295 = n % 4294967296 from Nat.and_two_pow_sub_one_eq_mod n 32] at h
  exact h

set_option maxRecDepth 100000 in
set_option maxHeartbeats 2000000 in
theorem div64_low (lo y : Nat) (hlo : lo < 18446744073709551616) (hy : 0 < y) (hy2 : y < 9223372036854775808) (w : World) :
    Calls Try.prog 39 #[.int .u64 0, .int .u64 (lo : Int), .int .u64 (y : Int)] w fun e w' => e = .returned (.tuple #[.int .u64 ((lo / y : Nat) : Int), .int .u64 ((lo % y : Nat) : Int)]) ∧ ∃ n, w' = w.drewN n := by
  have h1 : ((y : Int) == 0) = false := by rw [beq_eq_false_iff_ne]; omega
  have hw : IntKind.u64.wrap ((lo : Int) / (y : Int)) = ((lo / y : Nat) : Int) := by
    have : lo / y ≤ lo := Nat.div_le_self _ _
    rw [← Int.natCast_ediv]; exact wrap_nat (by omega)
  have HW := Lib.hid hw
  clear hw
  have h2 : decide ((y : Int) ≤ 0) = false := by rw [decide_eq_false_iff_not]; omega
  go_enter Try.func39, Try.ntmps39
  go_wp2_with fail
  go_region
  all_goals
    go_wp2
    go_ret2
    exact ⟨by simp only [Array.getD]; rw [HW.out]; rfl, 1, rfl⟩

set_option maxRecDepth 100000 in
set_option maxHeartbeats 2000000 in
theorem div64_high (hi lo y Q R : Nat) (hQ : (hi * 18446744073709551616 + lo) / y = Q) (hR : (hi * 18446744073709551616 + lo) % y = R) (hhi : 0 < hi) (hlt : hi < y) (hlo : lo < 18446744073709551616) (hy2 : y < 9223372036854775808) (w : World) :
    Calls Try.prog 39 #[.int .u64 (hi : Int), .int .u64 (lo : Int), .int .u64 (y : Int)] w fun e w' => e = .returned (.tuple #[.int .u64 (Q : Int), .int .u64 (R : Int)]) ∧ ∃ n, w' = w.drewN n := by
  have h1 : ((y : Int) == 0) = false := by rw [beq_eq_false_iff_ne]; omega
  have h2 : decide ((y : Int) ≤ (hi : Int)) = false := by rw [decide_eq_false_iff_not]; omega
  have h3 : ((hi : Int) == 0) = false := by rw [beq_eq_false_iff_ne]; omega
  obtain ⟨s, HS0, hs0, hs1, hV0, hV1⟩ := shift_of (y := y) (by omega) hy2
  have HS := Lib.hid HS0
  clear HS0
  have HU := fits hs0 hs1 hlo hlt hV1
  have HP := upper (hi := hi) (lo := lo) hs0 hs1 hlo (by omega)
  have HWi := widen (U := hi * 18446744073709551616 + lo) (y := y) (s := s) (by omega)
  obtain ⟨e1, e4, e5⟩ := forms (hi := hi) (lo := lo) (y := y) (s := s) hs0 hs1 hlo hV1 (by omega)
  rw [← HP] at HWi
  clear HP
  rw [hQ, hR] at HWi
  clear hQ hR
  generalize y * 2 ^ s = V at *
  generalize hi * 2 ^ s + lo / 2 ^ (64 - s) = U at *
  have HL : lo * 2 ^ s % 18446744073709551616 < 18446744073709551616 := Nat.mod_lt _ (by omega)
  generalize lo * 2 ^ s % 18446744073709551616 = L at *
  have HVV := (halves V hV1).1
  have HLL := (halves L HL).1
  have HD := Lib.hid (halves L HL).2
  have e2 : (V : Int) / 4294967296 = ((V / 4294967296 : Nat) : Int) := by omega
  have e3 := and_nat hV1
  have e6 : (L : Int) / 4294967296 = ((L / 4294967296 : Nat) : Int) := by omega
  have e7 := and_nat HL
  obtain ⟨q0, p0, r0, e8, e9, e10, HR0, HG0⟩ := first_guess hV0 hV1 HU rfl (L / 4294967296) (halves L HL).2.1
  have HDD := two_digits (V := V) (hi := U) (d1 := L / 4294967296) (d0 := L % 4294967296) (by omega)
  have h5 : ¬ V / 4294967296 = 0 := by clear e1 e4 e5 e2 e3 e6 e7 e8 e9 e10 HWi HDD; omega
  have hy0 : Hid ((0 : Int) ≤ (y : Int) ∧ (y : Int) ≤ 18446744073709551615) := by clear e1 e4 e5 e2 e3 e6 e7 e8 e9 e10 HWi HDD; exact Lib.hid ⟨by omega, by omega⟩
  have h4 : (((V / 4294967296 : Nat) : Int) == 0) = false := by rw [beq_eq_false_iff_ne]; exact fun h => h5 (Int.natCast_eq_zero.mp h)
  have HV0 := Lib.hid hV0
  have HV1 := Lib.hid hV1
  have HUV := Lib.hid HU
  have HW := Lib.hid HWi
  have HLV := Lib.hid HLL
  have HLT := Lib.hid HL
  have HDG := Lib.hid HDD
  clear hV0 hV1 HU HWi HVV HLL HL HDD
  generalize hv1 : V / 4294967296 = v1 at *
  generalize hv0 : V % 4294967296 = v0 at *
  generalize hd1 : L / 4294967296 = d1 at *
  generalize hd0 : L % 4294967296 = d0 at *
  have HV1E := Lib.hid hv1
  have HV0E := Lib.hid hv0
  clear hv1 hv0 hd1 hd0
  go_enter Try.func39, Try.ntmps39
  go_wp2_with fail
  refine (Try.bits_LeadingZeros64 (y : Int) _ hy0.out.1 hy0.out.2).mono ?_
  rintro e1 w1 ⟨rfl, rfl⟩
  rw [HS.out]
  go_wp2_with fail
  clear e1 e2 e3 e4 e5 e6 e7 e8 e9 e10
  go_loop [15, 16] (fun qv rv => ∃ q r : Nat, qv = .int .u64 q ∧ rv = .int .u64 r ∧ Hid (r < 4294967296) ∧ Hid (Guess V U d1 q r)) (fun qv _ => (intOf qv).toNat)
  case atStart => exact ⟨q0, r0, rfl, rfl, HR0, HG0⟩
  case round =>
    clear HR0 HG0
    obtain ⟨q, r, rfl, rfl, HR, HG⟩ := hrel
    have HC := round_cases HV0.out HV1.out HUV.out HD.out.1 HR.out HV1E.out HV0E.out HG.out
    rcases HC with HC | HC
    · rcases HC with ⟨q', r', t1, ea, eb, t2, HQQ, HR2, HG2⟩ | ⟨q', r', m, x, t, t1, ec, ed, ee, t3, ea, eb, t2, HQQ, HR2, HG2⟩
      all_goals
        go_wp2_with fail
        go_round
        case rel => exact ⟨q', r', rfl, rfl, HR2, HG2⟩
        case measure => simp [intOf]; have := HQQ.out; omega
    · rcases HC with ⟨q', r', t1, ea, eb, t2, HQ1⟩ | ⟨q', r', m, x, t, t1, ec, ed, ee, t3, ea, eb, t2, HQ1⟩ | ⟨q', m, x, t, rfl, t1, ec, ed, ee, t3, HQ1⟩
      all_goals
        obtain ⟨a1, a2, a3, W, x1, x2, x3, x4, HWE⟩ := rest_steps HV0.out HV1.out HQ1.out
        have HWV : Hid (W < V) := Lib.hid (by rw [← HWE.out]; exact Nat.mod_lt _ (pos_of HV0.out))
        obtain ⟨q2, p2, r2, f8, f9, f10, HR2, HG2⟩ := first_guess HV0.out HV1.out HWV.out HV1E.out d0 HD.out.2
        go_wp2_with fail
        clear x1 x2 x3 x4 f8 f9 f10 t1
        try clear t2
        try clear ea eb
        try clear ec ed ee t3
        clear HR HG
        go_loop [18, 16] (fun qv rv => ∃ q r : Nat, qv = .int .u64 q ∧ rv = .int .u64 r ∧ Hid (r < 4294967296) ∧ Hid (Guess V W d0 q r)) (fun qv _ => (intOf qv).toNat)
        case atStart => exact ⟨q2, r2, rfl, rfl, HR2, HG2⟩
        case round =>
          clear HR2 HG2
          obtain ⟨q, r, rfl, rfl, HR, HG⟩ := hrel
          have HC := round_cases HV0.out HV1.out HWV.out HD.out.2 HR.out HV1E.out HV0E.out HG.out
          rcases HC with HC | HC
          · rcases HC with ⟨q3, r', t1, ea, eb, t2, HQQ, HR2, HG2⟩ | ⟨q3, r', m, x, t, t1, ec, ed, ee, t3, ea, eb, t2, HQQ, HR2, HG2⟩
            all_goals
              go_wp2_with fail
              go_round
              case rel => exact ⟨q3, r', rfl, rfl, HR2, HG2⟩
              case measure => simp [intOf]; have := HQQ.out; omega
          · rcases HC with ⟨q3, r', t1, ea, eb, t2, HQ2⟩ | ⟨q3, r', m, x, t, t1, ec, ed, ee, t3, ea, eb, t2, HQ2⟩ | ⟨q3, m, x, t, rfl, t1, ec, ed, ee, t3, HQ2⟩
            all_goals
              obtain ⟨b1, b2, b3, R2, y1, y2, y3, y4, HRE⟩ := rest_steps HV0.out HV1.out HQ2.out
              have HTE := two_ends (pos_of HV0.out) HLV.out HW.out HQ1.out HWE.out HQ2.out
              obtain ⟨b4, z, y5, y6, hz⟩ := quot_steps (a := q') (b := q3) (by rw [HQ1.out]; exact quot_lt (pos_of HV0.out) HUV.out HD.out.1) (by rw [HQ2.out]; exact quot_lt (pos_of HV0.out) HWV.out HD.out.2)
              rw [hz, HRE.out] at HTE
              have y7 := shr_nat HTE.2
              have hzq := HTE.1
              clear HTE hz
              subst hzq
              go_wp2_with fail
              go_ret2
              exact ⟨rfl, 0, rfl⟩

/-- the quotient of two words by one, where it is a word -/
theorem div64_any (hi lo y Q R : Nat) (hQ : (hi * 18446744073709551616 + lo) / y = Q) (hR : (hi * 18446744073709551616 + lo) % y = R) (hlt : hi < y) (hlo : lo < 18446744073709551616) (hy2 : y < 9223372036854775808) (w : World) :
    Calls Try.prog 39 #[.int .u64 (hi : Int), .int .u64 (lo : Int), .int .u64 (y : Int)] w fun e w' => e = .returned (.tuple #[.int .u64 (Q : Int), .int .u64 (R : Int)]) ∧ ∃ n, w' = w.drewN n := by
  rcases Nat.eq_zero_or_pos hi with h0 | h0
  · subst h0
    rw [Nat.zero_mul, Nat.zero_add] at hQ hR
    subst hQ hR
    exact div64_low lo y hlo hlt hy2 w
  · exact div64_high hi lo y Q R hQ hR h0 hlt hlo hy2 w
end Go.Proofs.Ytooffbgcaichmaa.bigw
