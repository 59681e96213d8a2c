/- The law of parts and products: what it answers. -/
import Derived.Test.YtooffbgcaichmaaPart0
import Derived.DeepKeys
namespace Go.Proofs.Ytooffbgcaichmaa.bigw
open Go.RowKit mem bigm intm
set_option linter.unusedVariables false

theorem key_big (A : Nat → Nat) (s : Bool) (h : ∀ i, A i < 4294967296) : Try.prog.keyLits 4 28 (big A s).cells.toList = some [.int .u64 (A 0), .int .u64 (A 1), .int .u64 (A 2), .int .u64 (A 3), .int .u64 (A 4), .int .u64 (A 5), .int .u64 (A 6), .int .u64 (A 7), .int .u64 (A 8), .int .u64 (A 9), .bool s] := by
  have hw : ∀ i, (Lit.int .u64 (A i : Int)).wf = true := by
    intro i
    have := h i
    simp [Lit.wf, IntKind.min, IntKind.max, IntKind.signed, IntKind.bits]; omega
  have c1 : Try.prog.cellsOf 28 = 11 := by kernel_rfl
  have c2 : Try.prog.cellsOf 26 = 10 := by kernel_rfl
  have c3 : Try.prog.cellsOf 25 = 1 := by kernel_rfl
  have c4 : Try.prog.cellsOf 4 = 1 := by kernel_rfl
  have hr : List.range 10 = [0, 1, 2, 3, 4, 5, 6, 7, 8, 9] := rfl
  simp [Program.keyLits, Try.underlying28, Try.underlying26, Try.underlying25, Try.underlying4, c1, c2, c3, c4, hr, hw, big, Value.cells]

theorem big_eq (A : Nat → Nat) (s : Bool) (h : ∀ i, A i < 4294967296) (w : World) : (Op.equalIn 10000 28 (big A s) (big A s)).run Try.prog w = .ok true w := by
  obtain ⟨r, hr, hiff⟩ := run_equalIn_deep (P := Try.prog) 9990 10 28 (by kernel_rfl) w 4 4 (big A s) (big A s) _ _ (by kernel_rfl) (by kernel_rfl) (key_big A s h) (key_big A s h)
  rw [show (10000 : Nat) = 9990 + 10 from rfl, hr, hiff.2 rfl]

theorem bok_yes {a c : Int} (h1 : 0 ≤ a) (h2 : 1 ≤ c) : bok a c = true := by unfold bok; exact decide_eq_true ⟨h1, h2⟩

theorem bk_cases {a c : Int} (h1 : 0 ≤ a) (h2 : 1 ≤ c) (h3 : a ≤ 9223372036854775807) : (a = 0 ∧ bk a c = 0) ∨ (1 ≤ a ∧ ∃ k : Int, bk a c = k ∧ 1 ≤ k ∧ k ≤ a ∧ (a - 1) / c = k - 1) := by
  by_cases h0 : a = 0
  · left
    subst h0
    refine ⟨rfl, ?_⟩
    unfold bk; rw [if_pos ⟨by omega, h2⟩, if_pos (Int.zero_emod _), Int.zero_ediv]
  · right
    refine ⟨by omega, bk a c, rfl, ?_⟩
    have hm := Int.mul_ediv_add_emod a c
    have hn := Int.emod_nonneg a (show c ≠ 0 by omega)
    have hl := Int.emod_lt_of_pos a (show 0 < c by omega)
    have hd := Int.ediv_nonneg h1 (show 0 ≤ c by omega)
    unfold bk
    rw [if_pos ⟨h1, h2⟩]
    generalize a / c = q at *
    generalize a % c = r at *
    have hcq : q ≤ c * q := by
      have := Int.mul_le_mul_of_nonneg_right h2 hd
      omega
    by_cases h4 : r = 0
    · rw [if_pos h4]
      have hq1 : 1 ≤ q := by
        rcases Int.lt_or_le 0 q with h5 | h5
        · omega
        · have : q = 0 := by omega
          subst this; rw [Int.mul_zero] at hm; omega
      refine ⟨hq1, by omega, ?_⟩
      rw [show a - 1 = (c - 1) + (q - 1) * c by rw [Int.sub_mul, Int.mul_comm q c]; omega, Int.add_mul_ediv_right _ _ (by omega), Int.ediv_eq_zero_of_lt (by omega) (by omega)]
      omega
    · rw [if_neg h4]
      refine ⟨by omega, by omega, ?_⟩
      rw [show a - 1 = (r - 1) + q * c by rw [Int.mul_comm q c]; omega, Int.add_mul_ediv_right _ _ (by omega), Int.ediv_eq_zero_of_lt (by omega) (by omega)]
      omega

set_option maxRecDepth 100000 in
set_option maxHeartbeats 1000000 in
theorem back_walk (a b c : Int) (ha : -9223372036854775808 ≤ a ∧ a ≤ 9223372036854775807) (hb : -9223372036854775808 ≤ b ∧ b ≤ 9223372036854775807) (hc : -9223372036854775808 ≤ c ∧ c ≤ 9223372036854775807) (w : World) :
    Calls Try.prog 7 #[.int .i64 a, .int .i64 b, .int .i64 c] w fun en w' => en = .returned (.bool true) ∧ Below w.heap.size w w' := by
  have HA := Lib.hid ha
  have HB := Lib.hid hb
  have HC := Lib.hid hc
  clear ha hb hc
  go_enter Try.func7, Try.ntmps7
  go_wp2_with fail
  refine (apart_any a b c HA.out HB.out HC.out _).mono ?_
  rintro e1 w1 ⟨rfl, hO1⟩
  by_cases hp : 0 ≤ a ∧ 0 ≤ b ∧ 1 ≤ c ∧ a * b / c ≤ 9223372036854775807
  · have HP := Lib.hid (part_yes hp)
    rw [HP.out.1, HP.out.2.1, HP.out.2.2]
    obtain ⟨n, hn⟩ : ∃ n, a * b / c = n := ⟨_, rfl⟩
    obtain ⟨r, hr⟩ : ∃ r, a * b % c = r := ⟨_, rfl⟩
    have HE : Hid (n * c + r = a * b) := Lib.hid (by rw [← hn, ← hr, Int.mul_comm]; exact Int.mul_ediv_add_emod _ _)
    have hr0 : 0 ≤ r := by rw [← hr]; exact Int.emod_nonneg _ (by omega)
    have hrc : r < c := by rw [← hr]; exact Int.emod_lt_of_pos _ (by omega)
    have hn0 : 0 ≤ n := by rw [← hn]; exact Int.ediv_nonneg (Int.mul_nonneg hp.1 hp.2.1) (by omega)
    have hn1 : n ≤ 9223372036854775807 := by rw [← hn]; exact hp.2.2.2
    rw [hn, hr]
    have HN : Hid (-9223372036854775808 ≤ n ∧ n ≤ 9223372036854775807) := Lib.hid ⟨by omega, hn1⟩
    have HR : Hid (-9223372036854775808 ≤ r ∧ r ≤ 9223372036854775807) := Lib.hid ⟨by omega, by have := HC.out; omega⟩
    have HAN : Hid (a.natAbs ≤ 85070591730234615865843651857942052864) := Lib.hid (by have := HA.out; omega)
    have HBN : Hid (b.natAbs ≤ 85070591730234615865843651857942052864) := Lib.hid (by have := HB.out; omega)
    have HCN : Hid (c.natAbs ≤ 85070591730234615865843651857942052864) := Lib.hid (by have := HC.out; omega)
    have HNN : Hid (n.natAbs ≤ 85070591730234615865843651857942052864) := Lib.hid (by have := HN.out; omega)
    have HRN : Hid (r.natAbs ≤ 85070591730234615865843651857942052864) := Lib.hid (by have := HR.out; omega)
    have HNC : Hid ((n * c).natAbs ≤ 85070591730234615865843651857942052864) := Lib.hid (mul_le HN.out HC.out)
    have d1 : decide (r < 0) = false := by rw [decide_eq_false_iff_not]; omega
    have d2 : decide (c ≤ r) = false := by rw [decide_eq_false_iff_not]; omega
    have HH := Lib.hid hp
    clear hn hr hp hr0 hrc hn0 hn1
    go_wp2_with fail
    refine (sums_any _).mono ?_
    rintro e5 w5 ⟨rfl, rfl⟩
    go_wp2_with fail
    refine (of_sb n HN.out _).mono ?_
    rintro e2 w2 ⟨rfl, hO2⟩
    go_wp2_with fail
    refine (of_sb c HC.out _).mono ?_
    rintro e3 w3 ⟨rfl, hO3⟩
    go_wp2_with fail
    refine (times_any n c (lt5 HNN.out) (lt5 HCN.out) _).mono ?_
    rintro e4 w4 ⟨rfl, hO4⟩
    go_wp2_with fail
    refine (of_sb r HR.out _).mono ?_
    rintro e5 w5 ⟨rfl, hO5⟩
    go_wp2_with fail
    refine (plus_any (n * c) r (lt9 HNC.out) (lt9 HRN.out) _).mono ?_
    rintro e6 w6 ⟨rfl, hO6⟩
    rw [HE.out]
    go_wp2_with fail
    refine (of_sb a HA.out _).mono ?_
    rintro e7 w7 ⟨rfl, hO7⟩
    go_wp2_with fail
    refine (of_sb b HB.out _).mono ?_
    rintro e8 w8 ⟨rfl, hO8⟩
    go_wp2_with fail
    refine (times_any a b (lt5 HAN.out) (lt5 HBN.out) _).mono ?_
    rintro e9 w9 ⟨rfl, hO9⟩
    have OW := Lib.hid (hO1.trans (hO2.trans (hO3.trans (hO4.trans (hO5.trans (hO6.trans (hO7.trans (hO8.trans hO9))))))))
    clear hO1 hO2 hO3 hO4 hO5 hO6 hO7 hO8 hO9
    have hz := fun wx => big_eq (limb (a * b).natAbs) (decide (a * b < 0)) (limb_lt _) wx
    change ∀ wx, (Op.equalIn 10000 28 (sb (a * b)) (sb (a * b))).run Try.prog wx = .ok true wx at hz
    rw [sb_lit2] at hz
    rw [sb_lit2 (a * b)]
    go_wp2_with fail
    refine (ablocks_any a c HA.out HC.out _).mono ?_
    rintro e10 w10 ⟨rfl, rfl⟩
    have hb := bok_yes HH.out.1 HH.out.2.2.1
    rw [hb]
    clear hz d1 d2 hb
    rcases bk_cases (a := a) (c := c) HH.out.1 HH.out.2.2.1 HA.out.2 with ⟨ha0, hk0⟩ | ⟨ha1, k, hk, hk1, hk2, hk3⟩
    · rw [hk0]
      subst ha0
      go_wp2_with fail
      go_ret
      exact ⟨rfl, OW.out.none⟩
    · rw [hk]
      have h0 := HH.out.2.2.1
      have h3 := HA.out.2
      have h4 := HC.out.2
      have hk4 : decide (k < 1) = false := by rw [decide_eq_false_iff_not]; omega
      have hk5 : decide (0 ≤ k) = true := by rw [decide_eq_true_eq]; omega
      have hk6 : (k == 0) = false := by rw [beq_eq_false_iff_ne]; omega
      have hk7 : (a == 0) = false := by rw [beq_eq_false_iff_ne]; omega
      have hk8 : decide (k ≤ a) = true := by rw [decide_eq_true_eq]; omega
      go_wp2_with fail
      go_ret
      exact ⟨rfl, OW.out.none⟩
  · have HP := Lib.hid (part_no hp)
    rw [HP.out.1, HP.out.2.1, HP.out.2.2]
    have OW := Lib.hid hO1
    clear hp hO1
    go_wp2_with fail
    refine (sums_any _).mono ?_
    rintro e5 w5 ⟨rfl, rfl⟩
    go_wp2_with fail
    refine (ablocks_any a c HA.out HC.out _).mono ?_
    rintro e10 w10 ⟨rfl, rfl⟩
    by_cases hac : 0 ≤ a ∧ 1 ≤ c
    · rw [bok_yes hac.1 hac.2]
      rcases bk_cases (a := a) (c := c) hac.1 hac.2 HA.out.2 with ⟨ha0, hk0⟩ | ⟨ha1, k, hk, hk1, hk2, hk3⟩
      · rw [hk0]
        subst ha0
        clear hac
        go_wp2_with fail
        go_ret
        exact ⟨rfl, OW.out.none⟩
      · rw [hk]
        have h0 := hac.2
        have h3 := HA.out.2
        have h4 := HC.out.2
        have hk4 : decide (k < 1) = false := by rw [decide_eq_false_iff_not]; omega
        have hk5 : decide (0 ≤ k) = true := by rw [decide_eq_true_eq]; omega
        have hk6 : (k == 0) = false := by rw [beq_eq_false_iff_ne]; omega
        have hk7 : (a == 0) = false := by rw [beq_eq_false_iff_ne]; omega
        have hk8 : decide (k ≤ a) = true := by rw [decide_eq_true_eq]; omega
        clear hac
        go_wp2_with fail
        go_ret
        exact ⟨rfl, OW.out.none⟩
    · have hb : bok a c = false := by unfold bok; exact decide_eq_false hac
      rw [hb]
      clear hb
      generalize bk a c = k
      by_cases a1 : a < 0
      · clear hac
        go_wp2_with fail
        go_ret
        exact ⟨rfl, OW.out.none⟩
      · have c1 : c < 1 := by omega
        clear hac
        go_wp2_with fail
        go_ret
        exact ⟨rfl, OW.out.none⟩
end Go.Proofs.Ytooffbgcaichmaa.bigw
