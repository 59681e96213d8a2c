/- The document's Divide: what it answers. -/
import Derived.Test.YtooffbgcaichmaaBoxM
import Derived.Deep.Cut
namespace Go.Proofs.Ytooffbgcaichmaa.bigw
open Go.RowKit mem bigm intm
set_option linter.unusedVariables false

theorem big_lits (A : Nat → Nat) : big A false = .agg #[.int .u64 (A 0 : Int), .int .u64 (A 1 : Int), .int .u64 (A 2 : Int), .int .u64 (A 3 : Int), .int .u64 (A 4 : Int), .int .u64 (A 5 : Int), .int .u64 (A 6 : Int), .int .u64 (A 7 : Int), .int .u64 (A 8 : Int), .int .u64 (A 9 : Int), .bool false] := by rfl

theorem bigL_nth (A : Nat → Nat) (i : Nat) (h : i < 10) : (bigL A)[i]? = some (.int .u64 (A i : Int)) := by
  match i, h with
  | 0, _ => rfl
  | 1, _ => rfl
  | 2, _ => rfl
  | 3, _ => rfl
  | 4, _ => rfl
  | 5, _ => rfl
  | 6, _ => rfl
  | 7, _ => rfl
  | 8, _ => rfl
  | 9, _ => rfl

theorem and_bit (x k : Nat) (h : x < 4294967296) : bits .and .u64 ((x : Int) / 2 ^ k) 1 = ((x / 2 ^ k % 2 : Nat) : Int) := by
  have hle : x / 2 ^ k ≤ x := Nat.div_le_self _ _
  have e : ((x : Int) / 2 ^ k) = ((x / 2 ^ k : Nat) : Int) := by rw [Int.natCast_ediv, Int.natCast_pow]; rfl
  rw [e]
  have h := bits_and_u64_nat (x / 2 ^ k) 1 (by omega) (by omega)
  rw [show x / 2 ^ k &&& 1 = x / 2 ^ k % 2 from Nat.and_one_is_mod _] at h
  exact h

theorem lt64 {k : Nat} (h : k < 18446744073709551616) : k < 4294967296 ^ 10 := Nat.lt_of_lt_of_le h (Nat.le_of_ble_eq_true rfl)
theorem lt10b {k : Nat} (h : k ≤ 36893488147419103232) : k < 4294967296 ^ 10 := Nat.lt_of_le_of_lt h (Nat.le_of_ble_eq_true rfl)
theorem two_lt {r m b : Nat} (h : r < m) (hm : m < 18446744073709551616) (hb : b < 2) : 2 * r + b ≤ 36893488147419103232 := by omega

theorem swap_exit {K : Exit → Act → World → Prop} {e : Exit} {a : Act} {w w' : World} (h : w' = w) (k : K e a w') : K e a w := h ▸ k

theorem div_pow0 (n k : Nat) (h : n < 2 ^ 128) (hk : 128 ≤ k) : n / 2 ^ k = 0 := Nat.div_eq_of_lt (Nat.lt_of_lt_of_le h (Nat.pow_le_pow_right (by decide) hk))

theorem divs_start (w : World) (n m : Nat) (ca cb : Array Value) (ha : ca = (bigL (limb n)).toArray) (hb : cb = (bigL (limb m)).toArray) (z : Array Value) (hz : z = (bigL (limb 0)).toArray) (t : TypeId) :
    DivS w ((((((w.alloc (.cells ca t)).alloc (.cells cb t)).alloc (.cells z t)).alloc (.cells z t)).alloc (.cells z t)).alloc (.cells z t)) n m 0 0 := by
  have h1 := Has.new w n t ca ha
  have h2 := Has.new (w.alloc (.cells ca t)) m t cb hb
  have h3 := Has.new ((w.alloc (.cells ca t)).alloc (.cells cb t)) 0 t z hz
  have h4 := Has.new (((w.alloc (.cells ca t)).alloc (.cells cb t)).alloc (.cells z t)) 0 t z hz
  have h5 := Has.new ((((w.alloc (.cells ca t)).alloc (.cells cb t)).alloc (.cells z t)).alloc (.cells z t)) 0 t z hz
  have h6 := Has.new (((((w.alloc (.cells ca t)).alloc (.cells cb t)).alloc (.cells z t)).alloc (.cells z t)).alloc (.cells z t)) 0 t z hz
  simp only [size_alloc] at h2 h3 h4 h5 h6
  exact ⟨((((h1.alloc _).alloc _).alloc _).alloc _).alloc _, (((h2.alloc _).alloc _).alloc _).alloc _, ((h3.alloc _).alloc _).alloc _, (h4.alloc _).alloc _, h5.alloc _, h6, ((((((Only.refl _ _).alloc _).alloc _).alloc _).alloc _).alloc _).alloc _⟩

set_option maxRecDepth 100000 in
set_option maxHeartbeats 4000000 in
theorem divide_any (n m : Nat) (hm : 0 < m) (hn : n < 2 ^ 128) (hm2 : m < 18446744073709551616) (w : World) :
    Calls Try.prog 40 #[big (limb n) false, big (limb m) false] w fun e w' => e = .returned (.tuple #[big (limb (n / m)) false, big (limb (n % m)) false]) ∧ Only (fun _ => False) w w' := by
  have HM := Lib.hid hm
  have HN := Lib.hid hn
  have HM2 := Lib.hid hm2
  clear hm hn hm2
  have HST := Lib.hid (divs_start w n m (bigL (limb n)).toArray (bigL (limb m)).toArray rfl rfl (bigL (limb 0)).toArray rfl 28)
  rw [big_lits, big_lits]
  go_enter Try.func40, Try.ntmps40
  go_wp2_with fail
  go_loopw [8] (fun i wr => ∃ k : Nat, k ≤ 320 ∧ i = .int .i64 ((k : Int) - 1) ∧ Hid (DivS w wr n m (n / 2 ^ k / m) (n / 2 ^ k % m))) (fun i _ => (intOf i + 1).toNat)
  case atStart => exact ⟨320, by omega, rfl, Lib.hid (by rw [div_pow0 n 320 HN.out (by decide), Nat.zero_div, Nat.zero_mod]; exact HST.out)⟩
  case round =>
    obtain ⟨k, hk, rfl, HD⟩ := hrel
    rcases Nat.eq_zero_or_pos k with h0 | h0
    · subst h0
      rw [show (2 : Nat) ^ 0 = 1 from rfl, Nat.div_one] at HD
      generalize hq : n / m = q at HD
      generalize hr : n % m = r at HD
      have HR := Lib.hid hr
      have HQ := Lib.hid hq
      clear hr hq
      have c0 := (HD.out.q 0 _ rfl).1
      have c1 := (HD.out.q 1 _ rfl).1
      have c2 := (HD.out.q 2 _ rfl).1
      have c3 := (HD.out.q 3 _ rfl).1
      have c4 := (HD.out.q 4 _ rfl).1
      have c5 := (HD.out.q 5 _ rfl).1
      have c6 := (HD.out.q 6 _ rfl).1
      have c7 := (HD.out.q 7 _ rfl).1
      have c8 := (HD.out.q 8 _ rfl).1
      have c9 := (HD.out.q 9 _ rfl).1
      have c10 := (HD.out.q 10 _ rfl).1
      have e0 := (HD.out.r 0 _ rfl).1
      have e1 := (HD.out.r 1 _ rfl).1
      have e2 := (HD.out.r 2 _ rfl).1
      have e3 := (HD.out.r 3 _ rfl).1
      have e4 := (HD.out.r 4 _ rfl).1
      have e5 := (HD.out.r 5 _ rfl).1
      have e6 := (HD.out.r 6 _ rfl).1
      have e7 := (HD.out.r 7 _ rfl).1
      have e8 := (HD.out.r 8 _ rfl).1
      have e9 := (HD.out.r 9 _ rfl).1
      have e10 := (HD.out.r 10 _ rfl).1
      have f0 := (HD.out.c 0 _ rfl).1
      have g0 := (HD.out.c 0 _ rfl).2
      have f1 := (HD.out.c 1 _ rfl).1
      have g1 := (HD.out.c 1 _ rfl).2
      have f2 := (HD.out.c 2 _ rfl).1
      have g2 := (HD.out.c 2 _ rfl).2
      have f3 := (HD.out.c 3 _ rfl).1
      have g3 := (HD.out.c 3 _ rfl).2
      have f4 := (HD.out.c 4 _ rfl).1
      have g4 := (HD.out.c 4 _ rfl).2
      have f5 := (HD.out.c 5 _ rfl).1
      have g5 := (HD.out.c 5 _ rfl).2
      have f6 := (HD.out.c 6 _ rfl).1
      have g6 := (HD.out.c 6 _ rfl).2
      have f7 := (HD.out.c 7 _ rfl).1
      have g7 := (HD.out.c 7 _ rfl).2
      have f8 := (HD.out.c 8 _ rfl).1
      have g8 := (HD.out.c 8 _ rfl).2
      have f9 := (HD.out.c 9 _ rfl).1
      have g9 := (HD.out.c 9 _ rfl).2
      have f10 := (HD.out.c 10 _ rfl).1
      have g10 := (HD.out.c 10 _ rfl).2
      have h0 := (HD.out.d 0 _ rfl).1
      have i0 := (HD.out.d 0 _ rfl).2
      have h1 := (HD.out.d 1 _ rfl).1
      have i1 := (HD.out.d 1 _ rfl).2
      have h2 := (HD.out.d 2 _ rfl).1
      have i2 := (HD.out.d 2 _ rfl).2
      have h3 := (HD.out.d 3 _ rfl).1
      have i3 := (HD.out.d 3 _ rfl).2
      have h4 := (HD.out.d 4 _ rfl).1
      have i4 := (HD.out.d 4 _ rfl).2
      have h5 := (HD.out.d 5 _ rfl).1
      have i5 := (HD.out.d 5 _ rfl).2
      have h6 := (HD.out.d 6 _ rfl).1
      have i6 := (HD.out.d 6 _ rfl).2
      have h7 := (HD.out.d 7 _ rfl).1
      have i7 := (HD.out.d 7 _ rfl).2
      have h8 := (HD.out.d 8 _ rfl).1
      have i8 := (HD.out.d 8 _ rfl).2
      have h9 := (HD.out.d 9 _ rfl).1
      have i9 := (HD.out.d 9 _ rfl).2
      have h10 := (HD.out.d 10 _ rfl).1
      have i10 := (HD.out.d 10 _ rfl).2
      go_wp2_with fail
      go_region
      all_goals
        obtain ⟨wz, hwz⟩ : ∃ wz, wz = (puts (w.heap.size + 1 + 1 + 1) 0 (bigL (limb r)) (puts (w.heap.size + 1 + 1) 0 (bigL (limb q)) wr)).drew := ⟨_, rfl⟩
        refine swap_exit (w' := wz) (hwz.trans rfl) ?_
        have HZ : Hid (Has wz (w.heap.size + 1 + 1) q ∧ Has wz (w.heap.size + 1 + 1 + 1) r ∧ Only (fun _ => False) w wz) := Lib.hid (by
          rw [hwz]
          refine ⟨(((HD.out.c.put q).other (by omega)).only (S := fun _ => False) ((Only.refl _ _).drew) (fun f => f)), (((HD.out.d.other (by omega)).put r).only (S := fun _ => False) ((Only.refl _ _).drew) (fun f => f)), ?_⟩
          exact (puts_only _ _ _ _ _ (puts_only _ _ _ _ _ HD.out.only (.inr (by omega))) (.inr (by omega))).drew)
        clear hwz HD c0 c1 c2 c3 c4 c5 c6 c7 c8 c9 c10 e0 e1 e2 e3 e4 e5 e6 e7 e8 e9 e10 f0 f1 f2 f3 f4 f5 f6 f7 f8 f9 f10 g0 g1 g2 g3 g4 g5 g6 g7 g8 g9 g10 h0 h1 h2 h3 h4 h5 h6 h7 h8 h9 h10 i0 i1 i2 i3 i4 i5 i6 i7 i8 i9 i10
        have x0 := (HZ.out.1 0 _ rfl).1
        have x1 := (HZ.out.1 1 _ rfl).1
        have x2 := (HZ.out.1 2 _ rfl).1
        have x3 := (HZ.out.1 3 _ rfl).1
        have x4 := (HZ.out.1 4 _ rfl).1
        have x5 := (HZ.out.1 5 _ rfl).1
        have x6 := (HZ.out.1 6 _ rfl).1
        have x7 := (HZ.out.1 7 _ rfl).1
        have x8 := (HZ.out.1 8 _ rfl).1
        have x9 := (HZ.out.1 9 _ rfl).1
        have x10 := (HZ.out.1 10 _ rfl).1
        have y0 := (HZ.out.2.1 0 _ rfl).1
        have y1 := (HZ.out.2.1 1 _ rfl).1
        have y2 := (HZ.out.2.1 2 _ rfl).1
        have y3 := (HZ.out.2.1 3 _ rfl).1
        have y4 := (HZ.out.2.1 4 _ rfl).1
        have y5 := (HZ.out.2.1 5 _ rfl).1
        have y6 := (HZ.out.2.1 6 _ rfl).1
        have y7 := (HZ.out.2.1 7 _ rfl).1
        have y8 := (HZ.out.2.1 8 _ rfl).1
        have y9 := (HZ.out.2.1 9 _ rfl).1
        have y10 := (HZ.out.2.1 10 _ rfl).1
        go_wp2
        refine bodyPost_ret (v := .tuple #[.agg #[.int .u64 (limb q 0 : Int), .int .u64 (limb q 1 : Int), .int .u64 (limb q 2 : Int), .int .u64 (limb q 3 : Int), .int .u64 (limb q 4 : Int), .int .u64 (limb q 5 : Int), .int .u64 (limb q 6 : Int), .int .u64 (limb q 7 : Int), .int .u64 (limb q 8 : Int), .int .u64 (limb q 9 : Int), .bool false], .agg #[.int .u64 (limb r 0 : Int), .int .u64 (limb r 1 : Int), .int .u64 (limb r 2 : Int), .int .u64 (limb r 3 : Int), .int .u64 (limb r 4 : Int), .int .u64 (limb r 5 : Int), .int .u64 (limb r 6 : Int), .int .u64 (limb r 7 : Int), .int .u64 (limb r 8 : Int), .int .u64 (limb r 9 : Int), .bool false]]) (by simp [results, Try.results40, go_sem, x0, x1, x2, x3, x4, x5, x6, x7, x8, x9, x10, y0, y1, y2, y3, y4, y5, y6, y7, y8, y9, y10]) rfl ⟨by rw [HQ.out, HR.out]; rfl, HZ.out.2.2⟩
    · obtain ⟨j, rfl⟩ : ∃ j, k = j + 1 := ⟨k - 1, by omega⟩
      rw [show (((j + 1 : Nat) : Int) - 1) = (j : Int) by omega]
      generalize hr : n / 2 ^ (j + 1) % m = r at *
      generalize hq : n / 2 ^ (j + 1) / m = q at *
      have HR := Lib.hid hr
      have HQ := Lib.hid hq
      clear hr hq
      have c0 := (HD.out.r 0 _ rfl).1
      have c1 := (HD.out.r 1 _ rfl).1
      have c2 := (HD.out.r 2 _ rfl).1
      have c3 := (HD.out.r 3 _ rfl).1
      have c4 := (HD.out.r 4 _ rfl).1
      have c5 := (HD.out.r 5 _ rfl).1
      have c6 := (HD.out.r 6 _ rfl).1
      have c7 := (HD.out.r 7 _ rfl).1
      have c8 := (HD.out.r 8 _ rfl).1
      have c9 := (HD.out.r 9 _ rfl).1
      have c10 := (HD.out.r 10 _ rfl).1
      go_upto_region 6 with (fail)
      refine (add_any r r false false _).mono ?_
      rintro e1 w1 ⟨rfl, hO1⟩
      rw [big_lits, ← Nat.two_mul]
      clear c0 c1 c2 c3 c4 c5 c6 c7 c8 c9 c10
      have D1 := Lib.hid (HD.out.step hO1)
      clear hO1 HD
      have c0 := (D1.out.r 0 _ rfl).1
      have z0 := (D1.out.r 0 _ rfl).2
      have c1 := (D1.out.r 1 _ rfl).1
      have z1 := (D1.out.r 1 _ rfl).2
      have c2 := (D1.out.r 2 _ rfl).1
      have z2 := (D1.out.r 2 _ rfl).2
      have c3 := (D1.out.r 3 _ rfl).1
      have z3 := (D1.out.r 3 _ rfl).2
      have c4 := (D1.out.r 4 _ rfl).1
      have z4 := (D1.out.r 4 _ rfl).2
      have c5 := (D1.out.r 5 _ rfl).1
      have z5 := (D1.out.r 5 _ rfl).2
      have c6 := (D1.out.r 6 _ rfl).1
      have z6 := (D1.out.r 6 _ rfl).2
      have c7 := (D1.out.r 7 _ rfl).1
      have z7 := (D1.out.r 7 _ rfl).2
      have c8 := (D1.out.r 8 _ rfl).1
      have z8 := (D1.out.r 8 _ rfl).2
      have c9 := (D1.out.r 9 _ rfl).1
      have z9 := (D1.out.r 9 _ rfl).2
      have c10 := (D1.out.r 10 _ rfl).1
      have z10 := (D1.out.r 10 _ rfl).2
      go_upto_region 6 with (fail)
      obtain ⟨w2, hw2⟩ : ∃ w2, w2 = puts (w.heap.size + 1 + 1 + 1 + 1 + 1) 0 (bigL (limb (2 * r))) w1 := ⟨_, rfl⟩
      refine swap_world (w' := w2) (hw2.trans rfl) ?_
      have D2 : Hid (DivS w w2 n m q (2 * r)) := Lib.hid (by rw [hw2]; exact D1.out.putr _)
      clear hw2 c0 c1 c2 c3 c4 c5 c6 c7 c8 c9 c10 z0 z1 z2 z3 z4 z5 z6 z7 z8 z9 z10 D1
      have c0 := (D2.out.q 0 _ rfl).1
      have c1 := (D2.out.q 1 _ rfl).1
      have c2 := (D2.out.q 2 _ rfl).1
      have c3 := (D2.out.q 3 _ rfl).1
      have c4 := (D2.out.q 4 _ rfl).1
      have c5 := (D2.out.q 5 _ rfl).1
      have c6 := (D2.out.q 6 _ rfl).1
      have c7 := (D2.out.q 7 _ rfl).1
      have c8 := (D2.out.q 8 _ rfl).1
      have c9 := (D2.out.q 9 _ rfl).1
      have c10 := (D2.out.q 10 _ rfl).1
      go_upto_region 7 with (fail)
      refine (add_any q q false false _).mono ?_
      rintro e1 w3 ⟨rfl, hO1⟩
      rw [big_lits, ← Nat.two_mul]
      clear c0 c1 c2 c3 c4 c5 c6 c7 c8 c9 c10
      have D3 := Lib.hid (D2.out.step hO1)
      clear hO1 D2
      have c0 := (D3.out.q 0 _ rfl).1
      have z0 := (D3.out.q 0 _ rfl).2
      have c1 := (D3.out.q 1 _ rfl).1
      have z1 := (D3.out.q 1 _ rfl).2
      have c2 := (D3.out.q 2 _ rfl).1
      have z2 := (D3.out.q 2 _ rfl).2
      have c3 := (D3.out.q 3 _ rfl).1
      have z3 := (D3.out.q 3 _ rfl).2
      have c4 := (D3.out.q 4 _ rfl).1
      have z4 := (D3.out.q 4 _ rfl).2
      have c5 := (D3.out.q 5 _ rfl).1
      have z5 := (D3.out.q 5 _ rfl).2
      have c6 := (D3.out.q 6 _ rfl).1
      have z6 := (D3.out.q 6 _ rfl).2
      have c7 := (D3.out.q 7 _ rfl).1
      have z7 := (D3.out.q 7 _ rfl).2
      have c8 := (D3.out.q 8 _ rfl).1
      have z8 := (D3.out.q 8 _ rfl).2
      have c9 := (D3.out.q 9 _ rfl).1
      have z9 := (D3.out.q 9 _ rfl).2
      have c10 := (D3.out.q 10 _ rfl).1
      have z10 := (D3.out.q 10 _ rfl).2
      go_upto_region 7 with (fail)
      obtain ⟨w4, hw4⟩ : ∃ w4, w4 = puts (w.heap.size + 1 + 1 + 1 + 1) 0 (bigL (limb (2 * q))) w3 := ⟨_, rfl⟩
      refine swap_world (w' := w4) (hw4.trans rfl) ?_
      have D4 : Hid (DivS w w4 n m (2 * q) (2 * r)) := Lib.hid (by rw [hw4]; exact D3.out.putq _)
      clear hw4 c0 c1 c2 c3 c4 c5 c6 c7 c8 c9 c10 z0 z1 z2 z3 z4 z5 z6 z7 z8 z9 z10 D3
      have hj : j / 32 < 10 := by omega
      have ca := (D4.out.a (j / 32) (.int .u64 (limb n (j / 32) : Int)) (bigL_nth (limb n) _ hj)).1
      have HB := Lib.hid (bit_of n j)
      have HE := Lib.hid (half_step n j)
      have HP := Lib.hid (div_bit (N := n / 2 ^ (j + 1)) (m := m) (b := n / 2 ^ j % 2) HM.out (Nat.mod_lt _ (by omega)))
      have hx := limb_lt n (j / 32)
      generalize limb n (j / 32) = x at ca HB hx
      have hand := and_bit x (j % 32) hx
      rw [HB.out] at hand
      clear HB hx
      have hb2 : n / 2 ^ j % 2 < 2 := Nat.mod_lt _ (by omega)
      rw [HR.out, HQ.out, ← HE.out] at HP
      generalize hbb : n / 2 ^ j % 2 = b at *
      have HBB := Lib.hid hbb
      clear hbb HE
      rcases (show b = 0 ∨ b = 1 by omega) with hb0 | hb1
      · subst hb0
        clear hb2
        obtain ⟨t, ht⟩ : ∃ t, t = 2 * r := ⟨_, rfl⟩
        rw [← ht] at D4
        have HT : Hid (2 * r + 0 = t) := Lib.hid (by omega)
        have HTL : Hid (t < 4294967296 ^ 10) := Lib.hid (lt10b (by rw [← HT.out]; exact two_lt (HR.out ▸ Nat.mod_lt _ HM.out) HM2.out (by omega)))
        clear ht
        go_upto_region 9 with (fail)
        clear ca hand
        have D5 := D4
        clear D4
        have c0 := (D5.out.r 0 _ rfl).1
        have c1 := (D5.out.r 1 _ rfl).1
        have c2 := (D5.out.r 2 _ rfl).1
        have c3 := (D5.out.r 3 _ rfl).1
        have c4 := (D5.out.r 4 _ rfl).1
        have c5 := (D5.out.r 5 _ rfl).1
        have c6 := (D5.out.r 6 _ rfl).1
        have c7 := (D5.out.r 7 _ rfl).1
        have c8 := (D5.out.r 8 _ rfl).1
        have c9 := (D5.out.r 9 _ rfl).1
        have c10 := (D5.out.r 10 _ rfl).1
        have e0 := (D5.out.b 0 _ rfl).1
        have e1 := (D5.out.b 1 _ rfl).1
        have e2 := (D5.out.b 2 _ rfl).1
        have e3 := (D5.out.b 3 _ rfl).1
        have e4 := (D5.out.b 4 _ rfl).1
        have e5 := (D5.out.b 5 _ rfl).1
        have e6 := (D5.out.b 6 _ rfl).1
        have e7 := (D5.out.b 7 _ rfl).1
        have e8 := (D5.out.b 8 _ rfl).1
        have e9 := (D5.out.b 9 _ rfl).1
        have e10 := (D5.out.b 10 _ rfl).1
        go_upto_region 10 with (fail)
        refine (less_any t m false false (HTL.out) (lt64 HM2.out) _).mono ?_
        rintro e1 w6 ⟨rfl, hO6⟩
        clear c0 c1 c2 c3 c4 c5 c6 c7 c8 c9 c10 e0 e1 e2 e3 e4 e5 e6 e7 e8 e9 e10
        have D6 := Lib.hid (D5.out.step hO6)
        clear hO6 D5
        by_cases hlt : t < m
        · have hd : decide (t < m) = true := by rw [decide_eq_true_eq]; exact hlt
          have HN2 : Hid (DivS w w6 n m (n / 2 ^ j / m) (n / 2 ^ j % m)) := Lib.hid (by
            have := HP.out.1 (by rw [HT.out]; exact hlt)
            rw [this.1, this.2, HT.out]; exact D6.out)
          clear hlt
          go_wp2_with fail
          go_roundw
          case rel => exact ⟨j, by omega, by go_num, HN2⟩
          case measure => simp [intOf]
        · have hd : decide (t < m) = false := by rw [decide_eq_false_iff_not]; exact hlt
          have HLE : Hid (m ≤ t) := Lib.hid (Nat.le_of_not_lt hlt)
          have HP2 := Lib.hid (HP.out.2 (by rw [HT.out]; exact hlt))
          clear hlt
          have c0 := (D6.out.r 0 _ rfl).1
          have c1 := (D6.out.r 1 _ rfl).1
          have c2 := (D6.out.r 2 _ rfl).1
          have c3 := (D6.out.r 3 _ rfl).1
          have c4 := (D6.out.r 4 _ rfl).1
          have c5 := (D6.out.r 5 _ rfl).1
          have c6 := (D6.out.r 6 _ rfl).1
          have c7 := (D6.out.r 7 _ rfl).1
          have c8 := (D6.out.r 8 _ rfl).1
          have c9 := (D6.out.r 9 _ rfl).1
          have c10 := (D6.out.r 10 _ rfl).1
          have e0 := (D6.out.b 0 _ rfl).1
          have e1 := (D6.out.b 1 _ rfl).1
          have e2 := (D6.out.b 2 _ rfl).1
          have e3 := (D6.out.b 3 _ rfl).1
          have e4 := (D6.out.b 4 _ rfl).1
          have e5 := (D6.out.b 5 _ rfl).1
          have e6 := (D6.out.b 6 _ rfl).1
          have e7 := (D6.out.b 7 _ rfl).1
          have e8 := (D6.out.b 8 _ rfl).1
          have e9 := (D6.out.b 9 _ rfl).1
          have e10 := (D6.out.b 10 _ rfl).1
          go_upto_region 11 with (fail)
          refine (sub_any t m false false HLE.out _).mono ?_
          rintro e1 w7 ⟨rfl, hO7⟩
          rw [big_lits]
          clear c0 c1 c2 c3 c4 c5 c6 c7 c8 c9 c10 e0 e1 e2 e3 e4 e5 e6 e7 e8 e9 e10
          have D7 := Lib.hid (D6.out.step hO7)
          clear hO7 D6
          have c0 := (D7.out.r 0 _ rfl).1
          have z0 := (D7.out.r 0 _ rfl).2
          have c1 := (D7.out.r 1 _ rfl).1
          have z1 := (D7.out.r 1 _ rfl).2
          have c2 := (D7.out.r 2 _ rfl).1
          have z2 := (D7.out.r 2 _ rfl).2
          have c3 := (D7.out.r 3 _ rfl).1
          have z3 := (D7.out.r 3 _ rfl).2
          have c4 := (D7.out.r 4 _ rfl).1
          have z4 := (D7.out.r 4 _ rfl).2
          have c5 := (D7.out.r 5 _ rfl).1
          have z5 := (D7.out.r 5 _ rfl).2
          have c6 := (D7.out.r 6 _ rfl).1
          have z6 := (D7.out.r 6 _ rfl).2
          have c7 := (D7.out.r 7 _ rfl).1
          have z7 := (D7.out.r 7 _ rfl).2
          have c8 := (D7.out.r 8 _ rfl).1
          have z8 := (D7.out.r 8 _ rfl).2
          have c9 := (D7.out.r 9 _ rfl).1
          have z9 := (D7.out.r 9 _ rfl).2
          have c10 := (D7.out.r 10 _ rfl).1
          have z10 := (D7.out.r 10 _ rfl).2
          go_upto_region 11 with (fail)
          obtain ⟨w8, hw8⟩ : ∃ w8, w8 = puts (w.heap.size + 1 + 1 + 1 + 1 + 1) 0 (bigL (limb (t - m))) w7 := ⟨_, rfl⟩
          refine swap_world (w' := w8) (hw8.trans rfl) ?_
          have D8 : Hid (DivS w w8 n m (2 * q) (t - m)) := Lib.hid (by rw [hw8]; exact D7.out.putr _)
          clear hw8 c0 c1 c2 c3 c4 c5 c6 c7 c8 c9 c10 z0 z1 z2 z3 z4 z5 z6 z7 z8 z9 z10 D7
          have hoq := or_one q
          have c0 := (D8.out.q 0 _ rfl).1
          have z0 := (D8.out.q 0 _ rfl).2
          have HN2 : Hid (DivS w (w8.setCell ⟨w.heap.size + 1 + 1 + 1 + 1, 0, none⟩ (.int .u64 (limb (2 * q + 1) 0 : Int))) n m (n / 2 ^ j / m) (n / 2 ^ j % m)) := Lib.hid (by
            rw [HP2.out.1, HP2.out.2, HT.out]; exact D8.out.oneq)
          go_wp2_with fail
          go_roundw
          case rel => exact ⟨j, by omega, by go_num, HN2⟩
          case measure => simp [intOf]
      · subst hb1
        clear hb2
        have hor := or_one r
        have c0 := (D4.out.r 0 _ rfl).1
        have z0 := (D4.out.r 0 _ rfl).2
        have D5 := Lib.hid (D4.out.oner)
        obtain ⟨t, ht⟩ : ∃ t, t = 2 * r + 1 := ⟨_, rfl⟩
        rw [← ht] at D5 hor
        have HT : Hid (2 * r + 1 = t) := Lib.hid (by omega)
        have HTL : Hid (t < 4294967296 ^ 10) := Lib.hid (lt10b (by rw [← HT.out]; exact two_lt (HR.out ▸ Nat.mod_lt _ HM.out) HM2.out (by omega)))
        clear ht
        go_upto_region 9 with (fail)
        obtain ⟨w5, hw5⟩ : ∃ w5, w5 = w4.setCell ⟨w.heap.size + 1 + 1 + 1 + 1 + 1, 0, none⟩ (.int .u64 (limb t 0 : Int)) := ⟨_, rfl⟩
        refine swap_world (w' := w5) (hw5.trans rfl) ?_
        rw [← hw5] at D5
        clear hw5 c0 z0 hor ca hand D4
        have c0 := (D5.out.r 0 _ rfl).1
        have c1 := (D5.out.r 1 _ rfl).1
        have c2 := (D5.out.r 2 _ rfl).1
        have c3 := (D5.out.r 3 _ rfl).1
        have c4 := (D5.out.r 4 _ rfl).1
        have c5 := (D5.out.r 5 _ rfl).1
        have c6 := (D5.out.r 6 _ rfl).1
        have c7 := (D5.out.r 7 _ rfl).1
        have c8 := (D5.out.r 8 _ rfl).1
        have c9 := (D5.out.r 9 _ rfl).1
        have c10 := (D5.out.r 10 _ rfl).1
        have e0 := (D5.out.b 0 _ rfl).1
        have e1 := (D5.out.b 1 _ rfl).1
        have e2 := (D5.out.b 2 _ rfl).1
        have e3 := (D5.out.b 3 _ rfl).1
        have e4 := (D5.out.b 4 _ rfl).1
        have e5 := (D5.out.b 5 _ rfl).1
        have e6 := (D5.out.b 6 _ rfl).1
        have e7 := (D5.out.b 7 _ rfl).1
        have e8 := (D5.out.b 8 _ rfl).1
        have e9 := (D5.out.b 9 _ rfl).1
        have e10 := (D5.out.b 10 _ rfl).1
        go_upto_region 10 with (fail)
        refine (less_any t m false false (HTL.out) (lt64 HM2.out) _).mono ?_
        rintro e1 w6 ⟨rfl, hO6⟩
        clear c0 c1 c2 c3 c4 c5 c6 c7 c8 c9 c10 e0 e1 e2 e3 e4 e5 e6 e7 e8 e9 e10
        have D6 := Lib.hid (D5.out.step hO6)
        clear hO6 D5
        by_cases hlt : t < m
        · have hd : decide (t < m) = true := by rw [decide_eq_true_eq]; exact hlt
          have HN2 : Hid (DivS w w6 n m (n / 2 ^ j / m) (n / 2 ^ j % m)) := Lib.hid (by
            have := HP.out.1 (by rw [HT.out]; exact hlt)
            rw [this.1, this.2, HT.out]; exact D6.out)
          clear hlt
          go_wp2_with fail
          go_roundw
          case rel => exact ⟨j, by omega, by go_num, HN2⟩
          case measure => simp [intOf]
        · have hd : decide (t < m) = false := by rw [decide_eq_false_iff_not]; exact hlt
          have HLE : Hid (m ≤ t) := Lib.hid (Nat.le_of_not_lt hlt)
          have HP2 := Lib.hid (HP.out.2 (by rw [HT.out]; exact hlt))
          clear hlt
          have c0 := (D6.out.r 0 _ rfl).1
          have c1 := (D6.out.r 1 _ rfl).1
          have c2 := (D6.out.r 2 _ rfl).1
          have c3 := (D6.out.r 3 _ rfl).1
          have c4 := (D6.out.r 4 _ rfl).1
          have c5 := (D6.out.r 5 _ rfl).1
          have c6 := (D6.out.r 6 _ rfl).1
          have c7 := (D6.out.r 7 _ rfl).1
          have c8 := (D6.out.r 8 _ rfl).1
          have c9 := (D6.out.r 9 _ rfl).1
          have c10 := (D6.out.r 10 _ rfl).1
          have e0 := (D6.out.b 0 _ rfl).1
          have e1 := (D6.out.b 1 _ rfl).1
          have e2 := (D6.out.b 2 _ rfl).1
          have e3 := (D6.out.b 3 _ rfl).1
          have e4 := (D6.out.b 4 _ rfl).1
          have e5 := (D6.out.b 5 _ rfl).1
          have e6 := (D6.out.b 6 _ rfl).1
          have e7 := (D6.out.b 7 _ rfl).1
          have e8 := (D6.out.b 8 _ rfl).1
          have e9 := (D6.out.b 9 _ rfl).1
          have e10 := (D6.out.b 10 _ rfl).1
          go_upto_region 11 with (fail)
          refine (sub_any t m false false HLE.out _).mono ?_
          rintro e1 w7 ⟨rfl, hO7⟩
          rw [big_lits]
          clear c0 c1 c2 c3 c4 c5 c6 c7 c8 c9 c10 e0 e1 e2 e3 e4 e5 e6 e7 e8 e9 e10
          have D7 := Lib.hid (D6.out.step hO7)
          clear hO7 D6
          have c0 := (D7.out.r 0 _ rfl).1
          have z0 := (D7.out.r 0 _ rfl).2
          have c1 := (D7.out.r 1 _ rfl).1
          have z1 := (D7.out.r 1 _ rfl).2
          have c2 := (D7.out.r 2 _ rfl).1
          have z2 := (D7.out.r 2 _ rfl).2
          have c3 := (D7.out.r 3 _ rfl).1
          have z3 := (D7.out.r 3 _ rfl).2
          have c4 := (D7.out.r 4 _ rfl).1
          have z4 := (D7.out.r 4 _ rfl).2
          have c5 := (D7.out.r 5 _ rfl).1
          have z5 := (D7.out.r 5 _ rfl).2
          have c6 := (D7.out.r 6 _ rfl).1
          have z6 := (D7.out.r 6 _ rfl).2
          have c7 := (D7.out.r 7 _ rfl).1
          have z7 := (D7.out.r 7 _ rfl).2
          have c8 := (D7.out.r 8 _ rfl).1
          have z8 := (D7.out.r 8 _ rfl).2
          have c9 := (D7.out.r 9 _ rfl).1
          have z9 := (D7.out.r 9 _ rfl).2
          have c10 := (D7.out.r 10 _ rfl).1
          have z10 := (D7.out.r 10 _ rfl).2
          go_upto_region 11 with (fail)
          obtain ⟨w8, hw8⟩ : ∃ w8, w8 = puts (w.heap.size + 1 + 1 + 1 + 1 + 1) 0 (bigL (limb (t - m))) w7 := ⟨_, rfl⟩
          refine swap_world (w' := w8) (hw8.trans rfl) ?_
          have D8 : Hid (DivS w w8 n m (2 * q) (t - m)) := Lib.hid (by rw [hw8]; exact D7.out.putr _)
          clear hw8 c0 c1 c2 c3 c4 c5 c6 c7 c8 c9 c10 z0 z1 z2 z3 z4 z5 z6 z7 z8 z9 z10 D7
          have hoq := or_one q
          have c0 := (D8.out.q 0 _ rfl).1
          have z0 := (D8.out.q 0 _ rfl).2
          have HN2 : Hid (DivS w (w8.setCell ⟨w.heap.size + 1 + 1 + 1 + 1, 0, none⟩ (.int .u64 (limb (2 * q + 1) 0 : Int))) n m (n / 2 ^ j / m) (n / 2 ^ j % m)) := Lib.hid (by
            rw [HP2.out.1, HP2.out.2, HT.out]; exact D8.out.oneq)
          go_wp2_with fail
          go_roundw
          case rel => exact ⟨j, by omega, by go_num, HN2⟩
          case measure => simp [intOf]
end Go.Proofs.Ytooffbgcaichmaa.bigw
