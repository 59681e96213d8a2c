/- The document's numbers in parts: what Times answers. -/
import Derived.Test.YtonacdjaimokeaaBigIntT
namespace Go.Proofs.Ytonacdjaimokeaa.bigw
open Go.RowKit mem bigm intm
set_option linter.unusedVariables false

/-- one part put anew -/
def upd (D : Nat → Nat) (p x : Nat) : Nat → Nat := fun j => if j = p then x else D j

theorem val_upd_ge (D : Nat → Nat) (p x k : Nat) (h : k ≤ p) : val (upd D p x) k = val D k := by
  induction k with
  | zero => rfl
  | succ k ih =>
    show val (upd D p x) k + upd D p x k * 4294967296 ^ k = val D k + D k * 4294967296 ^ k
    rw [ih (by omega)]
    unfold upd; rw [if_neg (by omega)]

theorem val_upd (D : Nat → Nat) (p x k : Nat) (h : p < k) : val (upd D p x) k + D p * 4294967296 ^ p = val D k + x * 4294967296 ^ p := by
  induction k with
  | zero => omega
  | succ k ih =>
    show val (upd D p x) k + upd D p x k * 4294967296 ^ k + D p * 4294967296 ^ p = val D k + D k * 4294967296 ^ k + x * 4294967296 ^ p
    by_cases e : p = k
    · subst e
      rw [val_upd_ge D p x p (Nat.le_refl _)]
      unfold upd; rw [if_pos rfl]; omega
    · have h1 := ih (by omega)
      have h2 : upd D p x k = D k := by unfold upd; rw [if_neg (by omega)]
      rw [h2]; omega

/-- the state of the product, row i, place k -/
def Mul (n m i k o : Nat) (D : Nat → Nat) : Prop :=
  (∀ j, D j < 4294967296) ∧ (∀ j, i + 5 ≤ j → D j = 0) ∧ o < 4294967296 ∧ val D 10 + o * 4294967296 ^ (i + k) = val (limb n) i * val (limb m) 5 + limb n i * val (limb m) k * 4294967296 ^ i

theorem mul_place {n m i k o : Nat} {D : Nat → Nat} (h : Mul n m i k o D) (hi : i < 5) (hk : k < 5) :
    D (i + k) + limb n i * limb m k + o ≤ 18446744073709551615 ∧ Mul n m i (k + 1) ((D (i + k) + limb n i * limb m k + o) / 4294967296) (upd D (i + k) ((D (i + k) + limb n i * limb m k + o) % 4294967296)) := by
  obtain ⟨h1, h2, h3, h4⟩ := h
  have hd := h1 (i + k)
  have ha := limb_lt n i
  have hb := limb_lt m k
  have hp : limb n i * limb m k ≤ 4294967295 * 4294967295 := Nat.mul_le_mul (by omega) (by omega)
  refine ⟨by omega, ?_, ?_, ?_, ?_⟩
  · intro j
    unfold upd
    split
    · exact Nat.mod_lt _ (by omega)
    · exact h1 j
  · intro j hj
    unfold upd
    rw [if_neg (by omega)]; exact h2 j hj
  · rw [Nat.div_lt_iff_lt_mul (by omega)]; omega
  · obtain ⟨sv, hsv⟩ : ∃ sv, D (i + k) + limb n i * limb m k + o = sv := ⟨_, rfl⟩
    rw [hsv]
    have hu := val_upd D (i + k) (sv % 4294967296) 10 (by omega)
    have hdm := Nat.div_add_mod sv 4294967296
    have e1 : 4294967296 ^ (i + (k + 1)) = 4294967296 ^ (i + k) * 4294967296 := by rw [← Nat.add_assoc, Nat.pow_succ]
    rw [e1]
    have e2 : val (limb m) (k + 1) = val (limb m) k + limb m k * 4294967296 ^ k := rfl
    rw [e2, Nat.mul_add, Nat.add_mul, ← Nat.add_assoc, ← h4]
    have e3 : limb n i * (limb m k * 4294967296 ^ k) * 4294967296 ^ i = limb n i * limb m k * 4294967296 ^ (i + k) := by
      rw [Nat.pow_add, ← Nat.mul_assoc, Nat.mul_assoc (limb n i * limb m k), Nat.mul_comm (4294967296 ^ k)]
    rw [e3]
    have e4 : sv / 4294967296 * (4294967296 ^ (i + k) * 4294967296) = 4294967296 * (sv / 4294967296) * 4294967296 ^ (i + k) := by
      rw [Nat.mul_comm (4294967296 ^ (i + k)) 4294967296, ← Nat.mul_assoc, Nat.mul_comm (sv / 4294967296) 4294967296]
    rw [e4]
    have e5 : 4294967296 * (sv / 4294967296) * 4294967296 ^ (i + k) + sv % 4294967296 * 4294967296 ^ (i + k) = sv * 4294967296 ^ (i + k) := by
      rw [← Nat.add_mul, hdm]
    have e6 : sv * 4294967296 ^ (i + k) = D (i + k) * 4294967296 ^ (i + k) + limb n i * limb m k * 4294967296 ^ (i + k) + o * 4294967296 ^ (i + k) := by
      rw [← hsv, Nat.add_mul, Nat.add_mul]
    generalize 4294967296 * (sv / 4294967296) * 4294967296 ^ (i + k) = q1 at *
    generalize sv % 4294967296 * 4294967296 ^ (i + k) = q2 at *
    generalize limb n i * limb m k * 4294967296 ^ (i + k) = q3 at *
    generalize D (i + k) * 4294967296 ^ (i + k) = q4 at *
    generalize o * 4294967296 ^ (i + k) = q5 at *
    generalize sv * 4294967296 ^ (i + k) = q6 at *
    generalize val (upd D (i + k) (sv % 4294967296)) 10 = q7 at *
    generalize val D 10 = q8 at *
    clear h4 e1 e2 e3 e4 hdm hsv h1 h2 h3
    omega

/-- a row behind -/
theorem mul_row {n m i o : Nat} {D : Nat → Nat} (h : Mul n m i 5 o D) (hi : i < 5) : Mul n m (i + 1) 0 0 (upd D (i + 5) o) := by
  obtain ⟨h1, h2, h3, h4⟩ := h
  refine ⟨?_, ?_, by omega, ?_⟩
  · intro j
    unfold upd
    split
    · exact h3
    · exact h1 j
  · intro j hj
    unfold upd
    rw [if_neg (by omega)]; exact h2 j (by omega)
  · have hu := val_upd D (i + 5) o 10 (by omega)
    rw [h2 (i + 5) (Nat.le_refl _), Nat.zero_mul, Nat.add_zero] at hu
    rw [hu, h4]
    have e : val (limb n) (i + 1) = val (limb n) i + limb n i * 4294967296 ^ i := rfl
    have e2 : val (limb m) 0 = 0 := rfl
    rw [e, e2, Nat.mul_zero, Nat.zero_mul, Nat.add_zero, Nat.add_zero, Nat.add_mul]
    rw [Nat.mul_assoc (limb n i) (4294967296 ^ i), Nat.mul_comm (4294967296 ^ i), ← Nat.mul_assoc]

theorem mul_start (n m : Nat) : Mul n m 0 0 0 (fun _ => 0) := by
  refine ⟨fun j => by show 0 < _; omega, fun j _ => rfl, by omega, ?_⟩
  have : ∀ k, val (fun _ => 0) k = 0 := by
    intro k; induction k with
    | zero => rfl
    | succ k ih => show val (fun _ => 0) k + 0 * _ = 0; rw [ih, Nat.zero_mul]
  rw [this]
  show _ = 0 * val (limb m) 5 + limb n 0 * 0 * 4294967296 ^ 0
  simp

theorem mul_end {n m : Nat} {D : Nat → Nat} (h : Mul n m 5 0 0 D) (hn : n < 4294967296 ^ 5) (hm : m < 4294967296 ^ 5) : ∀ j, j < 10 → D j = limb (n * m) j := by
  obtain ⟨h1, _, _, h4⟩ := h
  have e2 : val (limb m) 0 = 0 := rfl
  rw [e2, Nat.mul_zero, Nat.zero_mul, Nat.add_zero, Nat.add_zero, val_limb, val_limb, Nat.mod_eq_of_lt hn, Nat.mod_eq_of_lt hm] at h4
  intro j hj
  rw [← h4, limb_val D 10 (fun i _ => h1 i) j hj]

theorem cells_upd {w : World} {D : Nat → Nat} {g p x : Nat} (h : ∀ j, j < 10 → w.cell? ⟨g, j, none⟩ = some (.int .u64 (D j : Int))) (hp : p < 10) : ∀ j, j < 10 → (w.setCell ⟨g, p, none⟩ (.int .u64 (x : Int))).cell? ⟨g, j, none⟩ = some (.int .u64 (upd D p x j : Int)) := by
  intro j hj
  unfold upd
  by_cases e : j = p
  · subst e
    rw [cell_same (h j hj), if_pos rfl]
  · rw [cell_other (off_ne (by omega)), h j hj, if_neg e]

/-- four numbers boxed -/
def boxes4 (w : World) (A B : Nat → Nat) (s t : Bool) (ty : TypeId) : World := (boxes w A B (fun _ => 0) s t false ty).alloc (.cells (bigC (fun _ => 0) false) ty)

/-- what holds at the heads of the product's loops -/
def Head (w wr : World) (n m : Nat) (s t : Bool) (i k o : Nat) : Prop :=
  ∃ D, Mul n m i k o D ∧ (∀ j, j < 10 → wr.cell? ⟨w.heap.size + 1 + 1 + 1, j, none⟩ = some (.int .u64 (D j : Int))) ∧ (∀ j, j < 11 → wr.frozen? ⟨w.heap.size + 1 + 1 + 1, j, none⟩ = false) ∧
    wr.cell? ⟨w.heap.size + 1 + 1 + 1, 10, none⟩ = some (.bool false) ∧ Only (fun q => q = w.heap.size + 1 + 1 + 1) (boxes4 w (limb n) (limb m) s t 114) wr

theorem head_start (w : World) (n m : Nat) (s t : Bool) : Head w (boxes4 w (limb n) (limb m) s t 114) n m s t 0 0 0 := by
  have hs := boxes_size w (limb n) (limb m) (fun _ => 0) s t false 114
  refine ⟨fun _ => 0, mul_start n m, ?_, ?_, ?_, Only.refl _ _⟩
  · intro j hj
    exact (cell_new (boxes w (limb n) (limb m) (fun _ => 0) s t false 114) (fun _ => 0) false _ (w.heap.size + 1 + 1 + 1) (by omega) j).trans (bigC_get _ _ j hj)
  · intro j hj
    exact frozen_new _ _ _ _ j (by omega)
  · exact cell_new (boxes w (limb n) (limb m) (fun _ => 0) s t false 114) (fun _ => 0) false _ (w.heap.size + 1 + 1 + 1) (by omega) 10

theorem head_place {w wr : World} {n m : Nat} {s t : Bool} {i k o : Nat} (h : Head w wr n m s t i k o) (hi : i < 5) (hk : k < 5) : ∃ d : Nat, wr.cell? ⟨w.heap.size + 1 + 1 + 1, i + k, none⟩ = some (.int .u64 (d : Int)) ∧
    d + limb n i * limb m k + o ≤ 18446744073709551615 ∧ Head w ((wr.setCell ⟨w.heap.size + 1 + 1 + 1, i + k, none⟩ (.int .u64 (((d + limb n i * limb m k + o) % 4294967296 : Nat) : Int))).drew) n m s t i (k + 1) ((d + limb n i * limb m k + o) / 4294967296) := by
  obtain ⟨D, h1, h2, h3, h4, h5⟩ := h
  obtain ⟨hb, hM⟩ := mul_place h1 hi hk
  refine ⟨D (i + k), h2 (i + k) (by omega), hb, _, hM, cells_upd h2 (by omega), ?_, ?_, ?_⟩
  · intro j hj
    show (wr.setCell ⟨w.heap.size + 1 + 1 + 1, i + k, none⟩ _).frozen? _ = _
    rw [frozen_set]; exact h3 j hj
  · show (wr.setCell ⟨w.heap.size + 1 + 1 + 1, i + k, none⟩ _).cell? _ = _
    rw [cell_other (off_ne (by omega))]; exact h4
  · exact (h5.setCell (p := ⟨w.heap.size + 1 + 1 + 1, i + k, none⟩) (.inl rfl) _).drew

theorem head_row {w wr : World} {n m : Nat} {s t : Bool} {i o : Nat} (h : Head w wr n m s t i 5 o) (hi : i < 5) : (∃ d : Nat, wr.cell? ⟨w.heap.size + 1 + 1 + 1, i + 5, none⟩ = some (.int .u64 (d : Int))) ∧
    Head w (wr.setCell ⟨w.heap.size + 1 + 1 + 1, i + 5, none⟩ (.int .u64 (o : Int))) n m s t (i + 1) 0 0 := by
  obtain ⟨D, h1, h2, h3, h4, h5⟩ := h
  refine ⟨⟨_, h2 (i + 5) (by omega)⟩, _, mul_row h1 hi, cells_upd h2 (by omega), ?_, ?_, ?_⟩
  · intro j hj
    rw [frozen_set]; exact h3 j hj
  · rw [cell_other (off_ne (by omega))]; exact h4
  · exact h5.setCell (p := ⟨w.heap.size + 1 + 1 + 1, i + 5, none⟩) (.inl rfl) _

theorem head_fr {w wr : World} {n m : Nat} {s t : Bool} {i k o : Nat} (h : Head w wr n m s t i k o) : ∀ j, j < 11 → wr.frozen? ⟨w.heap.size + 1 + 1 + 1, j, none⟩ = false := by
  obtain ⟨D, h1, h2, h3, h4, h5⟩ := h; exact h3
theorem head_only {w wr : World} {n m : Nat} {s t : Bool} {i k o : Nat} (h : Head w wr n m s t i k o) : Only (fun q => q = w.heap.size + 1 + 1 + 1) (boxes w (limb n) (limb m) (fun _ => 0) s t false 114) wr := by
  obtain ⟨D, h1, h2, h3, h4, h5⟩ := h
  have hs := boxes_size w (limb n) (limb m) (fun _ => 0) s t false 114
  exact ((Only.refl _ _).alloc _).trans (⟨h5.os, h5.tape, h5.output, h5.size, h5.block⟩)

theorem mul_small {n m : Nat} (hn : n < 4294967296 ^ 5) (hm : m < 4294967296 ^ 5) : n * m < 4294967296 ^ 10 := by
  have e : (4294967296 : Nat) ^ 10 = 4294967296 ^ 5 * 4294967296 ^ 5 := by rw [← Nat.pow_add]
  rw [e]
  exact Nat.mul_lt_mul_of_lt_of_le hn (Nat.le_of_lt hm) (Nat.pow_pos (by omega))

theorem sb_mul {x y : Int} {n m : Nat} {s t zb : Bool} (h : x.natAbs = n ∧ y.natAbs = m ∧ decide (x < 0) = s ∧ decide (y < 0) = t) (hz : decide (n * m = 0) = zb) : sb (x * y) = big (limb (n * m)) ((s != t) && !zb) := by
  obtain ⟨hn, hm, hs, ht⟩ := h
  unfold sb
  rw [Int.natAbs_mul, hn, hm]
  have e : decide (x * y < 0) = ((s != t) && !zb) := by
    rw [← hz, ← hs, ← ht, ← hn, ← hm]
    by_cases hx0 : x = 0
    · subst hx0; simp
    · by_cases hy0 : y = 0
      · subst hy0; simp
      · have hnz : ¬ (x.natAbs * y.natAbs = 0) := by
          rw [Nat.mul_eq_zero]; omega
        by_cases h1 : x < 0 <;> by_cases h2 : y < 0
        · have : 0 < x * y := Int.mul_pos_of_neg_of_neg h1 h2
          simp [h1, h2]; omega
        · have : x * y < 0 := Int.mul_neg_of_neg_of_pos h1 (by omega)
          simp [h1, h2, this, hnz]
        · have : x * y < 0 := Int.mul_neg_of_pos_of_neg (by omega) h2
          simp [h1, h2, this, hnz]
        · have : 0 < x * y := Int.mul_pos (by omega) (by omega)
          simp [h1, h2]; omega
  rw [e]

set_option maxRecDepth 100000 in
set_option maxHeartbeats 4000000 in
theorem times_any (x y : Int) (hx : x.natAbs < 4294967296 ^ 5) (hy : y.natAbs < 4294967296 ^ 5) (w : World) :
    Calls Try.prog 61 #[sb x, sb y] w fun e w' => e = .returned (sb (x * y)) ∧ Only (fun _ => False) w w' := by
  obtain ⟨n, hn⟩ : ∃ n, x.natAbs = n := ⟨_, rfl⟩
  obtain ⟨m, hm⟩ : ∃ m, y.natAbs = m := ⟨_, rfl⟩
  obtain ⟨s, hs⟩ : ∃ s, decide (x < 0) = s := ⟨_, rfl⟩
  obtain ⟨t, ht⟩ : ∃ t, decide (y < 0) = t := ⟨_, rfl⟩
  have HX : Hid (sb x = big (limb n) s) := Lib.hid (by unfold sb; rw [hn, hs])
  have HY : Hid (sb y = big (limb m) t) := Lib.hid (by unfold sb; rw [hm, ht])
  have HNM : Hid (n < 4294967296 ^ 5 ∧ m < 4294967296 ^ 5) := Lib.hid ⟨by rw [← hn]; exact hx, by rw [← hm]; exact hy⟩
  rw [HX.out, HY.out]
  have B1 := Lib.hid (boxes_one w (limb n) (limb m) (fun _ => 0) s t false 114)
  have B2 := Lib.hid (boxes_two w (limb n) (limb m) (fun _ => 0) s t false 114)
  have B3 := Lib.hid (boxes_three w (limb n) (limb m) (fun _ => 0) s t false 114)
  have BS := Lib.hid (boxes_size w (limb n) (limb m) (fun _ => 0) s t false 114)
  have BO := Lib.hid (boxes_only w (limb n) (limb m) (fun _ => 0) s t false 114)
  have HST := Lib.hid (And.intro hn (And.intro hm (And.intro hs ht)))
  clear hx hy hn hm hs ht
  unfold big
  go_enter Try.func61, Try.ntmps61
  go_wp2_with fail
  go_loopw [6] (fun q wr => ∃ i : Nat, i ≤ 5 ∧ q = .int .i64 (i : Int) ∧ Hid (Head w wr n m s t i 0 0)) (fun q _ => 5 - (intOf q).toNat)
  case atStart => exact ⟨0, by omega, rfl, Lib.hid (head_start w n m s t)⟩
  case round =>
    obtain ⟨i, hi, rfl, HH⟩ := hrel
    by_cases hi5 : i < 5
    · go_wp2_with fail
      go_loopw [7, 8] (fun ov q w2 => ∃ k o : Nat, k ≤ 5 ∧ q = .int .i64 (k : Int) ∧ ov = .int .u64 (o : Int) ∧ Hid (Head w w2 n m s t i k o)) (fun _ q _ => 5 - (intOf q).toNat)
      case atStart => exact ⟨0, 0, by omega, rfl, rfl, HH⟩
      case round =>
        clear HH
        obtain ⟨k, o, hk, rfl, rfl, HH⟩ := hrel
        by_cases hk5 : k < 5
        · obtain ⟨d, hd, hsb, hnext⟩ := head_place HH.out hi5 hk5
          have HO := Lib.hid (head_only HH.out)
          have x1 := HO.out.cell' (B1.out i _ (bigC_get _ _ i (by omega))).1 (by show ¬ w.heap.size = w.heap.size + 1 + 1 + 1; omega)
          have x2 := HO.out.cell' (B2.out k _ (bigC_get _ _ k (by omega))) (by show ¬ w.heap.size + 1 = w.heap.size + 1 + 1 + 1; omega)
          have xf := head_fr HH.out (i + k) (by omega)
          have HN := Lib.hid hnext
          clear hnext
          obtain ⟨a, ha⟩ : ∃ a, limb n i = a := ⟨_, rfl⟩
          obtain ⟨b, hb⟩ : ∃ b, limb m k = b := ⟨_, rfl⟩
          rw [ha, hb] at HN hsb
          rw [ha] at x1
          rw [hb] at x2
          obtain ⟨p, hp⟩ : ∃ p, a * b = p := ⟨_, rfl⟩
          rw [hp] at HN hsb
          have hpi : (a : Int) * (b : Int) = (p : Int) := by rw [← hp]; exact (Int.natCast_mul a b).symm
          have hand := and_low ((d : Int) + (p : Int) + (o : Int)) (by omega) (by omega)
          clear ha hb hp HH
          go_wp2_with fail
          go_region
          all_goals
            clear hpi
            go_wp2_with fail
            go_roundw
            case rel => exact ⟨k + 1, (d + p + o) / 4294967296, by omega, by go_num, by go_num, HN⟩
            case measure => simp [intOf]; omega
        · obtain rfl : k = 5 := by omega
          obtain ⟨⟨d, hd⟩, hnext⟩ := head_row HH.out hi5
          have xf := head_fr HH.out (i + 5) (by omega)
          have HN := Lib.hid hnext
          clear hnext HH
          go_wp2_with fail
          go_roundw
          case rel => exact ⟨i + 1, by omega, by go_num, HN⟩
          case measure => simp [intOf]; omega
    · obtain rfl : i = 5 := by omega
      have HO := Lib.hid (head_only HH.out)
      obtain ⟨D, hM, hc, hf, hb, _⟩ := HH.out
      have hD := mul_end hM HNM.out.1 HNM.out.2
      have HC : Hid (∀ j, j < 10 → wr.cell? ⟨w.heap.size + 1 + 1 + 1, j, none⟩ = some (.int .u64 (limb (n * m) j : Int))) := Lib.hid (fun j hj => by rw [hc j hj, hD j hj])
      have HF := Lib.hid hf
      have HCB := Lib.hid hb
      have OW := Lib.hid (BO.out.then HO.out (fun i hi e => by omega))
      have HNMP : Hid (n * m < 4294967296 ^ 10) := Lib.hid (mul_small HNM.out.1 HNM.out.2)
      have HZ : Hid (allZero (limb (n * m)) = decide (n * m = 0)) := Lib.hid (allZero_limb HNMP.out)
      clear hM hc hf hb hD HH
      obtain ⟨zb, hzb⟩ : ∃ zb, decide (n * m = 0) = zb := ⟨_, rfl⟩
      have hres : Hid (sb (x * y) = big (limb (n * m)) ((s != t) && !zb)) := Lib.hid (sb_mul HST.out hzb)
      rw [hzb] at HZ
      clear hzb
      by_cases hst : s = t
      · subst hst
        have hss : (s != s) = false := by cases s <;> rfl
        have a10 := HO.out.cell' (B1.out 10 (.bool s) rfl).1 (by show ¬ w.heap.size = w.heap.size + 1 + 1 + 1; omega)
        have b10 := HO.out.cell' (B2.out 10 (.bool s) rfl) (by show ¬ w.heap.size + 1 = w.heap.size + 1 + 1 + 1; omega)
        have c0 := HC.out 0 (by omega)
        have c1 := HC.out 1 (by omega)
        have c2 := HC.out 2 (by omega)
        have c3 := HC.out 3 (by omega)
        have c4 := HC.out 4 (by omega)
        have c5 := HC.out 5 (by omega)
        have c6 := HC.out 6 (by omega)
        have c7 := HC.out 7 (by omega)
        have c8 := HC.out 8 (by omega)
        have c9 := HC.out 9 (by omega)
        have c10 := HCB.out
        have fc10 := HF.out 10 (by omega)
        have r0 := HO.out.cell' (B3.out 0 _ rfl).1 (by show ¬ w.heap.size + 1 + 1 = w.heap.size + 1 + 1 + 1; omega)
        have r1 := HO.out.cell' (B3.out 1 _ rfl).1 (by show ¬ w.heap.size + 1 + 1 = w.heap.size + 1 + 1 + 1; omega)
        have r2 := HO.out.cell' (B3.out 2 _ rfl).1 (by show ¬ w.heap.size + 1 + 1 = w.heap.size + 1 + 1 + 1; omega)
        have r3 := HO.out.cell' (B3.out 3 _ rfl).1 (by show ¬ w.heap.size + 1 + 1 = w.heap.size + 1 + 1 + 1; omega)
        have r4 := HO.out.cell' (B3.out 4 _ rfl).1 (by show ¬ w.heap.size + 1 + 1 = w.heap.size + 1 + 1 + 1; omega)
        have r5 := HO.out.cell' (B3.out 5 _ rfl).1 (by show ¬ w.heap.size + 1 + 1 = w.heap.size + 1 + 1 + 1; omega)
        have r6 := HO.out.cell' (B3.out 6 _ rfl).1 (by show ¬ w.heap.size + 1 + 1 = w.heap.size + 1 + 1 + 1; omega)
        have r7 := HO.out.cell' (B3.out 7 _ rfl).1 (by show ¬ w.heap.size + 1 + 1 = w.heap.size + 1 + 1 + 1; omega)
        have r8 := HO.out.cell' (B3.out 8 _ rfl).1 (by show ¬ w.heap.size + 1 + 1 = w.heap.size + 1 + 1 + 1; omega)
        have r9 := HO.out.cell' (B3.out 9 _ rfl).1 (by show ¬ w.heap.size + 1 + 1 = w.heap.size + 1 + 1 + 1; omega)
        have r10 := HO.out.cell' (B3.out 10 _ rfl).1 (by show ¬ w.heap.size + 1 + 1 = w.heap.size + 1 + 1 + 1; omega)
        have z0 := (HO.out.frozen (p := ⟨w.heap.size + 1 + 1, 0, none⟩) (by have := BS.out; show w.heap.size + 1 + 1 < _; omega) (by show ¬ w.heap.size + 1 + 1 = w.heap.size + 1 + 1 + 1; omega)).trans (B3.out 0 _ rfl).2
        have z1 := (HO.out.frozen (p := ⟨w.heap.size + 1 + 1, 1, none⟩) (by have := BS.out; show w.heap.size + 1 + 1 < _; omega) (by show ¬ w.heap.size + 1 + 1 = w.heap.size + 1 + 1 + 1; omega)).trans (B3.out 1 _ rfl).2
        have z2 := (HO.out.frozen (p := ⟨w.heap.size + 1 + 1, 2, none⟩) (by have := BS.out; show w.heap.size + 1 + 1 < _; omega) (by show ¬ w.heap.size + 1 + 1 = w.heap.size + 1 + 1 + 1; omega)).trans (B3.out 2 _ rfl).2
        have z3 := (HO.out.frozen (p := ⟨w.heap.size + 1 + 1, 3, none⟩) (by have := BS.out; show w.heap.size + 1 + 1 < _; omega) (by show ¬ w.heap.size + 1 + 1 = w.heap.size + 1 + 1 + 1; omega)).trans (B3.out 3 _ rfl).2
        have z4 := (HO.out.frozen (p := ⟨w.heap.size + 1 + 1, 4, none⟩) (by have := BS.out; show w.heap.size + 1 + 1 < _; omega) (by show ¬ w.heap.size + 1 + 1 = w.heap.size + 1 + 1 + 1; omega)).trans (B3.out 4 _ rfl).2
        have z5 := (HO.out.frozen (p := ⟨w.heap.size + 1 + 1, 5, none⟩) (by have := BS.out; show w.heap.size + 1 + 1 < _; omega) (by show ¬ w.heap.size + 1 + 1 = w.heap.size + 1 + 1 + 1; omega)).trans (B3.out 5 _ rfl).2
        have z6 := (HO.out.frozen (p := ⟨w.heap.size + 1 + 1, 6, none⟩) (by have := BS.out; show w.heap.size + 1 + 1 < _; omega) (by show ¬ w.heap.size + 1 + 1 = w.heap.size + 1 + 1 + 1; omega)).trans (B3.out 6 _ rfl).2
        have z7 := (HO.out.frozen (p := ⟨w.heap.size + 1 + 1, 7, none⟩) (by have := BS.out; show w.heap.size + 1 + 1 < _; omega) (by show ¬ w.heap.size + 1 + 1 = w.heap.size + 1 + 1 + 1; omega)).trans (B3.out 7 _ rfl).2
        have z8 := (HO.out.frozen (p := ⟨w.heap.size + 1 + 1, 8, none⟩) (by have := BS.out; show w.heap.size + 1 + 1 < _; omega) (by show ¬ w.heap.size + 1 + 1 = w.heap.size + 1 + 1 + 1; omega)).trans (B3.out 8 _ rfl).2
        have z9 := (HO.out.frozen (p := ⟨w.heap.size + 1 + 1, 9, none⟩) (by have := BS.out; show w.heap.size + 1 + 1 < _; omega) (by show ¬ w.heap.size + 1 + 1 = w.heap.size + 1 + 1 + 1; omega)).trans (B3.out 9 _ rfl).2
        have z10 := (HO.out.frozen (p := ⟨w.heap.size + 1 + 1, 10, none⟩) (by have := BS.out; show w.heap.size + 1 + 1 < _; omega) (by show ¬ w.heap.size + 1 + 1 = w.heap.size + 1 + 1 + 1; omega)).trans (B3.out 10 _ rfl).2
        have hv : Hid (((s != s) && !zb) = false) := Lib.hid (by rw [hss]; rfl)
        go_wp2
        rw [hres.out, hv.out]
        refine bodyPost_ret (v := .agg #[.int .u64 (limb (n * m) 0 : Int), .int .u64 (limb (n * m) 1 : Int), .int .u64 (limb (n * m) 2 : Int), .int .u64 (limb (n * m) 3 : Int), .int .u64 (limb (n * m) 4 : Int), .int .u64 (limb (n * m) 5 : Int), .int .u64 (limb (n * m) 6 : Int), .int .u64 (limb (n * m) 7 : Int), .int .u64 (limb (n * m) 8 : Int), .int .u64 (limb (n * m) 9 : Int), .bool false]) (by simp [results, Try.results61, go_sem, r0, r1, r2, r3, r4, r5, r6, r7, r8, r9, r10]) rfl ⟨rfl, ?_⟩
        repeat (refine Only.setCell ?_ (.inr (by first | (show w.heap.size ≤ w.heap.size + 1 + 1; omega) | (show w.heap.size ≤ w.heap.size + 1 + 1 + 1; omega))) _)
        exact OW.out
      · have hss : (s != t) = true := by rw [bne_iff_ne]; exact hst
        have hv : Hid (((s != t) && !zb) = !zb) := Lib.hid (by rw [hss]; rfl)
        clear hss
        have a10 := HO.out.cell' (B1.out 10 (.bool s) rfl).1 (by show ¬ w.heap.size = w.heap.size + 1 + 1 + 1; omega)
        have b10 := HO.out.cell' (B2.out 10 (.bool t) rfl) (by show ¬ w.heap.size + 1 = w.heap.size + 1 + 1 + 1; omega)
        cases s <;> cases t <;> first | exact absurd rfl hst | skip
        all_goals
          have c0 := HC.out 0 (by omega)
          have c1 := HC.out 1 (by omega)
          have c2 := HC.out 2 (by omega)
          have c3 := HC.out 3 (by omega)
          have c4 := HC.out 4 (by omega)
          have c5 := HC.out 5 (by omega)
          have c6 := HC.out 6 (by omega)
          have c7 := HC.out 7 (by omega)
          have c8 := HC.out 8 (by omega)
          have c9 := HC.out 9 (by omega)
          have c10 := HCB.out
          clear hst
          go_wp2_with fail
          refine (zero_any (limb (n * m)) false _).mono ?_
          rintro e1 w1 ⟨rfl, hO1⟩
          rw [HZ.out]
          have HO1 := Lib.hid (HO.out.then hO1 (fun _ _ f => f.elim))
          have d0 := hO1.cell' c0 (fun f => f)
          have d1 := hO1.cell' c1 (fun f => f)
          have d2 := hO1.cell' c2 (fun f => f)
          have d3 := hO1.cell' c3 (fun f => f)
          have d4 := hO1.cell' c4 (fun f => f)
          have d5 := hO1.cell' c5 (fun f => f)
          have d6 := hO1.cell' c6 (fun f => f)
          have d7 := hO1.cell' c7 (fun f => f)
          have d8 := hO1.cell' c8 (fun f => f)
          have d9 := hO1.cell' c9 (fun f => f)
          have d10 := hO1.cell' c10 (fun f => f)
          have fd10 := (hO1.frozen (p := ⟨w.heap.size + 1 + 1 + 1, 10, none⟩) (World.block_lt_of_cell? wr _ c10) (fun f => f)).trans (HF.out 10 (by omega))
          have r0 := HO1.out.cell' (B3.out 0 _ rfl).1 (by show ¬ w.heap.size + 1 + 1 = w.heap.size + 1 + 1 + 1; omega)
          have r1 := HO1.out.cell' (B3.out 1 _ rfl).1 (by show ¬ w.heap.size + 1 + 1 = w.heap.size + 1 + 1 + 1; omega)
          have r2 := HO1.out.cell' (B3.out 2 _ rfl).1 (by show ¬ w.heap.size + 1 + 1 = w.heap.size + 1 + 1 + 1; omega)
          have r3 := HO1.out.cell' (B3.out 3 _ rfl).1 (by show ¬ w.heap.size + 1 + 1 = w.heap.size + 1 + 1 + 1; omega)
          have r4 := HO1.out.cell' (B3.out 4 _ rfl).1 (by show ¬ w.heap.size + 1 + 1 = w.heap.size + 1 + 1 + 1; omega)
          have r5 := HO1.out.cell' (B3.out 5 _ rfl).1 (by show ¬ w.heap.size + 1 + 1 = w.heap.size + 1 + 1 + 1; omega)
          have r6 := HO1.out.cell' (B3.out 6 _ rfl).1 (by show ¬ w.heap.size + 1 + 1 = w.heap.size + 1 + 1 + 1; omega)
          have r7 := HO1.out.cell' (B3.out 7 _ rfl).1 (by show ¬ w.heap.size + 1 + 1 = w.heap.size + 1 + 1 + 1; omega)
          have r8 := HO1.out.cell' (B3.out 8 _ rfl).1 (by show ¬ w.heap.size + 1 + 1 = w.heap.size + 1 + 1 + 1; omega)
          have r9 := HO1.out.cell' (B3.out 9 _ rfl).1 (by show ¬ w.heap.size + 1 + 1 = w.heap.size + 1 + 1 + 1; omega)
          have r10 := HO1.out.cell' (B3.out 10 _ rfl).1 (by show ¬ w.heap.size + 1 + 1 = w.heap.size + 1 + 1 + 1; omega)
          have z0 := (HO1.out.frozen (p := ⟨w.heap.size + 1 + 1, 0, none⟩) (by have := BS.out; show w.heap.size + 1 + 1 < _; omega) (by show ¬ w.heap.size + 1 + 1 = w.heap.size + 1 + 1 + 1; omega)).trans (B3.out 0 _ rfl).2
          have z1 := (HO1.out.frozen (p := ⟨w.heap.size + 1 + 1, 1, none⟩) (by have := BS.out; show w.heap.size + 1 + 1 < _; omega) (by show ¬ w.heap.size + 1 + 1 = w.heap.size + 1 + 1 + 1; omega)).trans (B3.out 1 _ rfl).2
          have z2 := (HO1.out.frozen (p := ⟨w.heap.size + 1 + 1, 2, none⟩) (by have := BS.out; show w.heap.size + 1 + 1 < _; omega) (by show ¬ w.heap.size + 1 + 1 = w.heap.size + 1 + 1 + 1; omega)).trans (B3.out 2 _ rfl).2
          have z3 := (HO1.out.frozen (p := ⟨w.heap.size + 1 + 1, 3, none⟩) (by have := BS.out; show w.heap.size + 1 + 1 < _; omega) (by show ¬ w.heap.size + 1 + 1 = w.heap.size + 1 + 1 + 1; omega)).trans (B3.out 3 _ rfl).2
          have z4 := (HO1.out.frozen (p := ⟨w.heap.size + 1 + 1, 4, none⟩) (by have := BS.out; show w.heap.size + 1 + 1 < _; omega) (by show ¬ w.heap.size + 1 + 1 = w.heap.size + 1 + 1 + 1; omega)).trans (B3.out 4 _ rfl).2
          have z5 := (HO1.out.frozen (p := ⟨w.heap.size + 1 + 1, 5, none⟩) (by have := BS.out; show w.heap.size + 1 + 1 < _; omega) (by show ¬ w.heap.size + 1 + 1 = w.heap.size + 1 + 1 + 1; omega)).trans (B3.out 5 _ rfl).2
          have z6 := (HO1.out.frozen (p := ⟨w.heap.size + 1 + 1, 6, none⟩) (by have := BS.out; show w.heap.size + 1 + 1 < _; omega) (by show ¬ w.heap.size + 1 + 1 = w.heap.size + 1 + 1 + 1; omega)).trans (B3.out 6 _ rfl).2
          have z7 := (HO1.out.frozen (p := ⟨w.heap.size + 1 + 1, 7, none⟩) (by have := BS.out; show w.heap.size + 1 + 1 < _; omega) (by show ¬ w.heap.size + 1 + 1 = w.heap.size + 1 + 1 + 1; omega)).trans (B3.out 7 _ rfl).2
          have z8 := (HO1.out.frozen (p := ⟨w.heap.size + 1 + 1, 8, none⟩) (by have := BS.out; show w.heap.size + 1 + 1 < _; omega) (by show ¬ w.heap.size + 1 + 1 = w.heap.size + 1 + 1 + 1; omega)).trans (B3.out 8 _ rfl).2
          have z9 := (HO1.out.frozen (p := ⟨w.heap.size + 1 + 1, 9, none⟩) (by have := BS.out; show w.heap.size + 1 + 1 < _; omega) (by show ¬ w.heap.size + 1 + 1 = w.heap.size + 1 + 1 + 1; omega)).trans (B3.out 9 _ rfl).2
          have z10 := (HO1.out.frozen (p := ⟨w.heap.size + 1 + 1, 10, none⟩) (by have := BS.out; show w.heap.size + 1 + 1 < _; omega) (by show ¬ w.heap.size + 1 + 1 = w.heap.size + 1 + 1 + 1; omega)).trans (B3.out 10 _ rfl).2
          have OW1 := Lib.hid (OW.out.trans hO1)
          clear hO1 c0 c1 c2 c3 c4 c5 c6 c7 c8 c9 c10 a10 b10
          go_wp2
          rw [hres.out, hv.out]
          refine bodyPost_ret (v := .agg #[.int .u64 (limb (n * m) 0 : Int), .int .u64 (limb (n * m) 1 : Int), .int .u64 (limb (n * m) 2 : Int), .int .u64 (limb (n * m) 3 : Int), .int .u64 (limb (n * m) 4 : Int), .int .u64 (limb (n * m) 5 : Int), .int .u64 (limb (n * m) 6 : Int), .int .u64 (limb (n * m) 7 : Int), .int .u64 (limb (n * m) 8 : Int), .int .u64 (limb (n * m) 9 : Int), .bool !zb]) (by simp [results, Try.results61, go_sem, r0, r1, r2, r3, r4, r5, r6, r7, r8, r9, r10]) rfl ⟨rfl, ?_⟩
          repeat (refine Only.setCell ?_ (.inr (by first | (show w.heap.size ≤ w.heap.size + 1 + 1; omega) | (show w.heap.size ≤ w.heap.size + 1 + 1 + 1; omega))) _)
          exact OW1.out
end Go.Proofs.Ytonacdjaimokeaa.bigw
