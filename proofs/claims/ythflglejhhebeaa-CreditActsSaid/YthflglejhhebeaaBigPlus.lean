/- The document's numbers in parts: what zero, Plus, Minus and Int answer. -/
import Derived.Test.YthflglejhhebeaaBigAdd
import Derived.ChangeKeysEq
namespace Go.Proofs.Ythflglejhhebeaa.bigw
open Go.RowKit mem bigm
set_option linter.unusedVariables false

theorem items_eq (w : World) (d : Nat) (xs ys : Array Value) (A B : Nat → Nat) : ∀ (is : List Nat), (∀ i ∈ is, xs[i]? = some (.int .u64 (A i : Int)) ∧ ys[i]? = some (.int .u64 (B i : Int))) →
    ∃ r : Bool, (Op.eqItems (d + 1) 55 1 xs ys is).run Try.prog w = .ok r w ∧ (r = true ↔ ∀ i ∈ is, A i = B i) := by
  intro is
  induction is with
  | nil => intro _; exact ⟨true, by simp [Op.eqItems], by simp⟩
  | cons i is ih =>
    intro h
    obtain ⟨h1, h2⟩ := h i (by simp)
    obtain ⟨r, hr, hiff⟩ := ih (fun j hj => h j (by simp [hj]))
    have hpk : Try.prog.plainKey 55 = true := by kernel_rfl
    have p1 := run_part_plain (P := Try.prog) (w := w) hpk (xs := xs) (off := i * 1) (v := .int .u64 (A i : Int)) (by rw [Nat.mul_one]; exact h1)
    have p2 := run_part_plain (P := Try.prog) (w := w) hpk (xs := ys) (off := i * 1) (v := .int .u64 (B i : Int)) (by rw [Nat.mul_one]; exact h2)
    have p3 := run_equalIn_int (P := Try.prog) w d 55 .u64 .u64 (A i : Int) (B i : Int) Try.underlying55
    simp only [Op.eqItems, Sem.run_bind, p1, p2, p3, Result.andThen_ok]
    by_cases hab : A i = B i
    · have : ((A i : Int) == (B i : Int)) = true := by rw [beq_iff_eq]; omega
      rw [this]
      refine ⟨r, by simpa using hr, ?_⟩
      rw [hiff]; simp [hab]
    · have : ((A i : Int) == (B i : Int)) = false := by rw [beq_eq_false_iff_ne]; omega
      rw [this]
      exact ⟨false, by simp, by simp [hab]⟩

/-- a number is none if all its parts are -/
def allZero (A : Nat → Nat) : Bool := (List.range 10).all fun i => A i == 0

theorem eq_zero_run (w : World) (A : Nat → Nat) :
    (Op.equalIn 10000 123 (.agg #[.int .u64 (A 0 : Int), .int .u64 (A 1 : Int), .int .u64 (A 2 : Int), .int .u64 (A 3 : Int), .int .u64 (A 4 : Int), .int .u64 (A 5 : Int), .int .u64 (A 6 : Int), .int .u64 (A 7 : Int), .int .u64 (A 8 : Int), .int .u64 (A 9 : Int)])
      (.agg #[.int .u64 0, .int .u64 0, .int .u64 0, .int .u64 0, .int .u64 0, .int .u64 0, .int .u64 0, .int .u64 0, .int .u64 0, .int .u64 0])).run Try.prog w = .ok (allZero A) w := by
  obtain ⟨i0, hi, _⟩ : ∃ i, Try.prog.info? 55 = some i ∧ True := by
    have h : (Try.prog.info? 55).isSome = true := by kernel_rfl
    exact ⟨_, (Option.some_get h).symm, trivial⟩
  have hc : Try.prog.cellsOf 55 = 1 := by kernel_rfl
  have h1 := run_equalIn_array (P := Try.prog) w 9999 (t := 123) (e := 55) (n := 10) #[.int .u64 (A 0 : Int), .int .u64 (A 1 : Int), .int .u64 (A 2 : Int), .int .u64 (A 3 : Int), .int .u64 (A 4 : Int), .int .u64 (A 5 : Int), .int .u64 (A 6 : Int), .int .u64 (A 7 : Int), .int .u64 (A 8 : Int), .int .u64 (A 9 : Int)]
    #[.int .u64 0, .int .u64 0, .int .u64 0, .int .u64 0, .int .u64 0, .int .u64 0, .int .u64 0, .int .u64 0, .int .u64 0, .int .u64 0] Try.underlying123 hi
  rw [h1, hc]
  obtain ⟨r, hr, hiff⟩ := items_eq w 9998 #[.int .u64 (A 0 : Int), .int .u64 (A 1 : Int), .int .u64 (A 2 : Int), .int .u64 (A 3 : Int), .int .u64 (A 4 : Int), .int .u64 (A 5 : Int), .int .u64 (A 6 : Int), .int .u64 (A 7 : Int), .int .u64 (A 8 : Int), .int .u64 (A 9 : Int)]
    #[.int .u64 0, .int .u64 0, .int .u64 0, .int .u64 0, .int .u64 0, .int .u64 0, .int .u64 0, .int .u64 0, .int .u64 0, .int .u64 0] A (fun _ => 0) (List.range 10) (by
      intro i hi
      rw [List.mem_range] at hi
      match i, hi with
      | 0, _ => exact ⟨rfl, rfl⟩
      | 1, _ => exact ⟨rfl, rfl⟩
      | 2, _ => exact ⟨rfl, rfl⟩
      | 3, _ => exact ⟨rfl, rfl⟩
      | 4, _ => exact ⟨rfl, rfl⟩
      | 5, _ => exact ⟨rfl, rfl⟩
      | 6, _ => exact ⟨rfl, rfl⟩
      | 7, _ => exact ⟨rfl, rfl⟩
      | 8, _ => exact ⟨rfl, rfl⟩
      | 9, _ => exact ⟨rfl, rfl⟩)
  rw [hr]
  have : r = allZero A := by
    rw [Bool.eq_iff_iff, hiff]
    unfold allZero
    simp [List.all_eq_true]
  rw [this]

set_option maxRecDepth 100000 in
theorem zero_any (A : Nat → Nat) (s : Bool) (w : World) :
    Calls Try.prog 81 #[big A s] w fun e w' => e = .returned (.bool (allZero A)) ∧ Only (fun _ => False) w w' := by
  have hz := fun wx => eq_zero_run wx A
  unfold big
  go_enter Try.func81, Try.ntmps81
  go_wp2
  go_ret
  exact ⟨rfl, (Only.refl _ w).alloc _⟩
theorem boxes_two_frozen (w : World) (A B C : Nat → Nat) (s t u : Bool) (ty : TypeId) (j : Nat) (v : Value) (h : (bigC B t)[j]? = some v) : (boxes w A B C s t u ty).frozen? ⟨w.heap.size + 1, j, none⟩ = false := by
  have h1 := frozen_new (w.alloc (.cells (bigC A s) ty)) (bigC B t) ty (w.heap.size + 1) j (by rw [size_alloc])
  exact (((Only.refl (fun _ => False) _).alloc _).frozen (p := ⟨w.heap.size + 1, j, none⟩) (by rw [size_alloc, size_alloc]; exact Nat.lt_succ_self _) (fun f => f)).trans h1

theorem allZero_limb {n : Nat} (h : n < 4294967296 ^ 10) : allZero (limb n) = decide (n = 0) := by
  rw [Bool.eq_iff_iff]
  unfold allZero
  simp only [List.all_eq_true, List.mem_range, beq_iff_eq, decide_eq_true_eq]
  constructor
  · intro hz
    have h1 := val_limb n 10
    have h2 : ∀ k, k ≤ 10 → val (limb n) k = 0 := by
      intro k
      induction k with
      | zero => intro _; rfl
      | succ k ih => intro hk; show val (limb n) k + limb n k * _ = 0; rw [ih (by omega), hz k (by omega)]; simp
    rw [h2 10 (by omega), Nat.mod_eq_of_lt h] at h1
    exact h1.symm
  · intro h0 i _
    subst h0
    unfold limb; simp

/-- a number with its sign -/
def sb (x : Int) : Value := big (limb x.natAbs) (decide (x < 0))

theorem sb_unlike {x y : Int} {n m : Nat} {s t : Bool} (hn : x.natAbs = n) (hm : y.natAbs = m) (hs : decide (x < 0) = s) (ht : decide (y < 0) = t) (hst : ¬ s = t) :
    ∀ (d : Nat) (u : Bool), (n < m → d = m - n ∧ u = t) → (m < n → d = n - m ∧ u = s) → (n = m → d = 0 ∧ u = false) → sb (x + y) = big (limb d) u := by
  intro d u h1 h2 h3
  have e : (x + y).natAbs = d ∧ decide (x + y < 0) = u := by
    rcases Nat.lt_trichotomy n m with g | g | g
    · obtain ⟨rfl, rfl⟩ := h1 g
      refine ⟨?_, ?_⟩
      · by_cases g1 : x < 0 <;> by_cases g2 : y < 0 <;> simp [g1, g2] at hs ht <;> subst hs ht <;> simp at hst <;> omega
      · rw [← ht, decide_eq_decide]
        by_cases g1 : x < 0 <;> by_cases g2 : y < 0 <;> simp [g1, g2] at hs ht <;> subst hs ht <;> simp at hst <;> omega
    · obtain ⟨rfl, rfl⟩ := h3 g
      refine ⟨?_, ?_⟩
      · by_cases g1 : x < 0 <;> by_cases g2 : y < 0 <;> simp [g1, g2] at hs ht <;> subst hs ht <;> simp at hst <;> omega
      · rw [decide_eq_false_iff_not]
        by_cases g1 : x < 0 <;> by_cases g2 : y < 0 <;> simp [g1, g2] at hs ht <;> subst hs ht <;> simp at hst <;> omega
    · obtain ⟨rfl, rfl⟩ := h2 g
      refine ⟨?_, ?_⟩
      · by_cases g1 : x < 0 <;> by_cases g2 : y < 0 <;> simp [g1, g2] at hs ht <;> subst hs ht <;> simp at hst <;> omega
      · rw [← hs, decide_eq_decide]
        by_cases g1 : x < 0 <;> by_cases g2 : y < 0 <;> simp [g1, g2] at hs ht <;> subst hs ht <;> simp at hst <;> omega
  unfold sb; rw [e.1, e.2]

set_option maxRecDepth 100000 in
set_option maxHeartbeats 4000000 in
theorem plus_any (x y : Int) (hx : x.natAbs < 4294967296 ^ 9) (hy : y.natAbs < 4294967296 ^ 9) (w : World) :
    Calls Try.prog 72 #[sb x, sb y] w fun e w' => e = .returned (sb (x + y)) ∧ Only (fun _ => False) w w' := by
  obtain ⟨n, hn⟩ : ∃ n, x.natAbs = n := ⟨_, rfl⟩
  obtain ⟨m, hm⟩ : ∃ m, y.natAbs = m := ⟨_, rfl⟩
  obtain ⟨s, hs⟩ : ∃ s, decide (x < 0) = s := ⟨_, rfl⟩
  obtain ⟨t, ht⟩ : ∃ t, decide (y < 0) = t := ⟨_, rfl⟩
  have HX : Hid (sb x = big (limb n) s) := Lib.hid (by unfold sb; rw [hn, hs])
  have HY : Hid (sb y = big (limb m) t) := Lib.hid (by unfold sb; rw [hm, ht])
  rw [HX.out, HY.out]
  have HNM : Hid (n < 4294967296 ^ 9 ∧ m < 4294967296 ^ 9) := Lib.hid ⟨by omega, by omega⟩
  have B1 := Lib.hid (boxes_one w (limb n) (limb m) (fun _ => 0) s t false 125)
  have B2 := Lib.hid (boxes_two w (limb n) (limb m) (fun _ => 0) s t false 125)
  have B3 := Lib.hid (boxes_three w (limb n) (limb m) (fun _ => 0) s t false 125)
  have BF := Lib.hid (boxes_two_frozen w (limb n) (limb m) (fun _ => 0) s t false 125)
  have BS := Lib.hid (boxes_size w (limb n) (limb m) (fun _ => 0) s t false 125)
  have BO := Lib.hid (boxes_only w (limb n) (limb m) (fun _ => 0) s t false 125)
  by_cases hst : s = t
  · have hres : Hid (sb (x + y) = big (limb (n + m)) s) := Lib.hid (by
      have e1 : (x + y).natAbs = n + m := by
        subst hs ht
        by_cases h1 : x < 0 <;> by_cases h2 : y < 0 <;> simp [h1, h2] at hst <;> omega
      have e2 : decide (x + y < 0) = s := by
        subst hs ht
        by_cases h1 : x < 0 <;> by_cases h2 : y < 0 <;> simp [h1, h2] at hst ⊢ <;> omega
      unfold sb; rw [e1, e2])
    subst hst
    rw [hres.out]
    clear hx hy hn hm hs ht
    unfold big
    go_enter Try.func72, Try.ntmps72
    go_wp2_with fail
    refine (add_any n m s s _).mono ?_
    rintro e1 w1 ⟨rfl, hO1⟩
    replace hO1 : Only (fun _ => False) (boxes w (limb n) (limb m) (fun _ => 0) s s false 125) w1 := hO1
    have r0 := hO1.cell' (B3.out 0 _ rfl).1 (fun f => f)
    have z0 := (hO1.frozen (p := ⟨w.heap.size + 1 + 1, 0, none⟩) (by have := BS.out; show w.heap.size + 1 + 1 < _; omega) (fun f => f)).trans (B3.out 0 _ rfl).2
    have r1 := hO1.cell' (B3.out 1 _ rfl).1 (fun f => f)
    have z1 := (hO1.frozen (p := ⟨w.heap.size + 1 + 1, 1, none⟩) (by have := BS.out; show w.heap.size + 1 + 1 < _; omega) (fun f => f)).trans (B3.out 1 _ rfl).2
    have r2 := hO1.cell' (B3.out 2 _ rfl).1 (fun f => f)
    have z2 := (hO1.frozen (p := ⟨w.heap.size + 1 + 1, 2, none⟩) (by have := BS.out; show w.heap.size + 1 + 1 < _; omega) (fun f => f)).trans (B3.out 2 _ rfl).2
    have r3 := hO1.cell' (B3.out 3 _ rfl).1 (fun f => f)
    have z3 := (hO1.frozen (p := ⟨w.heap.size + 1 + 1, 3, none⟩) (by have := BS.out; show w.heap.size + 1 + 1 < _; omega) (fun f => f)).trans (B3.out 3 _ rfl).2
    have r4 := hO1.cell' (B3.out 4 _ rfl).1 (fun f => f)
    have z4 := (hO1.frozen (p := ⟨w.heap.size + 1 + 1, 4, none⟩) (by have := BS.out; show w.heap.size + 1 + 1 < _; omega) (fun f => f)).trans (B3.out 4 _ rfl).2
    have r5 := hO1.cell' (B3.out 5 _ rfl).1 (fun f => f)
    have z5 := (hO1.frozen (p := ⟨w.heap.size + 1 + 1, 5, none⟩) (by have := BS.out; show w.heap.size + 1 + 1 < _; omega) (fun f => f)).trans (B3.out 5 _ rfl).2
    have r6 := hO1.cell' (B3.out 6 _ rfl).1 (fun f => f)
    have z6 := (hO1.frozen (p := ⟨w.heap.size + 1 + 1, 6, none⟩) (by have := BS.out; show w.heap.size + 1 + 1 < _; omega) (fun f => f)).trans (B3.out 6 _ rfl).2
    have r7 := hO1.cell' (B3.out 7 _ rfl).1 (fun f => f)
    have z7 := (hO1.frozen (p := ⟨w.heap.size + 1 + 1, 7, none⟩) (by have := BS.out; show w.heap.size + 1 + 1 < _; omega) (fun f => f)).trans (B3.out 7 _ rfl).2
    have r8 := hO1.cell' (B3.out 8 _ rfl).1 (fun f => f)
    have z8 := (hO1.frozen (p := ⟨w.heap.size + 1 + 1, 8, none⟩) (by have := BS.out; show w.heap.size + 1 + 1 < _; omega) (fun f => f)).trans (B3.out 8 _ rfl).2
    have r9 := hO1.cell' (B3.out 9 _ rfl).1 (fun f => f)
    have z9 := (hO1.frozen (p := ⟨w.heap.size + 1 + 1, 9, none⟩) (by have := BS.out; show w.heap.size + 1 + 1 < _; omega) (fun f => f)).trans (B3.out 9 _ rfl).2
    have r10 := hO1.cell' (B3.out 10 _ rfl).1 (fun f => f)
    have z10 := (hO1.frozen (p := ⟨w.heap.size + 1 + 1, 10, none⟩) (by have := BS.out; show w.heap.size + 1 + 1 < _; omega) (fun f => f)).trans (B3.out 10 _ rfl).2
    have OW := Lib.hid (BO.out.trans hO1)
    clear hO1
    unfold big
    go_wp2
    refine bodyPost_ret (v := .agg #[.int .u64 (limb (n + m) 0 : Int), .int .u64 (limb (n + m) 1 : Int), .int .u64 (limb (n + m) 2 : Int), .int .u64 (limb (n + m) 3 : Int), .int .u64 (limb (n + m) 4 : Int), .int .u64 (limb (n + m) 5 : Int), .int .u64 (limb (n + m) 6 : Int), .int .u64 (limb (n + m) 7 : Int), .int .u64 (limb (n + m) 8 : Int), .int .u64 (limb (n + m) 9 : Int), .bool s]) (by simp [results, Try.results72, go_sem, r0, r1, r2, r3, r4, r5, r6, r7, r8, r9, r10]) rfl ⟨rfl, ?_⟩
    repeat (refine Only.setCell ?_ (.inr (by show w.heap.size ≤ w.heap.size + 1 + 1; omega)) _)
    exact OW.out
  · have hb : (s == t) = false := by rw [beq_eq_false_iff_ne]; exact hst
    have HN10 : Hid (n < 4294967296 ^ 10 ∧ m < 4294967296 ^ 10) := Lib.hid ⟨by omega, by omega⟩
    have hsg : Hid (∀ (d : Nat) (u : Bool), (n < m → d = m - n ∧ u = t) → (m < n → d = n - m ∧ u = s) → (n = m → d = 0 ∧ u = false) → sb (x + y) = big (limb d) u) := Lib.hid (sb_unlike hn hm hs ht hst)
    clear hx hy hn hm hs ht hst
    by_cases hnm : n < m
    · have hres : Hid (sb (x + y) = big (limb (m - n)) t) := Lib.hid (hsg.out _ _ (fun _ => ⟨rfl, rfl⟩) (fun h => by omega) (fun h => by omega))
      have hd : Hid (decide (n < m) = true) := Lib.hid (by simp; omega)
      have HZ : Hid (allZero (limb (m - n)) = false) := Lib.hid (by rw [allZero_limb (by have := HN10.out; omega)]; simp; omega)
      rw [hres.out]
      clear hsg
      unfold big
      go_enter Try.func72, Try.ntmps72
      go_wp2_with fail
      refine (less_any n m s t HN10.out.1 HN10.out.2 _).mono ?_
      rintro e1 w1 ⟨rfl, hO1⟩
      rw [hd.out]
      replace hO1 : Only (fun _ => False) (boxes w (limb n) (limb m) (fun _ => 0) s t false 125) w1 := hO1
      have a0 := hO1.cell' (B1.out 0 _ (bigC_get _ _ 0 (by omega))).1 (fun f => f)
      have a1 := hO1.cell' (B1.out 1 _ (bigC_get _ _ 1 (by omega))).1 (fun f => f)
      have a2 := hO1.cell' (B1.out 2 _ (bigC_get _ _ 2 (by omega))).1 (fun f => f)
      have a3 := hO1.cell' (B1.out 3 _ (bigC_get _ _ 3 (by omega))).1 (fun f => f)
      have a4 := hO1.cell' (B1.out 4 _ (bigC_get _ _ 4 (by omega))).1 (fun f => f)
      have a5 := hO1.cell' (B1.out 5 _ (bigC_get _ _ 5 (by omega))).1 (fun f => f)
      have a6 := hO1.cell' (B1.out 6 _ (bigC_get _ _ 6 (by omega))).1 (fun f => f)
      have a7 := hO1.cell' (B1.out 7 _ (bigC_get _ _ 7 (by omega))).1 (fun f => f)
      have a8 := hO1.cell' (B1.out 8 _ (bigC_get _ _ 8 (by omega))).1 (fun f => f)
      have a9 := hO1.cell' (B1.out 9 _ (bigC_get _ _ 9 (by omega))).1 (fun f => f)
      have a10 := hO1.cell' (B1.out 10 (.bool s) rfl).1 (fun f => f)
      have fa0 := (hO1.frozen (p := ⟨w.heap.size, 0, none⟩) (by have := BS.out; show w.heap.size < _; omega) (fun f => f)).trans (B1.out 0 _ rfl).2
      have fa1 := (hO1.frozen (p := ⟨w.heap.size, 1, none⟩) (by have := BS.out; show w.heap.size < _; omega) (fun f => f)).trans (B1.out 1 _ rfl).2
      have fa2 := (hO1.frozen (p := ⟨w.heap.size, 2, none⟩) (by have := BS.out; show w.heap.size < _; omega) (fun f => f)).trans (B1.out 2 _ rfl).2
      have fa3 := (hO1.frozen (p := ⟨w.heap.size, 3, none⟩) (by have := BS.out; show w.heap.size < _; omega) (fun f => f)).trans (B1.out 3 _ rfl).2
      have fa4 := (hO1.frozen (p := ⟨w.heap.size, 4, none⟩) (by have := BS.out; show w.heap.size < _; omega) (fun f => f)).trans (B1.out 4 _ rfl).2
      have fa5 := (hO1.frozen (p := ⟨w.heap.size, 5, none⟩) (by have := BS.out; show w.heap.size < _; omega) (fun f => f)).trans (B1.out 5 _ rfl).2
      have fa6 := (hO1.frozen (p := ⟨w.heap.size, 6, none⟩) (by have := BS.out; show w.heap.size < _; omega) (fun f => f)).trans (B1.out 6 _ rfl).2
      have fa7 := (hO1.frozen (p := ⟨w.heap.size, 7, none⟩) (by have := BS.out; show w.heap.size < _; omega) (fun f => f)).trans (B1.out 7 _ rfl).2
      have fa8 := (hO1.frozen (p := ⟨w.heap.size, 8, none⟩) (by have := BS.out; show w.heap.size < _; omega) (fun f => f)).trans (B1.out 8 _ rfl).2
      have fa9 := (hO1.frozen (p := ⟨w.heap.size, 9, none⟩) (by have := BS.out; show w.heap.size < _; omega) (fun f => f)).trans (B1.out 9 _ rfl).2
      have fa10 := (hO1.frozen (p := ⟨w.heap.size, 10, none⟩) (by have := BS.out; show w.heap.size < _; omega) (fun f => f)).trans (B1.out 10 _ rfl).2
      have b0 := hO1.cell' (B2.out 0 _ (bigC_get _ _ 0 (by omega))) (fun f => f)
      have b1 := hO1.cell' (B2.out 1 _ (bigC_get _ _ 1 (by omega))) (fun f => f)
      have b2 := hO1.cell' (B2.out 2 _ (bigC_get _ _ 2 (by omega))) (fun f => f)
      have b3 := hO1.cell' (B2.out 3 _ (bigC_get _ _ 3 (by omega))) (fun f => f)
      have b4 := hO1.cell' (B2.out 4 _ (bigC_get _ _ 4 (by omega))) (fun f => f)
      have b5 := hO1.cell' (B2.out 5 _ (bigC_get _ _ 5 (by omega))) (fun f => f)
      have b6 := hO1.cell' (B2.out 6 _ (bigC_get _ _ 6 (by omega))) (fun f => f)
      have b7 := hO1.cell' (B2.out 7 _ (bigC_get _ _ 7 (by omega))) (fun f => f)
      have b8 := hO1.cell' (B2.out 8 _ (bigC_get _ _ 8 (by omega))) (fun f => f)
      have b9 := hO1.cell' (B2.out 9 _ (bigC_get _ _ 9 (by omega))) (fun f => f)
      have b10 := hO1.cell' (B2.out 10 (.bool t) rfl) (fun f => f)
      have fb0 := (hO1.frozen (p := ⟨w.heap.size + 1, 0, none⟩) (by have := BS.out; show w.heap.size + 1 < _; omega) (fun f => f)).trans (BF.out 0 _ rfl)
      have fb1 := (hO1.frozen (p := ⟨w.heap.size + 1, 1, none⟩) (by have := BS.out; show w.heap.size + 1 < _; omega) (fun f => f)).trans (BF.out 1 _ rfl)
      have fb2 := (hO1.frozen (p := ⟨w.heap.size + 1, 2, none⟩) (by have := BS.out; show w.heap.size + 1 < _; omega) (fun f => f)).trans (BF.out 2 _ rfl)
      have fb3 := (hO1.frozen (p := ⟨w.heap.size + 1, 3, none⟩) (by have := BS.out; show w.heap.size + 1 < _; omega) (fun f => f)).trans (BF.out 3 _ rfl)
      have fb4 := (hO1.frozen (p := ⟨w.heap.size + 1, 4, none⟩) (by have := BS.out; show w.heap.size + 1 < _; omega) (fun f => f)).trans (BF.out 4 _ rfl)
      have fb5 := (hO1.frozen (p := ⟨w.heap.size + 1, 5, none⟩) (by have := BS.out; show w.heap.size + 1 < _; omega) (fun f => f)).trans (BF.out 5 _ rfl)
      have fb6 := (hO1.frozen (p := ⟨w.heap.size + 1, 6, none⟩) (by have := BS.out; show w.heap.size + 1 < _; omega) (fun f => f)).trans (BF.out 6 _ rfl)
      have fb7 := (hO1.frozen (p := ⟨w.heap.size + 1, 7, none⟩) (by have := BS.out; show w.heap.size + 1 < _; omega) (fun f => f)).trans (BF.out 7 _ rfl)
      have fb8 := (hO1.frozen (p := ⟨w.heap.size + 1, 8, none⟩) (by have := BS.out; show w.heap.size + 1 < _; omega) (fun f => f)).trans (BF.out 8 _ rfl)
      have fb9 := (hO1.frozen (p := ⟨w.heap.size + 1, 9, none⟩) (by have := BS.out; show w.heap.size + 1 < _; omega) (fun f => f)).trans (BF.out 9 _ rfl)
      have fb10 := (hO1.frozen (p := ⟨w.heap.size + 1, 10, none⟩) (by have := BS.out; show w.heap.size + 1 < _; omega) (fun f => f)).trans (BF.out 10 _ rfl)
      have O1 := Lib.hid hO1
      clear hO1
      go_wp2_with fail
      refine (sub_any m n t s (by omega) _).mono ?_
      rintro e1 w2 ⟨rfl, hO2⟩
      have O12 : Only (fun k => k = w.heap.size ∨ k = w.heap.size + 1) w1 w2 := by
        refine Only.then ?_ hO2 (fun _ _ f => f.elim)
        repeat (refine Only.setCell ?_ (.inl (by first | exact .inl rfl | exact .inr rfl)) _)
        exact Only.refl _ _
      have O02 := Lib.hid ((O1.out.mono (fun _ _ f => f.elim)).trans O12)
      have OW2 := Lib.hid ((BO.out.trans O1.out).then O12 (fun i hi e => by rcases e with e | e <;> omega))
      clear a0 a1 a2 a3 a4 a5 a6 a7 a8 a9 a10 fa0 fa1 fa2 fa3 fa4 fa5 fa6 fa7 fa8 fa9 fa10 b0 b1 b2 b3 b4 b5 b6 b7 b8 b9 b10 fb0 fb1 fb2 fb3 fb4 fb5 fb6 fb7 fb8 fb9 fb10 hO2 O12
      unfold big
      go_wp2_with fail
      refine (zero_any (limb (m - n)) t _).mono ?_
      rintro e1 w3 ⟨rfl, hO3⟩
      rw [HZ.out]
      replace hO3 : Only (fun _ => False) (w2.alloc (.cells (bigC (limb (m - n)) t) 125)) w3 := hO3
      have c0 := hO3.cell' ((cell_new w2 (limb (m - n)) t 125 _ rfl 0).trans (bigC_get _ _ 0 (by omega))) (fun f => f)
      have c1 := hO3.cell' ((cell_new w2 (limb (m - n)) t 125 _ rfl 1).trans (bigC_get _ _ 1 (by omega))) (fun f => f)
      have c2 := hO3.cell' ((cell_new w2 (limb (m - n)) t 125 _ rfl 2).trans (bigC_get _ _ 2 (by omega))) (fun f => f)
      have c3 := hO3.cell' ((cell_new w2 (limb (m - n)) t 125 _ rfl 3).trans (bigC_get _ _ 3 (by omega))) (fun f => f)
      have c4 := hO3.cell' ((cell_new w2 (limb (m - n)) t 125 _ rfl 4).trans (bigC_get _ _ 4 (by omega))) (fun f => f)
      have c5 := hO3.cell' ((cell_new w2 (limb (m - n)) t 125 _ rfl 5).trans (bigC_get _ _ 5 (by omega))) (fun f => f)
      have c6 := hO3.cell' ((cell_new w2 (limb (m - n)) t 125 _ rfl 6).trans (bigC_get _ _ 6 (by omega))) (fun f => f)
      have c7 := hO3.cell' ((cell_new w2 (limb (m - n)) t 125 _ rfl 7).trans (bigC_get _ _ 7 (by omega))) (fun f => f)
      have c8 := hO3.cell' ((cell_new w2 (limb (m - n)) t 125 _ rfl 8).trans (bigC_get _ _ 8 (by omega))) (fun f => f)
      have c9 := hO3.cell' ((cell_new w2 (limb (m - n)) t 125 _ rfl 9).trans (bigC_get _ _ 9 (by omega))) (fun f => f)
      have c10 := hO3.cell' ((cell_new w2 (limb (m - n)) t 125 _ rfl 10).trans (show _ = some (Value.bool t) from rfl)) (fun f => f)
      have O03 := Lib.hid ((O02.out.alloc (.cells (bigC (limb (m - n)) t) 125)).then hO3 (fun _ _ f => f.elim))
      have OW3 := Lib.hid ((OW2.out.alloc (.cells (bigC (limb (m - n)) t) 125)).trans hO3)
      have r0 := O03.out.cell' (B3.out 0 _ rfl).1 (by show ¬ (w.heap.size + 1 + 1 = w.heap.size ∨ w.heap.size + 1 + 1 = w.heap.size + 1); omega)
      have r1 := O03.out.cell' (B3.out 1 _ rfl).1 (by show ¬ (w.heap.size + 1 + 1 = w.heap.size ∨ w.heap.size + 1 + 1 = w.heap.size + 1); omega)
      have r2 := O03.out.cell' (B3.out 2 _ rfl).1 (by show ¬ (w.heap.size + 1 + 1 = w.heap.size ∨ w.heap.size + 1 + 1 = w.heap.size + 1); omega)
      have r3 := O03.out.cell' (B3.out 3 _ rfl).1 (by show ¬ (w.heap.size + 1 + 1 = w.heap.size ∨ w.heap.size + 1 + 1 = w.heap.size + 1); omega)
      have r4 := O03.out.cell' (B3.out 4 _ rfl).1 (by show ¬ (w.heap.size + 1 + 1 = w.heap.size ∨ w.heap.size + 1 + 1 = w.heap.size + 1); omega)
      have r5 := O03.out.cell' (B3.out 5 _ rfl).1 (by show ¬ (w.heap.size + 1 + 1 = w.heap.size ∨ w.heap.size + 1 + 1 = w.heap.size + 1); omega)
      have r6 := O03.out.cell' (B3.out 6 _ rfl).1 (by show ¬ (w.heap.size + 1 + 1 = w.heap.size ∨ w.heap.size + 1 + 1 = w.heap.size + 1); omega)
      have r7 := O03.out.cell' (B3.out 7 _ rfl).1 (by show ¬ (w.heap.size + 1 + 1 = w.heap.size ∨ w.heap.size + 1 + 1 = w.heap.size + 1); omega)
      have r8 := O03.out.cell' (B3.out 8 _ rfl).1 (by show ¬ (w.heap.size + 1 + 1 = w.heap.size ∨ w.heap.size + 1 + 1 = w.heap.size + 1); omega)
      have r9 := O03.out.cell' (B3.out 9 _ rfl).1 (by show ¬ (w.heap.size + 1 + 1 = w.heap.size ∨ w.heap.size + 1 + 1 = w.heap.size + 1); omega)
      have r10 := O03.out.cell' (B3.out 10 _ rfl).1 (by show ¬ (w.heap.size + 1 + 1 = w.heap.size ∨ w.heap.size + 1 + 1 = w.heap.size + 1); omega)
      have z0 := (O03.out.frozen (p := ⟨w.heap.size + 1 + 1, 0, none⟩) (by have := BS.out; show w.heap.size + 1 + 1 < _; omega) (by show ¬ (w.heap.size + 1 + 1 = w.heap.size ∨ w.heap.size + 1 + 1 = w.heap.size + 1); omega)).trans (B3.out 0 _ rfl).2
      have z1 := (O03.out.frozen (p := ⟨w.heap.size + 1 + 1, 1, none⟩) (by have := BS.out; show w.heap.size + 1 + 1 < _; omega) (by show ¬ (w.heap.size + 1 + 1 = w.heap.size ∨ w.heap.size + 1 + 1 = w.heap.size + 1); omega)).trans (B3.out 1 _ rfl).2
      have z2 := (O03.out.frozen (p := ⟨w.heap.size + 1 + 1, 2, none⟩) (by have := BS.out; show w.heap.size + 1 + 1 < _; omega) (by show ¬ (w.heap.size + 1 + 1 = w.heap.size ∨ w.heap.size + 1 + 1 = w.heap.size + 1); omega)).trans (B3.out 2 _ rfl).2
      have z3 := (O03.out.frozen (p := ⟨w.heap.size + 1 + 1, 3, none⟩) (by have := BS.out; show w.heap.size + 1 + 1 < _; omega) (by show ¬ (w.heap.size + 1 + 1 = w.heap.size ∨ w.heap.size + 1 + 1 = w.heap.size + 1); omega)).trans (B3.out 3 _ rfl).2
      have z4 := (O03.out.frozen (p := ⟨w.heap.size + 1 + 1, 4, none⟩) (by have := BS.out; show w.heap.size + 1 + 1 < _; omega) (by show ¬ (w.heap.size + 1 + 1 = w.heap.size ∨ w.heap.size + 1 + 1 = w.heap.size + 1); omega)).trans (B3.out 4 _ rfl).2
      have z5 := (O03.out.frozen (p := ⟨w.heap.size + 1 + 1, 5, none⟩) (by have := BS.out; show w.heap.size + 1 + 1 < _; omega) (by show ¬ (w.heap.size + 1 + 1 = w.heap.size ∨ w.heap.size + 1 + 1 = w.heap.size + 1); omega)).trans (B3.out 5 _ rfl).2
      have z6 := (O03.out.frozen (p := ⟨w.heap.size + 1 + 1, 6, none⟩) (by have := BS.out; show w.heap.size + 1 + 1 < _; omega) (by show ¬ (w.heap.size + 1 + 1 = w.heap.size ∨ w.heap.size + 1 + 1 = w.heap.size + 1); omega)).trans (B3.out 6 _ rfl).2
      have z7 := (O03.out.frozen (p := ⟨w.heap.size + 1 + 1, 7, none⟩) (by have := BS.out; show w.heap.size + 1 + 1 < _; omega) (by show ¬ (w.heap.size + 1 + 1 = w.heap.size ∨ w.heap.size + 1 + 1 = w.heap.size + 1); omega)).trans (B3.out 7 _ rfl).2
      have z8 := (O03.out.frozen (p := ⟨w.heap.size + 1 + 1, 8, none⟩) (by have := BS.out; show w.heap.size + 1 + 1 < _; omega) (by show ¬ (w.heap.size + 1 + 1 = w.heap.size ∨ w.heap.size + 1 + 1 = w.heap.size + 1); omega)).trans (B3.out 8 _ rfl).2
      have z9 := (O03.out.frozen (p := ⟨w.heap.size + 1 + 1, 9, none⟩) (by have := BS.out; show w.heap.size + 1 + 1 < _; omega) (by show ¬ (w.heap.size + 1 + 1 = w.heap.size ∨ w.heap.size + 1 + 1 = w.heap.size + 1); omega)).trans (B3.out 9 _ rfl).2
      have z10 := (O03.out.frozen (p := ⟨w.heap.size + 1 + 1, 10, none⟩) (by have := BS.out; show w.heap.size + 1 + 1 < _; omega) (by show ¬ (w.heap.size + 1 + 1 = w.heap.size ∨ w.heap.size + 1 + 1 = w.heap.size + 1); omega)).trans (B3.out 10 _ rfl).2
      clear hO3 hb
      go_wp2
      refine bodyPost_ret (v := .agg #[.int .u64 (limb (m - n) 0 : Int), .int .u64 (limb (m - n) 1 : Int), .int .u64 (limb (m - n) 2 : Int), .int .u64 (limb (m - n) 3 : Int), .int .u64 (limb (m - n) 4 : Int), .int .u64 (limb (m - n) 5 : Int), .int .u64 (limb (m - n) 6 : Int), .int .u64 (limb (m - n) 7 : Int), .int .u64 (limb (m - n) 8 : Int), .int .u64 (limb (m - n) 9 : Int), .bool t]) (by simp [results, Try.results72, go_sem, r0, r1, r2, r3, r4, r5, r6, r7, r8, r9, r10]) rfl ⟨rfl, ?_⟩
      repeat (refine Only.setCell ?_ (.inr (by show w.heap.size ≤ w.heap.size + 1 + 1; omega)) _)
      exact OW3.out
    · have hd : Hid (decide (n < m) = false) := Lib.hid (by simp; omega)
      have HZ : Hid (allZero (limb (n - m)) = decide (n - m = 0)) := Lib.hid (allZero_limb (by have := HN10.out; omega))
      obtain ⟨zb, hzb⟩ : ∃ zb, decide (n - m = 0) = zb := ⟨_, rfl⟩
      rw [hzb] at HZ
      have hres : Hid (sb (x + y) = big (limb (n - m)) (if zb then false else s)) := Lib.hid (by
        cases zb with
        | true => exact hsg.out _ _ (fun h => by omega) (fun h => by simp at hzb; omega) (fun h => ⟨by omega, rfl⟩)
        | false => exact hsg.out _ _ (fun h => by omega) (fun h => ⟨rfl, rfl⟩) (fun h => by simp at hzb; omega))
      rw [hres.out]
      clear hsg hzb
      cases zb
      all_goals
        simp only [Bool.false_eq_true, if_true, if_false]
        unfold big
        go_enter Try.func72, Try.ntmps72
        go_wp2_with fail
        refine (less_any n m s t HN10.out.1 HN10.out.2 _).mono ?_
        rintro e1 w1 ⟨rfl, hO1⟩
        rw [hd.out]
        replace hO1 : Only (fun _ => False) (boxes w (limb n) (limb m) (fun _ => 0) s t false 125) w1 := hO1
        have a0 := hO1.cell' (B1.out 0 _ (bigC_get _ _ 0 (by omega))).1 (fun f => f)
        have a1 := hO1.cell' (B1.out 1 _ (bigC_get _ _ 1 (by omega))).1 (fun f => f)
        have a2 := hO1.cell' (B1.out 2 _ (bigC_get _ _ 2 (by omega))).1 (fun f => f)
        have a3 := hO1.cell' (B1.out 3 _ (bigC_get _ _ 3 (by omega))).1 (fun f => f)
        have a4 := hO1.cell' (B1.out 4 _ (bigC_get _ _ 4 (by omega))).1 (fun f => f)
        have a5 := hO1.cell' (B1.out 5 _ (bigC_get _ _ 5 (by omega))).1 (fun f => f)
        have a6 := hO1.cell' (B1.out 6 _ (bigC_get _ _ 6 (by omega))).1 (fun f => f)
        have a7 := hO1.cell' (B1.out 7 _ (bigC_get _ _ 7 (by omega))).1 (fun f => f)
        have a8 := hO1.cell' (B1.out 8 _ (bigC_get _ _ 8 (by omega))).1 (fun f => f)
        have a9 := hO1.cell' (B1.out 9 _ (bigC_get _ _ 9 (by omega))).1 (fun f => f)
        have a10 := hO1.cell' (B1.out 10 (.bool s) rfl).1 (fun f => f)
        have b0 := hO1.cell' (B2.out 0 _ (bigC_get _ _ 0 (by omega))) (fun f => f)
        have b1 := hO1.cell' (B2.out 1 _ (bigC_get _ _ 1 (by omega))) (fun f => f)
        have b2 := hO1.cell' (B2.out 2 _ (bigC_get _ _ 2 (by omega))) (fun f => f)
        have b3 := hO1.cell' (B2.out 3 _ (bigC_get _ _ 3 (by omega))) (fun f => f)
        have b4 := hO1.cell' (B2.out 4 _ (bigC_get _ _ 4 (by omega))) (fun f => f)
        have b5 := hO1.cell' (B2.out 5 _ (bigC_get _ _ 5 (by omega))) (fun f => f)
        have b6 := hO1.cell' (B2.out 6 _ (bigC_get _ _ 6 (by omega))) (fun f => f)
        have b7 := hO1.cell' (B2.out 7 _ (bigC_get _ _ 7 (by omega))) (fun f => f)
        have b8 := hO1.cell' (B2.out 8 _ (bigC_get _ _ 8 (by omega))) (fun f => f)
        have b9 := hO1.cell' (B2.out 9 _ (bigC_get _ _ 9 (by omega))) (fun f => f)
        have b10 := hO1.cell' (B2.out 10 (.bool t) rfl) (fun f => f)
        have O1 := Lib.hid hO1
        clear hO1
        go_wp2_with fail
        refine (sub_any n m s t (by omega) _).mono ?_
        rintro e1 w2 ⟨rfl, hO2⟩
        have O02 := Lib.hid (O1.out.trans hO2)
        clear a0 a1 a2 a3 a4 a5 a6 a7 a8 a9 a10 b0 b1 b2 b3 b4 b5 b6 b7 b8 b9 b10 hO2
        unfold big
        go_wp2_with fail
        refine (zero_any (limb (n - m)) s _).mono ?_
        rintro e1 w3 ⟨rfl, hO3⟩
        rw [HZ.out]
        replace hO3 : Only (fun _ => False) (w2.alloc (.cells (bigC (limb (n - m)) s) 125)) w3 := hO3
        have c0 := hO3.cell' ((cell_new w2 (limb (n - m)) s 125 _ rfl 0).trans (bigC_get _ _ 0 (by omega))) (fun f => f)
        have c1 := hO3.cell' ((cell_new w2 (limb (n - m)) s 125 _ rfl 1).trans (bigC_get _ _ 1 (by omega))) (fun f => f)
        have c2 := hO3.cell' ((cell_new w2 (limb (n - m)) s 125 _ rfl 2).trans (bigC_get _ _ 2 (by omega))) (fun f => f)
        have c3 := hO3.cell' ((cell_new w2 (limb (n - m)) s 125 _ rfl 3).trans (bigC_get _ _ 3 (by omega))) (fun f => f)
        have c4 := hO3.cell' ((cell_new w2 (limb (n - m)) s 125 _ rfl 4).trans (bigC_get _ _ 4 (by omega))) (fun f => f)
        have c5 := hO3.cell' ((cell_new w2 (limb (n - m)) s 125 _ rfl 5).trans (bigC_get _ _ 5 (by omega))) (fun f => f)
        have c6 := hO3.cell' ((cell_new w2 (limb (n - m)) s 125 _ rfl 6).trans (bigC_get _ _ 6 (by omega))) (fun f => f)
        have c7 := hO3.cell' ((cell_new w2 (limb (n - m)) s 125 _ rfl 7).trans (bigC_get _ _ 7 (by omega))) (fun f => f)
        have c8 := hO3.cell' ((cell_new w2 (limb (n - m)) s 125 _ rfl 8).trans (bigC_get _ _ 8 (by omega))) (fun f => f)
        have c9 := hO3.cell' ((cell_new w2 (limb (n - m)) s 125 _ rfl 9).trans (bigC_get _ _ 9 (by omega))) (fun f => f)
        have c10 := hO3.cell' ((cell_new w2 (limb (n - m)) s 125 _ rfl 10).trans (show _ = some (Value.bool s) from rfl)) (fun f => f)
        have fc := (hO3.frozen (p := ⟨w2.heap.size, 10, none⟩) (by rw [size_alloc]; exact Nat.lt_succ_self _) (fun f => f)).trans (frozen_new w2 (bigC (limb (n - m)) s) 125 _ 10 rfl)
        have O03 := Lib.hid ((O02.out.alloc (.cells (bigC (limb (n - m)) s) 125)).then hO3 (fun _ _ f => f.elim))
        have r0 := O03.out.cell' (B3.out 0 _ rfl).1 (fun f => f)
        have r1 := O03.out.cell' (B3.out 1 _ rfl).1 (fun f => f)
        have r2 := O03.out.cell' (B3.out 2 _ rfl).1 (fun f => f)
        have r3 := O03.out.cell' (B3.out 3 _ rfl).1 (fun f => f)
        have r4 := O03.out.cell' (B3.out 4 _ rfl).1 (fun f => f)
        have r5 := O03.out.cell' (B3.out 5 _ rfl).1 (fun f => f)
        have r6 := O03.out.cell' (B3.out 6 _ rfl).1 (fun f => f)
        have r7 := O03.out.cell' (B3.out 7 _ rfl).1 (fun f => f)
        have r8 := O03.out.cell' (B3.out 8 _ rfl).1 (fun f => f)
        have r9 := O03.out.cell' (B3.out 9 _ rfl).1 (fun f => f)
        have r10 := O03.out.cell' (B3.out 10 _ rfl).1 (fun f => f)
        have z0 := (O03.out.frozen (p := ⟨w.heap.size + 1 + 1, 0, none⟩) (by have := BS.out; show w.heap.size + 1 + 1 < _; omega) (fun f => f)).trans (B3.out 0 _ rfl).2
        have z1 := (O03.out.frozen (p := ⟨w.heap.size + 1 + 1, 1, none⟩) (by have := BS.out; show w.heap.size + 1 + 1 < _; omega) (fun f => f)).trans (B3.out 1 _ rfl).2
        have z2 := (O03.out.frozen (p := ⟨w.heap.size + 1 + 1, 2, none⟩) (by have := BS.out; show w.heap.size + 1 + 1 < _; omega) (fun f => f)).trans (B3.out 2 _ rfl).2
        have z3 := (O03.out.frozen (p := ⟨w.heap.size + 1 + 1, 3, none⟩) (by have := BS.out; show w.heap.size + 1 + 1 < _; omega) (fun f => f)).trans (B3.out 3 _ rfl).2
        have z4 := (O03.out.frozen (p := ⟨w.heap.size + 1 + 1, 4, none⟩) (by have := BS.out; show w.heap.size + 1 + 1 < _; omega) (fun f => f)).trans (B3.out 4 _ rfl).2
        have z5 := (O03.out.frozen (p := ⟨w.heap.size + 1 + 1, 5, none⟩) (by have := BS.out; show w.heap.size + 1 + 1 < _; omega) (fun f => f)).trans (B3.out 5 _ rfl).2
        have z6 := (O03.out.frozen (p := ⟨w.heap.size + 1 + 1, 6, none⟩) (by have := BS.out; show w.heap.size + 1 + 1 < _; omega) (fun f => f)).trans (B3.out 6 _ rfl).2
        have z7 := (O03.out.frozen (p := ⟨w.heap.size + 1 + 1, 7, none⟩) (by have := BS.out; show w.heap.size + 1 + 1 < _; omega) (fun f => f)).trans (B3.out 7 _ rfl).2
        have z8 := (O03.out.frozen (p := ⟨w.heap.size + 1 + 1, 8, none⟩) (by have := BS.out; show w.heap.size + 1 + 1 < _; omega) (fun f => f)).trans (B3.out 8 _ rfl).2
        have z9 := (O03.out.frozen (p := ⟨w.heap.size + 1 + 1, 9, none⟩) (by have := BS.out; show w.heap.size + 1 + 1 < _; omega) (fun f => f)).trans (B3.out 9 _ rfl).2
        have z10 := (O03.out.frozen (p := ⟨w.heap.size + 1 + 1, 10, none⟩) (by have := BS.out; show w.heap.size + 1 + 1 < _; omega) (fun f => f)).trans (B3.out 10 _ rfl).2
        have hne : ¬ (w2.heap.size = w.heap.size + 1 + 1) := by have h1 := O02.out.size; have h2 := BS.out; omega
        have hne2 : ¬ (w.heap.size + 1 + 1 = w2.heap.size) := fun e => hne e.symm
        have HW2 : Hid (w.heap.size ≤ w2.heap.size) := Lib.hid (by have h1 := O02.out.size; have h2 := BS.out; omega)
        have OW3 := Lib.hid (BO.out.trans O03.out)
        clear hO3 hb
        go_wp2
        first
          | refine bodyPost_ret (v := .agg #[.int .u64 (limb (n - m) 0 : Int), .int .u64 (limb (n - m) 1 : Int), .int .u64 (limb (n - m) 2 : Int), .int .u64 (limb (n - m) 3 : Int), .int .u64 (limb (n - m) 4 : Int), .int .u64 (limb (n - m) 5 : Int), .int .u64 (limb (n - m) 6 : Int), .int .u64 (limb (n - m) 7 : Int), .int .u64 (limb (n - m) 8 : Int), .int .u64 (limb (n - m) 9 : Int), .bool s]) (by simp [results, Try.results72, go_sem, r0, r1, r2, r3, r4, r5, r6, r7, r8, r9, r10]) rfl ⟨rfl, ?_⟩
          | refine bodyPost_ret (v := .agg #[.int .u64 (limb (n - m) 0 : Int), .int .u64 (limb (n - m) 1 : Int), .int .u64 (limb (n - m) 2 : Int), .int .u64 (limb (n - m) 3 : Int), .int .u64 (limb (n - m) 4 : Int), .int .u64 (limb (n - m) 5 : Int), .int .u64 (limb (n - m) 6 : Int), .int .u64 (limb (n - m) 7 : Int), .int .u64 (limb (n - m) 8 : Int), .int .u64 (limb (n - m) 9 : Int), .bool false]) (by simp [results, Try.results72, go_sem, r0, r1, r2, r3, r4, r5, r6, r7, r8, r9, r10]) rfl ⟨rfl, ?_⟩
        repeat (refine Only.setCell ?_ (.inr (by first | (show w.heap.size ≤ w.heap.size + 1 + 1; omega) | exact HW2.out)) _)
        exact OW3.out
end Go.Proofs.Ythflglejhhebeaa.bigw
