/- Boxed numbers in memory, and one step of a division bit by bit. -/
import Derived.Test.YtooffbgcaichmaaSumR
namespace Go.Proofs.Ytooffbgcaichmaa.bigw
open Go.RowKit mem bigm intm
set_option linter.unusedVariables false

/-- the eleven cells of a number without a sign -/
def bigL (A : Nat → Nat) : List Value := [.int .u64 (A 0 : Int), .int .u64 (A 1 : Int), .int .u64 (A 2 : Int), .int .u64 (A 3 : Int), .int .u64 (A 4 : Int), .int .u64 (A 5 : Int), .int .u64 (A 6 : Int), .int .u64 (A 7 : Int), .int .u64 (A 8 : Int), .int .u64 (A 9 : Int), .bool false]

/-- a block has a number -/
def Has (w : World) (g n : Nat) : Prop := ∀ j v, (bigL (limb n))[j]? = some v → w.cell? ⟨g, j, none⟩ = some v ∧ w.frozen? ⟨g, j, none⟩ = false

theorem bigL_some (A : Nat → Nat) (j : Nat) (h : j < 11) : ∃ v, (bigL A)[j]? = some v := ⟨(bigL A)[j]'h, List.getElem?_eq_getElem _⟩
theorem bigL_lt {A : Nat → Nat} {j : Nat} {v : Value} (h : (bigL A)[j]? = some v) : j < 11 := by
  rcases Nat.lt_or_ge j 11 with g | g
  · exact g
  · rw [List.getElem?_eq_none (show (bigL A).length ≤ j from g)] at h; cases h

theorem Has.lt {w : World} {g n : Nat} (h : Has w g n) : g < w.heap.size := World.block_lt_of_cell? w ⟨g, 10, none⟩ (h 10 _ rfl).1

theorem Has.only {S : Nat → Prop} {w w' : World} {g n : Nat} (h : Has w g n) (ho : Only S w w') (hs : ¬ S g) : Has w' g n := fun j v hj =>
  ⟨ho.cell' (h j v hj).1 hs, (ho.frozen (p := ⟨g, j, none⟩) h.lt hs).trans (h j v hj).2⟩

theorem Has.put {w : World} {g n : Nat} (h : Has w g n) (m : Nat) : Has (puts g 0 (bigL (limb m)) w) g m := by
  intro j v hj
  refine ⟨puts_cell g (bigL (limb m)) 0 w ?_ j v (.inr ⟨Nat.zero_le _, by rw [Nat.sub_zero]; exact hj⟩), ?_⟩
  · intro i hi
    obtain ⟨u, hu⟩ := bigL_some (limb n) i (by rw [Nat.zero_add] at hi; exact hi)
    exact ⟨u, (h i u hu).1⟩
  · rw [puts_frozen]
    obtain ⟨u, hu⟩ := bigL_some (limb n) j (bigL_lt hj)
    exact (h j u hu).2

theorem Has.other {w : World} {g g' n o : Nat} {vs : List Value} (h : Has w g n) (hne : g ≠ g') : Has (puts g' o vs w) g n :=
  h.only (puts_only (S := fun k => k = g') g' vs o w w (Only.refl _ _) (.inl rfl)) hne

theorem limb_one_zero (r : Nat) : limb (2 * r + 1) 0 = limb (2 * r) 0 + 1 := by unfold limb; simp; omega
theorem limb_one (r i : Nat) (h : 0 < i) : limb (2 * r + 1) i = limb (2 * r) i := by
  unfold limb
  obtain ⟨j, rfl⟩ : ∃ j, i = j + 1 := ⟨i - 1, by omega⟩
  rw [Nat.pow_succ, Nat.mul_comm (4294967296 ^ j), ← Nat.div_div_eq_div_mul, ← Nat.div_div_eq_div_mul, show (2 * r + 1) / 4294967296 = 2 * r / 4294967296 by omega]

theorem Has.one {w : World} {g r : Nat} (h : Has w g (2 * r)) : Has (w.setCell ⟨g, 0, none⟩ (.int .u64 (limb (2 * r + 1) 0 : Int))) g (2 * r + 1) := by
  intro j v hj
  rw [frozen_set]
  by_cases h0 : j = 0
  · subst h0
    obtain rfl : Value.int .u64 (limb (2 * r + 1) 0 : Int) = v := by simpa [bigL] using hj
    exact ⟨cell_same (h 0 _ rfl).1, (h 0 _ rfl).2⟩
  · rw [cell_other (off_ne (by omega))]
    refine h j v ?_
    rw [← hj]
    have hl := bigL_lt hj
    have e := fun i hi => limb_one r i hi
    match j, hl, h0 with
    | 1, _, _ => simp [bigL, e]
    | 2, _, _ => simp [bigL, e]
    | 3, _, _ => simp [bigL, e]
    | 4, _, _ => simp [bigL, e]
    | 5, _, _ => simp [bigL, e]
    | 6, _, _ => simp [bigL, e]
    | 7, _, _ => simp [bigL, e]
    | 8, _, _ => simp [bigL, e]
    | 9, _, _ => simp [bigL, e]
    | 10, _, _ => simp [bigL]

theorem or_one (r : Nat) : bits .or .u64 (limb (2 * r) 0 : Int) 1 = (limb (2 * r + 1) 0 : Int) := by
  have hl := limb_lt (2 * r) 0
  have h := u64_or_nat (limb (2 * r) 0) 1 (by omega) (by omega)
  have e : limb (2 * r) 0 ||| 1 = limb (2 * r) 0 + 1 := by
    obtain ⟨k, hk⟩ : ∃ k, limb (2 * r) 0 = k * 2 ^ 1 := ⟨limb (2 * r) 0 / 2, by unfold limb; simp; omega⟩
    have := Nat.shiftLeft_add_eq_or_of_lt (b := 1) (i := 1) (by omega) k
    rw [Nat.shiftLeft_eq] at this
    rw [hk]; exact this.symm
  rw [e] at h
  rw [limb_one_zero]
  exact h

/-- a number's bit, out of its part -/
theorem bit_of (n k : Nat) : limb n (k / 32) / 2 ^ (k % 32) % 2 = n / 2 ^ k % 2 := by
  unfold limb
  have e : (4294967296 : Nat) ^ (k / 32) = 2 ^ (32 * (k / 32)) := by rw [Nat.pow_mul]
  have e2 : (4294967296 : Nat) = 2 ^ (k % 32) * 2 ^ (32 - k % 32) := by rw [← Nat.pow_add, show k % 32 + (32 - k % 32) = 32 by omega]
  rw [e]
  have e3 : n / 2 ^ k = n / 2 ^ (32 * (k / 32)) / 2 ^ (k % 32) := by rw [Nat.div_div_eq_div_mul, ← Nat.pow_add, Nat.div_add_mod]
  rw [e3]
  generalize n / 2 ^ (32 * (k / 32)) = N
  have h4 : N % 4294967296 / 2 ^ (k % 32) = N / 2 ^ (k % 32) % 2 ^ (32 - k % 32) := by
    rw [e2, Nat.mod_mul_right_div_self]
  rw [h4]
  have h5 : 2 ∣ 2 ^ (32 - k % 32) := ⟨2 ^ (31 - k % 32), by rw [show 32 - k % 32 = 31 - k % 32 + 1 by omega, Nat.pow_succ, Nat.mul_comm]⟩
  exact Nat.mod_mod_of_dvd _ h5

theorem half_step (n k : Nat) : n / 2 ^ k = 2 * (n / 2 ^ (k + 1)) + n / 2 ^ k % 2 := by
  rw [Nat.pow_succ, ← Nat.div_div_eq_div_mul]; omega

/-- one bit more -/
theorem div_bit {N m b : Nat} (hm : 0 < m) (hb : b < 2) :
    (2 * (N % m) + b < m → (2 * N + b) / m = 2 * (N / m) ∧ (2 * N + b) % m = 2 * (N % m) + b) ∧
    (¬ 2 * (N % m) + b < m → (2 * N + b) / m = 2 * (N / m) + 1 ∧ (2 * N + b) % m = 2 * (N % m) + b - m) := by
  have h := Nat.div_add_mod N m
  have hr := Nat.mod_lt N hm
  have e : 2 * N + b = 2 * (N % m) + b + m * (2 * (N / m)) := by
    have : m * (2 * (N / m)) = 2 * (m * (N / m)) := by rw [Nat.mul_left_comm]
    omega
  refine ⟨fun hl => ?_, fun hl => ?_⟩
  · rw [e, Nat.add_mul_div_left _ _ hm, Nat.add_mul_mod_self_left, Nat.div_eq_of_lt hl, Nat.mod_eq_of_lt hl]
    exact ⟨by omega, rfl⟩
  · rw [e, Nat.add_mul_div_left _ _ hm, Nat.add_mul_mod_self_left]
    have h1 : (2 * (N % m) + b) / m = 1 := by
      rw [Nat.div_eq_iff hm]; omega
    have h2 := Nat.div_add_mod (2 * (N % m) + b) m
    rw [h1] at h2
    exact ⟨by omega, by omega⟩

/-- the state at the head of the division's loop -/
structure DivS (w wr : World) (n m q r : Nat) : Prop where
  a : Has wr w.heap.size n
  b : Has wr (w.heap.size + 1) m
  c : Has wr (w.heap.size + 1 + 1) 0
  d : Has wr (w.heap.size + 1 + 1 + 1) 0
  q : Has wr (w.heap.size + 1 + 1 + 1 + 1) q
  r : Has wr (w.heap.size + 1 + 1 + 1 + 1 + 1) r
  only : Only (fun _ => False) w wr

theorem DivS.step {w wr w' : World} {n m q r : Nat} (h : DivS w wr n m q r) (ho : Only (fun _ => False) wr w') : DivS w w' n m q r :=
  ⟨h.a.only ho (fun f => f), h.b.only ho (fun f => f), h.c.only ho (fun f => f), h.d.only ho (fun f => f), h.q.only ho (fun f => f), h.r.only ho (fun f => f), h.only.trans ho⟩
theorem DivS.putr {w wr : World} {n m q r : Nat} (h : DivS w wr n m q r) (r' : Nat) : DivS w (puts (w.heap.size + 1 + 1 + 1 + 1 + 1) 0 (bigL (limb r')) wr) n m q r' :=
  ⟨h.a.other (by omega), h.b.other (by omega), h.c.other (by omega), h.d.other (by omega), h.q.other (by omega), h.r.put r', puts_only _ _ _ _ _ h.only (.inr (by omega))⟩
theorem DivS.putq {w wr : World} {n m q r : Nat} (h : DivS w wr n m q r) (q' : Nat) : DivS w (puts (w.heap.size + 1 + 1 + 1 + 1) 0 (bigL (limb q')) wr) n m q' r :=
  ⟨h.a.other (by omega), h.b.other (by omega), h.c.other (by omega), h.d.other (by omega), h.q.put q', h.r.other (by omega), puts_only _ _ _ _ _ h.only (.inr (by omega))⟩
theorem DivS.oner {w wr : World} {n m q r : Nat} (h : DivS w wr n m q (2 * r)) : DivS w (wr.setCell ⟨w.heap.size + 1 + 1 + 1 + 1 + 1, 0, none⟩ (.int .u64 (limb (2 * r + 1) 0 : Int))) n m q (2 * r + 1) :=
  have o := Only.set (fun k => k = w.heap.size + 1 + 1 + 1 + 1 + 1) wr (w.heap.size + 1 + 1 + 1 + 1 + 1) 0 (.int .u64 (limb (2 * r + 1) 0 : Int)) rfl
  ⟨h.a.only o (by omega), h.b.only o (by omega), h.c.only o (by omega), h.d.only o (by omega), h.q.only o (by omega), h.r.one, h.only.setCell (p := ⟨w.heap.size + 1 + 1 + 1 + 1 + 1, 0, none⟩) (.inr (by show _ ≤ w.heap.size + 1 + 1 + 1 + 1 + 1; omega)) _⟩
theorem DivS.oneq {w wr : World} {n m q r : Nat} (h : DivS w wr n m (2 * q) r) : DivS w (wr.setCell ⟨w.heap.size + 1 + 1 + 1 + 1, 0, none⟩ (.int .u64 (limb (2 * q + 1) 0 : Int))) n m (2 * q + 1) r :=
  have o := Only.set (fun k => k = w.heap.size + 1 + 1 + 1 + 1) wr (w.heap.size + 1 + 1 + 1 + 1) 0 (.int .u64 (limb (2 * q + 1) 0 : Int)) rfl
  ⟨h.a.only o (by omega), h.b.only o (by omega), h.c.only o (by omega), h.d.only o (by omega), h.q.one, h.r.only o (by omega), h.only.setCell (p := ⟨w.heap.size + 1 + 1 + 1 + 1, 0, none⟩) (.inr (by show _ ≤ w.heap.size + 1 + 1 + 1 + 1; omega)) _⟩

/-- a number boxed anew -/
theorem Has.new (w : World) (n : Nat) (t : TypeId) (cs : Array Value) (hcs : cs = (bigL (limb n)).toArray) : Has (w.alloc (.cells cs t)) w.heap.size n := by
  subst hcs
  intro j v hj
  refine ⟨?_, by simp⟩
  rw [Go.Joins.cell_of_block (cs := (bigL (limb n)).toArray) (t := t) (fr := (0, 0)) (by rw [heap_alloc, if_pos rfl]), List.getElem?_toArray, hj]
theorem Has.alloc {w : World} {g n : Nat} (h : Has w g n) (o : Obj) : Has (w.alloc o) g n := h.only (S := fun _ => False) ((Only.refl _ w).alloc o) (fun f => f)

theorem swap_world {P : Program} {c : Code} {Q : Exit → Act → World → Prop} {a : Act} {w w' : World} (h : w' = w) (k : Code.wp P c Q a w') : Code.wp P c Q a w := h ▸ k
end Go.Proofs.Ytooffbgcaichmaa.bigw
