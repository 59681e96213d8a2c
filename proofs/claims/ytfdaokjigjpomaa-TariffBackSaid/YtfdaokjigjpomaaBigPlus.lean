/- The document's numbers in parts: what zero, Plus, Minus and Int answer. -/
import Derived.Test.YtfdaokjigjpomaaBigAdd
import Derived.ChangeKeysEq
namespace Go.Proofs.Ytfdaokjigjpomaa.bigw
open Go.RowKit mem bigm
set_option linter.unusedVariables false

theorem items_eq (w : World) (d : Nat) (xs ys : Array Value) (A B : Nat → Nat) : ∀ (is : List Nat), (∀ i ∈ is, xs[i]? = some (.int .u64 (A i : Int)) ∧ ys[i]? = some (.int .u64 (B i : Int))) →
    ∃ r : Bool, (Op.eqItems (d + 1) 72 1 xs ys is).run Try.prog w = .ok r w ∧ (r = true ↔ ∀ i ∈ is, A i = B i) := by
  intro is
  induction is with
  | nil => intro _; exact ⟨true, by simp [Op.eqItems], by simp⟩
  | cons i is ih =>
    intro h
    obtain ⟨h1, h2⟩ := h i (by simp)
    obtain ⟨r, hr, hiff⟩ := ih (fun j hj => h j (by simp [hj]))
    have hpk : Try.prog.plainKey 72 = true := by kernel_rfl
    have p1 := run_part_plain (P := Try.prog) (w := w) hpk (xs := xs) (off := i * 1) (v := .int .u64 (A i : Int)) (by rw [Nat.mul_one]; exact h1)
    have p2 := run_part_plain (P := Try.prog) (w := w) hpk (xs := ys) (off := i * 1) (v := .int .u64 (B i : Int)) (by rw [Nat.mul_one]; exact h2)
    have p3 := run_equalIn_int (P := Try.prog) w d 72 .u64 .u64 (A i : Int) (B i : Int) Try.underlying72
    simp only [Op.eqItems, Sem.run_bind, p1, p2, p3, Result.andThen_ok]
    by_cases hab : A i = B i
    · have : ((A i : Int) == (B i : Int)) = true := by rw [beq_iff_eq]; omega
      rw [this]
      refine ⟨r, by simpa using hr, ?_⟩
      rw [hiff]; simp [hab]
    · have : ((A i : Int) == (B i : Int)) = false := by rw [beq_eq_false_iff_ne]; omega
      rw [this]
      exact ⟨false, by simp, by simp [hab]⟩

/-- a number is none if all its parts are -/
def allZero (A : Nat → Nat) : Bool := (List.range 10).all fun i => A i == 0

theorem boxes_two_frozen (w : World) (A B C : Nat → Nat) (s t u : Bool) (ty : TypeId) (j : Nat) (v : Value) (h : (bigC B t)[j]? = some v) : (boxes w A B C s t u ty).frozen? ⟨w.heap.size + 1, j, none⟩ = false := by
  have h1 := frozen_new (w.alloc (.cells (bigC A s) ty)) (bigC B t) ty (w.heap.size + 1) j (by rw [size_alloc])
  exact (((Only.refl (fun _ => False) _).alloc _).frozen (p := ⟨w.heap.size + 1, j, none⟩) (by rw [size_alloc, size_alloc]; exact Nat.lt_succ_self _) (fun f => f)).trans h1

theorem allZero_limb {n : Nat} (h : n < 4294967296 ^ 10) : allZero (limb n) = decide (n = 0) := by
  rw [Bool.eq_iff_iff]
  unfold allZero
  simp only [List.all_eq_true, List.mem_range, beq_iff_eq, decide_eq_true_eq]
  constructor
  · intro hz
    have h1 := val_limb n 10
    have h2 : ∀ k, k ≤ 10 → val (limb n) k = 0 := by
      intro k
      induction k with
      | zero => intro _; rfl
      | succ k ih => intro hk; show val (limb n) k + limb n k * _ = 0; rw [ih (by omega), hz k (by omega)]; simp
    rw [h2 10 (by omega), Nat.mod_eq_of_lt h] at h1
    exact h1.symm
  · intro h0 i _
    subst h0
    unfold limb; simp

/-- a number with its sign -/
def sb (x : Int) : Value := big (limb x.natAbs) (decide (x < 0))

theorem sb_unlike {x y : Int} {n m : Nat} {s t : Bool} (hn : x.natAbs = n) (hm : y.natAbs = m) (hs : decide (x < 0) = s) (ht : decide (y < 0) = t) (hst : ¬ s = t) :
    ∀ (d : Nat) (u : Bool), (n < m → d = m - n ∧ u = t) → (m < n → d = n - m ∧ u = s) → (n = m → d = 0 ∧ u = false) → sb (x + y) = big (limb d) u := by
  intro d u h1 h2 h3
  have e : (x + y).natAbs = d ∧ decide (x + y < 0) = u := by
    rcases Nat.lt_trichotomy n m with g | g | g
    · obtain ⟨rfl, rfl⟩ := h1 g
      refine ⟨?_, ?_⟩
      · by_cases g1 : x < 0 <;> by_cases g2 : y < 0 <;> simp [g1, g2] at hs ht <;> subst hs ht <;> simp at hst <;> omega
      · rw [← ht, decide_eq_decide]
        by_cases g1 : x < 0 <;> by_cases g2 : y < 0 <;> simp [g1, g2] at hs ht <;> subst hs ht <;> simp at hst <;> omega
    · obtain ⟨rfl, rfl⟩ := h3 g
      refine ⟨?_, ?_⟩
      · by_cases g1 : x < 0 <;> by_cases g2 : y < 0 <;> simp [g1, g2] at hs ht <;> subst hs ht <;> simp at hst <;> omega
      · rw [decide_eq_false_iff_not]
        by_cases g1 : x < 0 <;> by_cases g2 : y < 0 <;> simp [g1, g2] at hs ht <;> subst hs ht <;> simp at hst <;> omega
    · obtain ⟨rfl, rfl⟩ := h2 g
      refine ⟨?_, ?_⟩
      · by_cases g1 : x < 0 <;> by_cases g2 : y < 0 <;> simp [g1, g2] at hs ht <;> subst hs ht <;> simp at hst <;> omega
      · rw [← hs, decide_eq_decide]
        by_cases g1 : x < 0 <;> by_cases g2 : y < 0 <;> simp [g1, g2] at hs ht <;> subst hs ht <;> simp at hst <;> omega
  unfold sb; rw [e.1, e.2]

end Go.Proofs.Ytfdaokjigjpomaa.bigw
