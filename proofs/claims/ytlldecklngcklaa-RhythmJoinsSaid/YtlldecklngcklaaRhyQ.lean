/- Four ints held against four. -/
import Derived.Test.YtlldecklngcklaaMem
import Derived.ChangeKeysEq
namespace Go.Proofs.Ytlldecklngcklaa.rhyw
open Go.RowKit mem
set_option linter.unusedVariables false

theorem items4 (w : World) (d : Nat) (xs ys : Array Value) (A B : Nat → Int) : ∀ (is : List Nat), (∀ i ∈ is, xs[i]? = some (.int .i64 (A i)) ∧ ys[i]? = some (.int .i64 (B i))) →
    ∃ r : Bool, (Op.eqItems (d + 1) 3 1 xs ys is).run Try.prog w = .ok r w ∧ (r = true ↔ ∀ i ∈ is, A i = B i) := by
  intro is
  induction is with
  | nil => intro _; exact ⟨true, by simp [Op.eqItems], by simp⟩
  | cons i is ih =>
    intro h
    obtain ⟨h1, h2⟩ := h i (by simp)
    obtain ⟨r, hr, hiff⟩ := ih (fun j hj => h j (by simp [hj]))
    have hpk : Try.prog.plainKey 3 = true := by kernel_rfl
    have p1 := run_part_plain (P := Try.prog) (w := w) hpk (xs := xs) (off := i * 1) (v := .int .i64 (A i)) (by rw [Nat.mul_one]; exact h1)
    have p2 := run_part_plain (P := Try.prog) (w := w) hpk (xs := ys) (off := i * 1) (v := .int .i64 (B i)) (by rw [Nat.mul_one]; exact h2)
    have p3 := run_equalIn_int (P := Try.prog) w d 3 .i64 .i64 (A i) (B i) Try.underlying3
    simp only [Op.eqItems, Sem.run_bind, p1, p2, p3, Result.andThen_ok]
    by_cases hab : A i = B i
    · have : (A i == B i) = true := by rw [beq_iff_eq]; exact hab
      rw [this]
      refine ⟨r, by simpa using hr, ?_⟩
      rw [hiff]; simp [hab]
    · have : (A i == B i) = false := by rw [beq_eq_false_iff_ne]; exact hab
      rw [this]
      exact ⟨false, by simp, by simp [hab]⟩

def at4 (a b c d : Int) (i : Nat) : Int := if i = 0 then a else if i = 1 then b else if i = 2 then c else d
/-- two arrays are the same just if all their elements are -/
theorem eq4_run (n : Nat) (a b c d x y z u : Int) (w : World) :
    (Op.equalIn (n + 1 + 1) 108 (.agg #[.int .i64 a, .int .i64 b, .int .i64 c, .int .i64 d]) (.agg #[.int .i64 x, .int .i64 y, .int .i64 z, .int .i64 u])).run Try.prog w = .ok (decide (a = x ∧ b = y ∧ c = z ∧ d = u)) w := by
  obtain ⟨i0, hi, _⟩ : ∃ i, Try.prog.info? 3 = some i ∧ True := by
    have h : (Try.prog.info? 3).isSome = true := by kernel_rfl
    exact ⟨_, (Option.some_get h).symm, trivial⟩
  have hc : Try.prog.cellsOf 3 = 1 := by kernel_rfl
  have h1 := run_equalIn_array (P := Try.prog) w (n + 1) (t := 108) (e := 3) (n := 4) #[.int .i64 a, .int .i64 b, .int .i64 c, .int .i64 d] #[.int .i64 x, .int .i64 y, .int .i64 z, .int .i64 u] Try.underlying108 hi
  rw [h1, hc]
  obtain ⟨r, hr, hiff⟩ := items4 w n #[.int .i64 a, .int .i64 b, .int .i64 c, .int .i64 d] #[.int .i64 x, .int .i64 y, .int .i64 z, .int .i64 u] (at4 a b c d) (at4 x y z u) (List.range 4) (by
      intro i hi
      rw [List.mem_range] at hi
      match i, hi with
      | 0, _ => exact ⟨rfl, rfl⟩
      | 1, _ => exact ⟨rfl, rfl⟩
      | 2, _ => exact ⟨rfl, rfl⟩
      | 3, _ => exact ⟨rfl, rfl⟩)
  rw [hr]
  have : r = decide (a = x ∧ b = y ∧ c = z ∧ d = u) := by
    rw [Bool.eq_iff_iff, hiff, decide_eq_true_eq]
    have e : List.range 4 = [0, 1, 2, 3] := rfl
    rw [e]
    simp [at4]
  rw [this]
end Go.Proofs.Ytlldecklngcklaa.rhyw
