/- TimerMany's walk. -/
import Derived.Test.YtiohdfplgpmcdaaTmI
import Derived.Deep.CutBlock
namespace Go.Proofs.Ytiohdfplgpmcdaa.tmw
open Go.RowKit mem rowz
set_option linter.unusedVariables false

theorem insM_end (x : Tm) : ∀ r : List Tm, (∀ y ∈ r, ltM y x) → insM x r = r ++ [x]
  | [], _ => rfl
  | y :: r, h => by
    unfold insM
    rw [if_pos (h y List.mem_cons_self), insM_end x r fun z hz => h z (List.mem_cons_of_mem _ hz)]
    rfl
theorem remM_len (g : Int) : ∀ l : List Tm, (∃ x ∈ l, x.i = g) → (remM g l).length + 1 = l.length
  | [], h => by obtain ⟨x, hx, _⟩ := h; cases hx
  | p :: r, h => by
    unfold remM
    split
    · rfl
    · rename_i e
      obtain ⟨x, hx, hg⟩ := h
      rcases List.mem_cons.1 hx with rfl | hx
      · exact absurd hg e
      · have := remM_len g r ⟨x, hx, hg⟩
        simp only [List.length_cons]
        omega
/-- the law's many -/
def Many (f : Int) (i : Nat) (l : List Tm) : Prop := l.length = i ∧ (∀ x ∈ l, (f ≤ x.i ∧ x.i < f + i) ∧ x.a < 5000) ∧ (0 < i → ∃ x ∈ l, x.i = f)
theorem Many.next {f : Int} {i : Nat} {l : List Tm} (h : Many f i l) (hg : Good l) {a : Int} (ha : a < 5000) : remM (f + i) l = l ∧ Many f (i + 1) (putM ⟨a, f + i⟩ l) := by
  obtain ⟨h1, h2, h3⟩ := h
  have e : remM (f + i) l = l := remM_none _ _ fun x hx => by have := h2 x hx; omega
  refine ⟨e, ?_, fun x hx => ?_, fun _ => ?_⟩
  · unfold putM
    show (insM _ (remM (f + i) l)).length = _
    rw [e, insM_len, h1]
  · rcases (put_mem _ x l hg.2.1).1 hx with rfl | ⟨hx, _⟩
    · exact ⟨⟨by show f ≤ f + (i : Int); omega, by show f + (i : Int) < f + ((i + 1 : Nat) : Int); omega⟩, ha⟩
    · have := h2 x hx; exact ⟨by omega, this.2⟩
  · by_cases hi : i = 0
    · subst hi
      exact ⟨⟨a, f + (0 : Nat)⟩, (put_mem _ _ l hg.2.1).2 (.inl rfl), by show f + ((0 : Nat) : Int) = f; omega⟩
    · obtain ⟨x, hx, e⟩ := h3 (by omega)
      exact ⟨x, (put_mem _ _ l hg.2.1).2 (.inr ⟨hx, by show x.i ≠ f + (i : Int); omega⟩), e⟩
theorem Many.last {f : Int} {l : List Tm} (h : Many f 1024 l) (hg : Good l) : remM (f + 2000) l = l ∧ (remM f l).length = 1023 ∧ (dueM 5000 (putM ⟨6000, f⟩ l)).length = 1023 ∧ (leftM 5000 (putM ⟨6000, f⟩ l)).length = 1 := by
  obtain ⟨h1, h2, h3⟩ := h
  have e1 := remM_len f l (h3 (by omega))
  have hr : ∀ y ∈ remM f l, y.a < 5000 := fun y hy => (h2 y ((remM_sub f l).subset hy)).2
  have e2 : putM ⟨6000, f⟩ l = remM f l ++ [⟨6000, f⟩] := insM_end _ _ fun y hy => by
    left; have := hr y hy; show y.a < 6000; omega
  have e3 : dueM 5000 (putM ⟨6000, f⟩ l) = remM f l := by
    rw [e2]
    unfold dueM
    rw [List.takeWhile_append_of_pos (by intro y hy; simpa using hr y hy)]
    simp
  have e4 := congrArg List.length (due_left 5000 (putM ⟨6000, f⟩ l))
  rw [List.length_append, e3, e2, List.length_append] at e4
  refine ⟨remM_none _ _ fun x hx => by have := h2 x hx; omega, by omega, by rw [e3]; omega, ?_⟩
  rw [e2]
  simp only [List.length_cons, List.length_nil] at e4
  omega
theorem wrap64_eq (n : Int) : wrap64 n = (n + 9223372036854775808) % 18446744073709551616 - 9223372036854775808 := by unfold wrap64; rfl
theorem tmod_in (y m : Int) (hm : 0 < m) (hm2 : m ≤ 100000000000000000) : 0 ≤ wrap64 ((IntKind.u64.wrap y).tmod m) ∧ wrap64 ((IntKind.u64.wrap y).tmod m) < m := by
  have e : IntKind.u64.wrap y = y % 18446744073709551616 := by rw [IntKind.wrap_u64]
  have h0 : 0 ≤ y % 18446744073709551616 := Int.emod_nonneg _ (by omega)
  rw [e, Int.tmod_eq_emod_of_nonneg h0]
  have h1 := Int.emod_nonneg (y % 18446744073709551616) (show m ≠ 0 by omega)
  have h2 := Int.emod_lt_of_pos (y % 18446744073709551616) hm
  rw [wrap64_eq]
  omega
end Go.Proofs.Ytiohdfplgpmcdaa.tmw
