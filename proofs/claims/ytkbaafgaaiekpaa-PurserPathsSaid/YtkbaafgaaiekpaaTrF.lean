/- The tree: Below. -/
import Derived.Test.YtkbaafgaaiekpaaTrE
namespace Go.Proofs.Ytkbaafgaaiekpaa.tre
open Go.RowKit mem
set_option linter.unusedVariables false

def belF (T : List Nd) (id : Int) (u : Int) : Bool := (pathL T u).contains id
def belowL (T : List Nd) (id : Int) : List Int := (idsL T).filter (belF T id)
theorem filter_step (f : Int → Bool) (l : List Int) (k : Nat) (h : k < l.length) : (l.take (k + 1)).filter f = if f (l.getD k 0) = true then (l.take k).filter f ++ [l.getD k 0] else (l.take k).filter f := by
  have e : l.getD k 0 = l[k] := by simp [List.getD, h]
  rw [List.take_succ_eq_append_getElem h, List.filter_append, e]
  by_cases hf : f l[k] = true
  · rw [if_pos hf]; simp [hf]
  · rw [if_neg hf]; simp [hf]
theorem contains_any (a : Option Addr) (c : Nat) (l : List Int) (x : Int) (w : World) (h : ReadsI w a l.length l) : Calls Try.prog 34 #[.slice a l.length c, .int .i64 x] w fun e w' => e = .returned (.bool (l.contains x)) ∧ w = w' := by
  obtain ⟨h1, h2, h3, h4⟩ := h
  unfold maxLen at h2
  by_cases h0 : l.length = 0
  · obtain rfl : l = [] := List.eq_nil_of_length_eq_zero h0
    exact (Try.slices_Contains_int_empty a c x w).mono fun _ _ ⟨p, q⟩ => ⟨p, q.symm⟩
  · obtain ⟨b, off, rfl, hc⟩ := h4.resolve_left h0
    refine (Try.slices_Contains_int b off l.length c l x w (Nat.le_refl _) (by omega) hc).mono fun _ _ ⟨p, q⟩ => ⟨?_, q.symm⟩
    rw [p, List.take_length]
theorem pathL_in {T : List Nd} (hi : Inv T) {id : Int} (hb : hasB T id = true) : ∀ c ∈ pathL T id, hasB T c = true := fun c hc => upL_in hi _ id hb rfl c (by unfold pathL at hc; simpa using hc)
end Go.Proofs.Ytkbaafgaaiekpaa.tre
