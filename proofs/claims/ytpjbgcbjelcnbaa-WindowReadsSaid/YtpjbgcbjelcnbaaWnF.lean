/- WindowKnown's walk. -/
import Derived.Test.YtpjbgcbjelcnbaaWnE
namespace Go.Proofs.Ytpjbgcbjelcnbaa.wnd
open Go.RowKit mem rowz dskw
set_option linter.unusedVariables false

theorem wrap64_eq (n : Int) : wrap64 n = (n + 9223372036854775808) % 18446744073709551616 - 9223372036854775808 := by unfold wrap64; rfl
theorem tmod_in (y m : Int) (hm : 0 < m) (hm2 : m ≤ 100000000000000000) : 0 ≤ wrap64 ((IntKind.u64.wrap y).tmod m) ∧ wrap64 ((IntKind.u64.wrap y).tmod m) < m := by
  have e : IntKind.u64.wrap y = y % 18446744073709551616 := by rw [IntKind.wrap_u64]
  have h0 : 0 ≤ y % 18446744073709551616 := Int.emod_nonneg _ (by omega)
  rw [e, Int.tmod_eq_emod_of_nonneg h0]
  have h1 : 0 ≤ (y % 18446744073709551616) % m := Int.emod_nonneg _ (by omega)
  have h2 : (y % 18446744073709551616) % m < m := Int.emod_lt_of_pos _ hm
  generalize (y % 18446744073709551616) % m = z at *
  rw [wrap64_eq]
  omega
/-- one of those that are kept -/
def fK (D : List Bs) (j : Nat) : Kp := ⟨j, [j], (D.getD j default).l.take 50⟩
theorem fK_n (D : List Bs) (j : Nat) : (fK D j).n = j := rfl
theorem RowB.only {S : Nat → Prop} {w w' : World} {a : Option Addr} {len : Nat} {D : List Bs} (h : RowB w a len D) (hb : ∀ q, S q → w.heap.size ≤ q) (ho : Only S w w') : RowB w' a len D := by
  obtain ⟨h1, h2, h3, h4⟩ := h
  refine ⟨h1, h2, ?_, ?_⟩
  · rcases h3 with h0 | ⟨b, off, e, hc⟩
    · exact .inl h0
    · refine .inr ⟨b, off, e, fun i hi => ?_⟩
      have h9 := hc i hi
      exact ho.cell' h9 (fun s => by have h5 := World.block_lt_of_cell? w _ h9; have h6 := hb _ s; simp only at h5 h6; omega)
  · intro i hi
    refine ⟨?_, (h4 i hi).2⟩
    have hr := (h4 i hi).1
    by_cases h0 : (D.getD i default).n = 0
    · exact ⟨hr.1, hr.2.1, hr.2.2.1, .inl h0⟩
    · exact hr.only ho (fun y e s => by
        rw [e] at hr
        have := hr.lt (by omega)
        have := hb _ s
        omega)
end Go.Proofs.Ytpjbgcbjelcnbaa.wnd
