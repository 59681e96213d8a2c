/- The document's disk: DocWrite of what is refused. -/
import Derived.Test.YtodmfljhojdbkaaDdE
namespace Go.Proofs.Ytodmfljhojdbkaa.dskw
open Go.RowKit mem
set_option linter.unusedVariables false

theorem rwrite_off (q bL bN bD n cL cN cD : Nat) (La No : Nat → List Nat) (Di : Nat → Bool) (armed f : Int) (l : List Nat) (w : World) (h : DdAt w q bL bN bD n cL cN cD La No Di armed true) :
    Calls Try.prog 11 #[.pointer (some ⟨q, 0, none⟩), .int .i64 f, .string (strN l)] w fun e w' => e = .returned (.int .i64 12) ∧ w = w' := by
  have c4 := h.c4
  clear h
  go_enter Try.func11, Try.ntmps11
  go_wp2_with fail
  go_ret
  exact ⟨rfl, rfl⟩
theorem rwrite_odd (q bL bN bD n cL cN cD : Nat) (La No : Nat → List Nat) (Di : Nat → Bool) (armed f : Int) (l : List Nat) (w : World) (h : DdAt w q bL bN bD n cL cN cD La No Di armed false) (hl : l.length % 64 ≠ 0) :
    Calls Try.prog 11 #[.pointer (some ⟨q, 0, none⟩), .int .i64 f, .string (strN l)] w fun e w' => e = .returned (.int .i64 1) ∧ w = w' := by
  have c4 := h.c4
  have hs := strN_size l
  obtain ⟨s, hse⟩ : ∃ s, strN l = s := ⟨_, rfl⟩
  rw [hse] at hs ⊢
  have hz0 : ¬ (64 : Int) = 0 := by decide
  have hm : (s.size : Int).tmod 64 = ((l.length % 64 : Nat) : Int) := by rw [hs]; rfl
  obtain ⟨r, hr⟩ : ∃ r, l.length % 64 = r := ⟨_, rfl⟩
  rw [hr] at hm hl
  have hb : ((r : Int) != 0) = true := by rw [bne_iff_ne]; omega
  clear h hs hse hr
  go_enter Try.func11, Try.ntmps11
  go_wp2_with fail
  go_ret
  exact ⟨rfl, rfl⟩
end Go.Proofs.Ytodmfljhojdbkaa.dskw
