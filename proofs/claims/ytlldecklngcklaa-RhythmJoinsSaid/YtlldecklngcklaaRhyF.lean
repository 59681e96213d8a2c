/- Rhythms: the law's fixed rhythm. -/
import Derived.Test.YtlldecklngcklaaRhyE
namespace Go.Proofs.Ytlldecklngcklaa.rhyw
open Go.RowKit mem fltm rhym intm bigm bigw
set_option linter.unusedVariables false

/-- a box of four quarters stays -/
theorem box4 {w w' : World} {a b c d : Int} {t : TypeId} {g : Nat} (hg : g = w.heap.size) (ho : Only (fun _ => False) (w.alloc (.cells #[.int .i64 a, .int .i64 b, .int .i64 c, .int .i64 d] t)) w') :
    w'.cell? ⟨g, 0, none⟩ = some (.int .i64 a) ∧ w'.cell? ⟨g, 1, none⟩ = some (.int .i64 b) ∧ w'.cell? ⟨g, 2, none⟩ = some (.int .i64 c) ∧ w'.cell? ⟨g, 3, none⟩ = some (.int .i64 d) :=
  ⟨ho.cell' (alloc_new _ _ _ _ _ _ hg rfl) (fun f => f), ho.cell' (alloc_new _ _ _ _ _ _ hg rfl) (fun f => f), ho.cell' (alloc_new _ _ _ _ _ _ hg rfl) (fun f => f), ho.cell' (alloc_new _ _ _ _ _ _ hg rfl) (fun f => f)⟩

set_option maxRecDepth 100000 in
theorem beats_any (w : World) : Calls Try.prog 63 #[] w fun e w' => e = .returned (.bool true) ∧ Only (fun _ => False) w w' := by
  have HV : Hid (∀ w, Calls Try.prog 62 #[.agg #[.int .i64 0, .int .i64 5, .int .i64 0, .int .i64 2]] w fun e w' => e = .returned (.complex .f64 0 4613937818241073152) ∧ Only (fun _ => False) w w') := Lib.hid (fun w => by
    have := vector_any 0 5 0 2 w
    rw [show fl (vx 0 5 0 2) = 0 by kernel_rfl, show fl (vy 0 5 0 2) = 4613937818241073152 by kernel_rfl] at this
    exact this)
  have HP : Hid (∀ w, Calls Try.prog 57 #[.agg #[.int .i64 0, .int .i64 5, .int .i64 0, .int .i64 2]] w fun e w' => e = .returned (.tuple #[.int .i64 1, .bool true]) ∧ Only (fun _ => False) w w') := Lib.hid (fun w => by
    have := peak_any 0 5 0 2 w
    rw [show peakN (vx 0 5 0 2) (vy 0 5 0 2) = 1 by kernel_rfl, show peakB (vx 0 5 0 2) (vy 0 5 0 2) = true by kernel_rfl] at this
    exact this)
  have HS : Hid (∀ w, Calls Try.prog 59 #[.agg #[.int .i64 0, .int .i64 5, .int .i64 0, .int .i64 2]] w fun e w' => e = .returned (.tuple #[.int .i64 9, .bool true]) ∧ Only (fun _ => False) w w') := Lib.hid (fun w => by
    have := strength_any 0 5 0 2 w
    rw [show stNQ 0 5 0 2 = 9 by kernel_rfl, show stBQ 0 5 0 2 = true by kernel_rfl] at this
    exact this)
  have o1 : (FloatKind.f64.format.order 0 0 == some Ordering.eq) = true := by kernel_rfl
  have o2 : (FloatKind.f64.format.order 4613937818241073152 4613937818241073152 == some Ordering.eq) = true := by kernel_rfl
  have HR : Hid (∀ w', Only (fun _ => False) w' w') := Lib.hid (fun w' => Only.refl _ w')
  go_enter Try.func63, Try.ntmps63
  go_wp2_with fail
  refine (HP.out _).mono ?_
  rintro _ w1 ⟨rfl, h1⟩
  obtain ⟨p0, p1, p2, p3⟩ := box4 rfl h1
  have H1 := Lib.hid h1
  clear h1
  go_wp2_with fail
  refine (HS.out _).mono ?_
  rintro _ w2 ⟨rfl, h2⟩
  have H2 := Lib.hid (H1.out.trans h2)
  clear h2 p0 p1 p2 p3
  obtain ⟨p0, p1, p2, p3⟩ := box4 rfl H2.out
  go_wp2_with fail
  refine (HV.out _).mono ?_
  rintro _ w3 ⟨rfl, h3⟩
  have H3 := Lib.hid (((Only.refl (fun _ => False) w).alloc _).trans (H2.out.trans h3))
  clear h3 p0 p1 p2 p3
  go_wp2_with fail
  go_ret
  exact ⟨rfl, H3.out⟩
end Go.Proofs.Ytlldecklngcklaa.rhyw
