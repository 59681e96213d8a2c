/- Grants: the law's own fixed grant. -/
import Derived.Test.YtghajamcjcflaaaGrC
import Derived.Test.YtghajamcjcflaaaGrA
import Derived.DeepKeys
namespace Go.Proofs.Ytghajamcjcflaaa.tirw
open Go.RowKit mem tirm intm bigm bigw
set_option linter.unusedVariables false

theorem key_gr (g u a : Int) (f : Bool) (hg : InI g) (hu : InI u) (ha : InI a) : Try.prog.keyLits 2 50 [.int .i64 g, .int .i64 u, .int .i64 a, .bool f] = some [.int .i64 g, .int .i64 u, .int .i64 a, .bool f] := by
  have c3 : Try.prog.cellsOf 3 = 1 := by kernel_rfl
  have c4 : Try.prog.cellsOf 4 = 1 := by kernel_rfl
  have c5 : Try.prog.cellsOf 50 = 4 := by kernel_rfl
  have hw : ∀ {n : Int}, InI n → (Lit.int .i64 n).wf = true := by
    intro n h
    unfold InI at h
    simp [Lit.wf, IntKind.min, IntKind.max, IntKind.signed, IntKind.bits]; omega
  simp [Program.keyLits, Try.underlying50, Try.underlying3, Try.underlying4, c3, c4, c5, hw hg, hw hu, hw ha]
theorem gr_eq (g u a : Int) (f : Bool) (hg : InI g) (hu : InI u) (ha : InI a) (w : World) : (Op.equalIn 10000 50 (.agg #[.int .i64 g, .int .i64 u, .int .i64 a, .bool f]) (.agg #[.int .i64 g, .int .i64 u, .int .i64 a, .bool f])).run Try.prog w = .ok true w := by
  obtain ⟨r, hr, hiff⟩ := run_equalIn_deep (P := Try.prog) 9990 10 50 (by kernel_rfl) w 2 2 (.agg #[.int .i64 g, .int .i64 u, .int .i64 a, .bool f]) (.agg #[.int .i64 g, .int .i64 u, .int .i64 a, .bool f]) _ _ (by kernel_rfl) (by kernel_rfl) (key_gr g u a f hg hu ha) (key_gr g u a f hg hu ha)
  rw [show (10000 : Nat) = 9990 + 10 from rfl, hr, hiff.2 rfl]
set_option maxRecDepth 100000 in
set_option maxHeartbeats 1000000 in
theorem grants_any (w : World) : Calls Try.prog 18 #[] w fun e w' => e = .returned (.bool true) ∧ Only (fun _ => False) w w' := by
  obtain ⟨W0, hW0⟩ : ∃ W0, W0 = (w.alloc (.cells #[.int .i64 0, .int .i64 3] 91)).alloc (.cells #[.int .i64 0, .int .i64 0, .int .i64 0, .int .i64 1, .int .i64 1, .int .i64 10, .slice (some ⟨w.heap.size, 0, none⟩) 1 1, .int .i64 0, .int .i64 0, .int .i64 0, .slice none 0 0] 39) := ⟨_, rfl⟩
  have HO0 : Hid (Only (fun _ => False) w W0) := Lib.hid (by rw [hW0]; exact ((Only.refl _ w).alloc _).alloc _)
  have HPA : Hid (PlanAt W0 (w.heap.size + 1) 0 0 0 1 1 10 0 0 0 (some ⟨w.heap.size, 0, none⟩) none 1 0 1 0) := Lib.hid (by
    rw [hW0]
    have h := PlanAt.new (w := w.alloc (.cells #[.int .i64 0, .int .i64 3] 91)) 0 0 0 1 1 10 0 0 0 (some ⟨w.heap.size, 0, none⟩) none 1 0 1 0 39
    have e : (w.alloc (.cells #[.int .i64 0, .int .i64 3] 91)).heap.size = w.heap.size + 1 := by simp
    rw [e] at h
    exact h)
  have HR : Hid (ReadsT W0 (some ⟨w.heap.size, 0, none⟩) 1 oneT) := Lib.hid (by rw [hW0]; exact (one_reads w _ rfl).only ((Only.refl (fun _ => False) _).alloc _) (fun _ _ f => f))
  have HMK : Hid (∀ w', Only (fun _ => False) W0 w' → Calls Try.prog 22 #[.agg #[.int .i64 0, .int .i64 0, .int .i64 0, .int .i64 1, .int .i64 1, .int .i64 10, .slice (some ⟨w.heap.size, 0, none⟩) 1 1, .int .i64 0, .int .i64 0, .int .i64 0, .slice none 0 0], .int .i64 7, .int .i64 100] w' fun e w'' => e = .returned (.tuple #[.agg #[.int .i64 1, .int .i64 20, .int .i64 6, .bool true], .int .i64 0]) ∧ Only (fun _ => False) w' w'') := Lib.hid (fun w' ho => by
    have h := make_any 0 0 0 1 1 10 0 0 0 (some ⟨w.heap.size, 0, none⟩) none 1 0 1 0 oneT [] 7 100 w' (HR.out.only ho (fun _ _ f => f)) (ReadsT.nil _ _) (by omega)
    have e1 : mkG 0 0 0 1 1 10 0 0 0 oneT [] 7 100 = ⟨1, 20, 6, true⟩ := by kernel_rfl
    have e2 : mkE 0 0 0 1 1 10 0 0 0 oneT [] 7 100 = 0 := by kernel_rfl
    rw [e1, e2] at h
    exact h)
  have HST : Hid (∀ w', Only (fun _ => False) W0 w' → Calls Try.prog 40 #[.agg #[.int .i64 1, .int .i64 20, .int .i64 6, .bool true], .agg #[.int .i64 0, .int .i64 0, .int .i64 0, .int .i64 1, .int .i64 1, .int .i64 10, .slice (some ⟨w.heap.size, 0, none⟩) 1 1, .int .i64 0, .int .i64 0, .int .i64 0, .slice none 0 0], .int .i64 0, .int .i64 0, .int .i64 15] w' fun e w'' => (∃ a cap, e = .returned (.tuple #[.agg #[.slice a 1 cap, .int .i64 2, .int .i64 6, .int .i64 2], .int .i64 0, .int .i64 0])) ∧ Only (fun _ => False) w' w'') := Lib.hid (fun w' ho => by
    have h := settle_any 0 0 0 1 1 10 0 0 0 (some ⟨w.heap.size, 0, none⟩) none 1 0 1 0 oneT [] 1 20 6 0 0 15 true w' (HR.out.only ho (fun _ _ f => f)) (ReadsT.nil _ _) (by omega) (by omega)
    have e1 : stE 0 0 0 1 1 10 0 0 0 oneT [] 1 20 6 0 0 15 = 0 := by kernel_rfl
    have e2 : raL 0 0 0 1 1 10 0 0 0 oneT [] 0 0 15 = [⟨0, 2, 3⟩] := by kernel_rfl
    have e3 : raK 0 0 0 1 1 10 0 0 0 oneT [] 0 0 15 = 2 := by kernel_rfl
    have e4 : raP 0 0 0 1 1 10 0 0 0 oneT [] 0 0 15 = 2 := by kernel_rfl
    have e5 : costB [⟨0, 2, 3⟩] = 6 := by kernel_rfl
    rw [e1, e2, e3, e4, e5] at h
    refine h.mono ?_
    intro e w'' h'
    unfold SetAt at h'
    rw [if_pos rfl] at h'
    obtain ⟨a, cap, h1, _, h3⟩ := h'
    exact ⟨⟨a, cap, h1⟩, h3⟩)
  have HEQ := Lib.hid (fun w => gr_eq 1 20 6 true (by unfold InI; omega) (by unfold InI; omega) (by unfold InI; omega) w)
  obtain ⟨p0, p1, p2, p3, p4, p5, p6, p7, p8, p9, p10⟩ := HPA.out
  rw [hW0] at p0 p1 p2 p3 p4 p5 p6 p7 p8 p9 p10
  go_enter Try.func18, Try.ntmps18
  go_wp2_with fail
  rw [← hW0]
  clear hW0 p0 p1 p2 p3 p4 p5 p6 p7 p8 p9 p10
  refine (HMK.out _ (Only.refl _ _)).mono ?_
  rintro _ w1 ⟨rfl, k1⟩
  obtain ⟨w2, hw2⟩ : ∃ w2, w2 = w1.alloc (.cells #[.int .i64 1, .int .i64 20, .int .i64 6, .bool true] 50) := ⟨_, rfl⟩
  have K2 : Hid (Only (fun _ => False) W0 w2) := Lib.hid (by rw [hw2]; exact k1.alloc _)
  have HB : Hid (BoxV w2 w1.heap.size [.int .i64 1, .int .i64 20, .int .i64 6, .bool true]) := Lib.hid (by rw [hw2]; exact BoxV.new _ [.int .i64 1, .int .i64 20, .int .i64 6, .bool true] _ _ rfl)
  clear k1
  obtain ⟨p0, p1, p2, p3, p4, p5, p6, p7, p8, p9, p10⟩ := HPA.out.only K2.out (fun f => f)
  have b0 := (HB.out 0 _ rfl).1; have b1 := (HB.out 1 _ rfl).1; have b2 := (HB.out 2 _ rfl).1; have b3 := (HB.out 3 _ rfl).1
  rw [hw2] at p0 p1 p2 p3 p4 p5 p6 p7 p8 p9 p10 b0 b1 b2 b3
  go_wp2_with fail
  rw [← hw2]
  clear hw2 p0 p1 p2 p3 p4 p5 p6 p7 p8 p9 p10 b0 b1 b2 b3
  refine (HST.out _ K2.out).mono ?_
  rintro _ w3 ⟨⟨a, cap, rfl⟩, k3⟩
  have K3 := Lib.hid (K2.out.trans k3)
  have hB3 := (HB.out.only k3 (fun f => f)).only ((Only.refl (fun _ => False) w3).alloc (.cells #[.slice a 1 cap, .int .i64 2, .int .i64 6, .int .i64 2] 66)) (fun f => f)
  have b0 := (hB3 0 _ rfl).1; have b1 := (hB3 1 _ rfl).1; have b2 := (hB3 2 _ rfl).1; have b3 := (hB3 3 _ rfl).1
  have heq := HEQ.out
  clear k3 hB3
  go_wp2_with fail
  go_ret
  exact ⟨rfl, (HO0.out.trans K3.out).alloc _⟩
end Go.Proofs.Ytghajamcjcflaaa.tirw
