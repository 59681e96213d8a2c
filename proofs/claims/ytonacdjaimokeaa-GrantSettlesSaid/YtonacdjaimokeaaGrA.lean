/- Grants: tame of a plan; to. -/
import Derived.Test.YtonacdjaimokeaaGrA1
import Derived.Test.YtonacdjaimokeaaGrA2
import Derived.Test.YtonacdjaimokeaaGrA3
namespace Go.Proofs.Ytonacdjaimokeaa.tirw
open Go.RowKit mem tirm intm bigm bigw
set_option linter.unusedVariables false
theorem gtame_any (D F T G1 M1 B1 G2 M2 B2 : Int) (a1 a2 : Option Addr) (n1 n2 c1 c2 : Nat) (t1 t2 : List Tr) (w : World) (h1 : TiersR w a1 n1 c1 t1) (h2 : TiersR w a2 n2 c2 t2) :
    Calls Try.prog 39 #[.agg #[.int .i64 D, .int .i64 F, .int .i64 T, .int .i64 G1, .int .i64 M1, .int .i64 B1, .slice a1 n1 c1, .int .i64 G2, .int .i64 M2, .int .i64 B2, .slice a2 n2 c2]] w (PTame D F T G1 M1 B1 G2 M2 B2 (t1.take (min n1 9)) (t2.take (min n2 9)) w) := by
  have hm : min (0 : Int) 9 = 0 := by decide
  rcases three h1 with ⟨rfl, rfl, rfl, e1⟩ | ⟨x1, rfl, ⟨p1, p2, p3, p4, p5⟩ | ⟨p1, p2, p3, p6, p4, p5⟩⟩
  · rcases three h2 with ⟨rfl, rfl, rfl, e2⟩ | ⟨x2, rfl, ⟨q1, q2, q3, q4, q5⟩ | ⟨q1, q2, q3, q6, q4, q5⟩⟩
    · rw [e1, e2]
      exact gtame_nn D F T G1 M1 B1 G2 M2 B2 [] [] w _ hm hm (ReadsT.nil _ _) (ReadsT.nil _ _) (ptame_mk rfl rfl)
    · rw [e1]
      exact gtame_nl D F T G1 M1 B1 G2 M2 B2 x2 n2 c2 [] _ w _ hm q1 q2 q3 (ReadsT.nil _ _) q4 (ptame_mk rfl q5)
    · rw [e1]
      exact gtame_nm D F T G1 M1 B1 G2 M2 B2 x2 n2 c2 [] _ w _ hm q1 q2 q3 q6 (ReadsT.nil _ _) q4 (ptame_mk rfl q5)
  · rcases three h2 with ⟨rfl, rfl, rfl, e2⟩ | ⟨x2, rfl, ⟨q1, q2, q3, q4, q5⟩ | ⟨q1, q2, q3, q6, q4, q5⟩⟩
    · rw [e2]
      exact gtame_ln D F T G1 M1 B1 G2 M2 B2 x1 n1 c1 _ [] w _ p1 p2 p3 hm p4 (ReadsT.nil _ _) (ptame_mk p5 rfl)
    · exact gtame_ll D F T G1 M1 B1 G2 M2 B2 x1 n1 c1 x2 n2 c2 _ _ w _ p1 p2 p3 q1 q2 q3 p4 q4 (ptame_mk p5 q5)
    · exact gtame_lm D F T G1 M1 B1 G2 M2 B2 x1 n1 c1 x2 n2 c2 _ _ w _ p1 p2 p3 q1 q2 q3 q6 p4 q4 (ptame_mk p5 q5)
  · rcases three h2 with ⟨rfl, rfl, rfl, e2⟩ | ⟨x2, rfl, ⟨q1, q2, q3, q4, q5⟩ | ⟨q1, q2, q3, q6, q4, q5⟩⟩
    · rw [e2]
      exact gtame_mn D F T G1 M1 B1 G2 M2 B2 x1 n1 c1 _ [] w _ p1 p2 p3 p6 hm p4 (ReadsT.nil _ _) (ptame_mk p5 rfl)
    · exact gtame_ml D F T G1 M1 B1 G2 M2 B2 x1 n1 c1 x2 n2 c2 _ _ w _ p1 p2 p3 p6 q1 q2 q3 p4 q4 (ptame_mk p5 q5)
    · exact gtame_mm D F T G1 M1 B1 G2 M2 B2 x1 n1 c1 x2 n2 c2 _ _ w _ p1 p2 p3 p6 q1 q2 q3 q6 p4 q4 (ptame_mk p5 q5)


set_option maxRecDepth 100000 in
set_option maxHeartbeats 1000000 in
theorem gto_any (D F T G1 M1 B1 G2 M2 B2 : Int) (a1 a2 : Option Addr) (n1 n2 c1 c2 : Nat) (w : World) : Calls Try.prog 41 #[.agg #[.int .i64 D, .int .i64 F, .int .i64 T, .int .i64 G1, .int .i64 M1, .int .i64 B1, .slice a1 n1 c1, .int .i64 G2, .int .i64 M2, .int .i64 B2, .slice a2 n2 c2]] w fun e w' => e = .returned (.agg #[.int .i64 D, .int .i64 F, .int .i64 T, .int .i64 G1, .int .i64 M1, .int .i64 B1, .slice a1 n1 c1, .int .i64 G2, .int .i64 M2, .int .i64 B2, .slice a2 n2 c2]) ∧ Only (fun _ => False) w w' := by
  go_enter Try.func41, Try.ntmps41
  obtain ⟨p0, p1, p2, p3, p4, p5, p6, p7, p8, p9, p10⟩ := (PlanAt.new (w := w) D F T G1 M1 B1 G2 M2 B2 a1 a2 n1 n2 c1 c2 26).only ((Only.refl (fun _ => False) _).alloc (.cells #[.int .i64 0, .int .i64 0, .int .i64 0, .int .i64 0, .int .i64 0, .int .i64 0, .slice none 0 0, .int .i64 0, .int .i64 0, .int .i64 0, .slice none 0 0] 30)) (fun f => f)
  go_wp2_with fail
  refine bodyPost_ret (v := .agg #[.int .i64 D, .int .i64 F, .int .i64 T, .int .i64 G1, .int .i64 M1, .int .i64 B1, .slice a1 n1 c1, .int .i64 G2, .int .i64 M2, .int .i64 B2, .slice a2 n2 c2]) (by simp [results, Try.results41, go_sem]) rfl ⟨rfl, ((Only.refl _ w).alloc _).alloc _⟩

end Go.Proofs.Ytonacdjaimokeaa.tirw
