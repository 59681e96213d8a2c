/- Grants: what a plan's group is granted: the program's Make. -/
import Derived.Test.YtghajamcjcflaaaRatS
namespace Go.Proofs.Ytghajamcjcflaaa.tirw
open Go.RowKit mem tirm intm bigm bigw
set_option linter.unusedVariables false

/-- a grant -/
structure Gr where
  g : Int
  u : Int
  a : Int
  f : Bool
def Gr.val (x : Gr) : Value := .agg #[.int .i64 x.g, .int .i64 x.u, .int .i64 x.a, .bool x.f]
def Gr0 : Gr := ⟨0, 0, 0, false⟩
/-- it isn't granted: the error -/
def MkNo (D F T G1 M1 B1 G2 M2 B2 : Int) (t1 t2 : List Tr) (cr u : Int) : Prop := FitNo D F T G1 M1 B1 G2 M2 B2 t1 t2 cr u ∨ u < 1
instance (D F T G1 M1 B1 G2 M2 B2 : Int) (t1 t2 : List Tr) (cr u : Int) : Decidable (MkNo D F T G1 M1 B1 G2 M2 B2 t1 t2 cr u) := inferInstanceAs (Decidable (_ ∨ _))
def mkG (D F T G1 M1 B1 G2 M2 B2 : Int) (t1 t2 : List Tr) (cr u : Int) : Gr :=
  if MkNo D F T G1 M1 B1 G2 M2 B2 t1 t2 cr u then Gr0 else if fitU D F T G1 M1 B1 G2 M2 B2 t1 t2 cr u = 0 then Gr0 else ⟨G1, fitU D F T G1 M1 B1 G2 M2 B2 t1 t2 cr u, fitC D F T G1 M1 B1 G2 M2 B2 t1 t2 cr u, decide (fitU D F T G1 M1 B1 G2 M2 B2 t1 t2 cr u < u)⟩
def mkE (D F T G1 M1 B1 G2 M2 B2 : Int) (t1 t2 : List Tr) (cr u : Int) : Int :=
  if MkNo D F T G1 M1 B1 G2 M2 B2 t1 t2 cr u then 1 else if fitU D F T G1 M1 B1 G2 M2 B2 t1 t2 cr u = 0 then 9 else 0
set_option maxRecDepth 100000 in
set_option maxHeartbeats 1000000 in
theorem make_any (D F T G1 M1 B1 G2 M2 B2 : Int) (a1 a2 : Option Addr) (n1 n2 c1 c2 : Nat) (t1 t2 : List Tr) (cr u : Int) (w : World) (h1 : ReadsT w a1 n1 t1) (h2 : ReadsT w a2 n2 t2) (hcr : cr ≤ 9223372036854775807) :
    Calls Try.prog 22 #[.agg #[.int .i64 D, .int .i64 F, .int .i64 T, .int .i64 G1, .int .i64 M1, .int .i64 B1, .slice a1 n1 c1, .int .i64 G2, .int .i64 M2, .int .i64 B2, .slice a2 n2 c2], .int .i64 cr, .int .i64 u] w fun e w' => e = .returned (.tuple #[(mkG D F T G1 M1 B1 G2 M2 B2 t1 t2 cr u).val, .int .i64 (mkE D F T G1 M1 B1 G2 M2 B2 t1 t2 cr u)]) ∧ Only (fun _ => False) w w' := by
  have HFT := Lib.hid (fun w' (ho : Only (fun _ => False) w w') => fit_any D F T G1 M1 B1 G2 M2 B2 a1 a2 n1 n2 c1 c2 t1 t2 cr u w' (h1.only ho (fun _ _ f => f)) (h2.only ho (fun _ _ f => f)) hcr)
  obtain ⟨W0, hW0⟩ : ∃ W0, W0 = (w.alloc (.cells #[.int .i64 D, .int .i64 F, .int .i64 T, .int .i64 G1, .int .i64 M1, .int .i64 B1, .slice a1 n1 c1, .int .i64 G2, .int .i64 M2, .int .i64 B2, .slice a2 n2 c2] 39)).alloc (.cells #[.int .i64 0, .int .i64 0, .int .i64 0, .bool false] 50) := ⟨_, rfl⟩
  have HO0 : Hid (Only (fun _ => False) w W0 ∧ W0.heap.size = w.heap.size + 2) := Lib.hid (by rw [hW0]; exact ⟨((Only.refl _ w).alloc _).alloc _, by simp⟩)
  have HPA : Hid (PlanAt W0 w.heap.size D F T G1 M1 B1 G2 M2 B2 a1 a2 n1 n2 c1 c2) := Lib.hid (by rw [hW0]; exact (PlanAt.new ..).only ((Only.refl (fun _ => False) _).alloc _) (fun f => f))
  have HFR : Hid (Four W0 (w.heap.size + 1)) := Lib.hid (by rw [hW0]; exact Four.new (by simp))
  clear h1 h2
  unfold mkG mkE
  by_cases hf : FitNo D F T G1 M1 B1 G2 M2 B2 t1 t2 cr u
  · have hm : MkNo D F T G1 M1 B1 G2 M2 B2 t1 t2 cr u := .inl hf
    rw [if_pos hm, if_pos hm]
    obtain ⟨e1, e2, e3⟩ := fit_none hf
    rw [e1, e2, e3] at HFT
    clear hf hm e1 e2 e3
    go_enter Try.func22, Try.ntmps22
    obtain ⟨p0, p1, p2, p3, p4, p5, p6, p7, p8, p9, p10⟩ := HPA.out
    rw [hW0] at p0 p1 p2 p3 p4 p5 p6 p7 p8 p9 p10
    go_wp2_with fail
    rw [← hW0]
    clear hW0 p0 p1 p2 p3 p4 p5 p6 p7 p8 p9 p10
    refine (HFT.out _ HO0.out.1).mono ?_
    rintro _ w1 ⟨rfl, k1⟩
    have K1 := Lib.hid (HO0.out.1.trans k1)
    obtain ⟨p0, p1, p2, p3, p4, p5, p6, p7, p8, p9, p10⟩ := HPA.out.only k1 (fun f => f)
    have HR4 := HFR.out.only k1 (fun f => f)
    have HE := Lib.hid (HR4.set (.int .i64 0) (.int .i64 0) (.int .i64 0) (.bool false))
    obtain ⟨⟨_, r0⟩, ⟨_, r1⟩, ⟨_, r2⟩, ⟨_, r3⟩, g0, g1, g2, g3⟩ := HR4
    clear k1
    go_wp2_with fail
    refine bodyPost_ret (v := .tuple #[.agg #[.int .i64 0, .int .i64 0, .int .i64 0, .bool false], .int .i64 1]) (by simp [results, Try.results22, go_sem, HE.out.1, HE.out.2.1, HE.out.2.2.1, HE.out.2.2.2.1]) rfl ⟨rfl, K1.out.then HE.out.2.2.2.2 (fun q hq e => by have e' : q = w.heap.size + 1 := e; omega)⟩
  · obtain ⟨e3, n, c, e1, e2, f1, f2, f3, _⟩ := fit_facts hf
    rw [e1, e2]
    rw [e1, e2, e3] at HFT
    by_cases hu : u < 1
    · have hm : MkNo D F T G1 M1 B1 G2 M2 B2 t1 t2 cr u := .inr hu
      rw [if_pos hm, if_pos hm]
      clear hf hm e1 e2 e3
      go_enter Try.func22, Try.ntmps22
      obtain ⟨p0, p1, p2, p3, p4, p5, p6, p7, p8, p9, p10⟩ := HPA.out
      rw [hW0] at p0 p1 p2 p3 p4 p5 p6 p7 p8 p9 p10
      go_wp2_with fail
      rw [← hW0]
      clear hW0 p0 p1 p2 p3 p4 p5 p6 p7 p8 p9 p10
      refine (HFT.out _ HO0.out.1).mono ?_
      rintro _ w1 ⟨rfl, k1⟩
      have K1 := Lib.hid (HO0.out.1.trans k1)
      obtain ⟨p0, p1, p2, p3, p4, p5, p6, p7, p8, p9, p10⟩ := HPA.out.only k1 (fun f => f)
      have HR4 := HFR.out.only k1 (fun f => f)
      have HE := Lib.hid (HR4.set (.int .i64 0) (.int .i64 0) (.int .i64 0) (.bool false))
      obtain ⟨⟨_, r0⟩, ⟨_, r1⟩, ⟨_, r2⟩, ⟨_, r3⟩, g0, g1, g2, g3⟩ := HR4
      clear k1
      go_wp2_with fail
      refine bodyPost_ret (v := .tuple #[.agg #[.int .i64 0, .int .i64 0, .int .i64 0, .bool false], .int .i64 1]) (by simp [results, Try.results22, go_sem, HE.out.1, HE.out.2.1, HE.out.2.2.1, HE.out.2.2.2.1]) rfl ⟨rfl, K1.out.then HE.out.2.2.2.2 (fun q hq e => by have e' : q = w.heap.size + 1 := e; omega)⟩
    · have hm : ¬ MkNo D F T G1 M1 B1 G2 M2 B2 t1 t2 cr u := fun e => e.elim hf hu
      rw [if_neg hm, if_neg hm]
      clear hf hm e1 e2 e3
      by_cases hn : n = 0
      · rw [if_pos hn, if_pos hn]
        subst hn
        go_enter Try.func22, Try.ntmps22
        obtain ⟨p0, p1, p2, p3, p4, p5, p6, p7, p8, p9, p10⟩ := HPA.out
        rw [hW0] at p0 p1 p2 p3 p4 p5 p6 p7 p8 p9 p10
        go_wp2_with fail
        rw [← hW0]
        clear hW0 p0 p1 p2 p3 p4 p5 p6 p7 p8 p9 p10
        refine (HFT.out _ HO0.out.1).mono ?_
        rintro _ w1 ⟨rfl, k1⟩
        have K1 := Lib.hid (HO0.out.1.trans k1)
        obtain ⟨p0, p1, p2, p3, p4, p5, p6, p7, p8, p9, p10⟩ := HPA.out.only k1 (fun f => f)
        have HR4 := HFR.out.only k1 (fun f => f)
        have HE := Lib.hid (HR4.set (.int .i64 0) (.int .i64 0) (.int .i64 0) (.bool false))
        obtain ⟨⟨_, r0⟩, ⟨_, r1⟩, ⟨_, r2⟩, ⟨_, r3⟩, g0, g1, g2, g3⟩ := HR4
        clear k1
        go_wp2_with fail
        refine bodyPost_ret (v := .tuple #[.agg #[.int .i64 0, .int .i64 0, .int .i64 0, .bool false], .int .i64 9]) (by simp [results, Try.results22, go_sem, HE.out.1, HE.out.2.1, HE.out.2.2.1, HE.out.2.2.2.1]) rfl ⟨rfl, K1.out.then HE.out.2.2.2.2 (fun q hq e => by have e' : q = w.heap.size + 1 := e; omega)⟩
      · rw [if_neg hn, if_neg hn]
        obtain ⟨z1, z2⟩ := neI hn
        obtain ⟨bb, hbb⟩ : ∃ b, decide (n < u) = b := ⟨_, rfl⟩
        rw [hbb]
        clear hn
        go_enter Try.func22, Try.ntmps22
        obtain ⟨p0, p1, p2, p3, p4, p5, p6, p7, p8, p9, p10⟩ := HPA.out
        rw [hW0] at p0 p1 p2 p3 p4 p5 p6 p7 p8 p9 p10
        go_wp2_with fail
        rw [← hW0]
        clear hW0 p0 p1 p2 p3 p4 p5 p6 p7 p8 p9 p10
        refine (HFT.out _ HO0.out.1).mono ?_
        rintro _ w1 ⟨rfl, k1⟩
        have K1 := Lib.hid (HO0.out.1.trans k1)
        obtain ⟨p0, p1, p2, p3, p4, p5, p6, p7, p8, p9, p10⟩ := HPA.out.only k1 (fun f => f)
        have HR4 := HFR.out.only k1 (fun f => f)
        have HE := Lib.hid (HR4.set (.int .i64 G1) (.int .i64 n) (.int .i64 c) (.bool bb))
        obtain ⟨⟨_, r0⟩, ⟨_, r1⟩, ⟨_, r2⟩, ⟨_, r3⟩, g0, g1, g2, g3⟩ := HR4
        clear k1
        go_wp2_with fail
        refine bodyPost_ret (v := .tuple #[.agg #[.int .i64 G1, .int .i64 n, .int .i64 c, .bool bb], .int .i64 0]) (by simp [results, Try.results22, go_sem, HE.out.1, HE.out.2.1, HE.out.2.2.1, HE.out.2.2.2.1]) rfl ⟨rfl, K1.out.then HE.out.2.2.2.2 (fun q hq e => by have e' : q = w.heap.size + 1 := e; omega)⟩
end Go.Proofs.Ytghajamcjcflaaa.tirw
