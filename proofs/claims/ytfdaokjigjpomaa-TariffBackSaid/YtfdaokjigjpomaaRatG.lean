/- Plans: the tariff at a time: the program's. Plans: the tariff at a time: the program's At. Plans: what so many units may cost at most: the program's Worst. -/
import Derived.Test.YtfdaokjigjpomaaRatD
namespace Go.Proofs.Ytfdaokjigjpomaa.tirw
open Go.RowKit mem tirm intm bigw
set_option linter.unusedVariables false

set_option maxRecDepth 100000 in
set_option maxHeartbeats 1000000 in
theorem isother_any (D F T G1 M1 B1 G2 M2 B2 : Int) (a1 a2 : Option Addr) (n1 n2 c1 c2 : Nat) (now : Int) (h0 : 0 ≤ now) (hx : now ≤ 9223372036854775807) (hD : D = 0 ∨ DayP D F T) (w : World) :
    Calls Try.prog 39 #[.agg #[.int .i64 D, .int .i64 F, .int .i64 T, .int .i64 G1, .int .i64 M1, .int .i64 B1, .slice a1 n1 c1, .int .i64 G2, .int .i64 M2, .int .i64 B2, .slice a2 n2 c2], .int .i64 now] w fun e w' => e = .returned (.bool (isO D F T now)) ∧ Only (fun _ => False) w w' := by
  obtain ⟨W0, hW0⟩ : ∃ W0, W0 = w.alloc (.cells #[.int .i64 D, .int .i64 F, .int .i64 T, .int .i64 G1, .int .i64 M1, .int .i64 B1, .slice a1 n1 c1, .int .i64 G2, .int .i64 M2, .int .i64 B2, .slice a2 n2 c2] 32) := ⟨_, rfl⟩
  have HO0 : Hid (Only (fun _ => False) w W0) := Lib.hid (by rw [hW0]; exact (Only.refl _ w).alloc _)
  have HPA : Hid (PlanAt W0 w.heap.size D F T G1 M1 B1 G2 M2 B2 a1 a2 n1 n2 c1 c2) := Lib.hid (by rw [hW0]; exact PlanAt.new ..)
  obtain ⟨P, hP⟩ : ∃ P, isO D F T now = P := ⟨_, rfl⟩
  rw [hP]
  by_cases k0 : D = 0
  · subst k0
    have HR : Hid (P = false) := Lib.hid (by rw [← hP]; unfold isO; rw [if_pos rfl])
    clear hP
    go_enter Try.func39, Try.ntmps39
    obtain ⟨p0, p1, p2, p3, p4, p5, p6, p7, p8, p9, p10⟩ := HPA.out
    rw [hW0] at p0 p1 p2 p3 p4 p5 p6 p7 p8 p9 p10
    go_wp2_with fail
    rw [← hW0]
    go_ret
    exact ⟨by rw [HR.out]; rfl, HO0.out⟩
  obtain ⟨d1, d2, d3, d4, d5, d6, d7⟩ := hD.resolve_left k0
  obtain ⟨x1, x2⟩ := neI k0
  obtain ⟨m, hm⟩ : ∃ m, now % D = m := ⟨_, rfl⟩
  have hr : now.tmod D = m := by rw [Int.tmod_eq_emod_of_nonneg h0]; exact hm
  have hm0 : 0 ≤ m := by rw [← hm]; exact Int.emod_nonneg _ k0
  have hm1 : m < D := by rw [← hm]; exact Int.emod_lt_of_pos _ (by omega)
  have HP : Hid (P = if F < T then decide (F ≤ m) && decide (m < T) else decide (F ≤ m) || decide (m < T)) := Lib.hid (by rw [← hP]; unfold isO; rw [if_neg k0, hm])
  clear hP hD
  by_cases k1 : F < T
  · have HQ : Hid (P = (decide (F ≤ m) && decide (m < T))) := Lib.hid (by rw [HP.out, if_pos k1])
    by_cases k2 : F ≤ m
    all_goals by_cases k3 : m < T
    all_goals try (exfalso; omega)
    all_goals
      go_enter Try.func39, Try.ntmps39
      obtain ⟨p0, p1, p2, p3, p4, p5, p6, p7, p8, p9, p10⟩ := HPA.out
      rw [hW0] at p0 p1 p2 p3 p4 p5 p6 p7 p8 p9 p10
      go_wp2_with fail
      rw [← hW0]
      go_ret
      exact ⟨by rw [HQ.out]; simp [k2, k3], HO0.out⟩
  · have HQ : Hid (P = (decide (F ≤ m) || decide (m < T))) := Lib.hid (by rw [HP.out, if_neg k1])
    by_cases k2 : F ≤ m
    all_goals by_cases k3 : m < T
    all_goals try (exfalso; omega)
    all_goals
      go_enter Try.func39, Try.ntmps39
      obtain ⟨p0, p1, p2, p3, p4, p5, p6, p7, p8, p9, p10⟩ := HPA.out
      rw [hW0] at p0 p1 p2 p3 p4 p5 p6 p7 p8 p9 p10
      go_wp2_with fail
      rw [← hW0]
      go_ret
      exact ⟨by rw [HQ.out]; simp [k2, k3], HO0.out⟩
end Go.Proofs.Ytfdaokjigjpomaa.tirw

namespace Go.Proofs.Ytfdaokjigjpomaa.tirw
open Go.RowKit mem tirm intm bigw
set_option linter.unusedVariables false

theorem pchk_ok {D F T G1 M1 B1 G2 M2 B2 : Int} {t1 t2 : List Tr} (h : pchk D F T G1 M1 B1 G2 M2 B2 t1 t2 = 0) :
    tchk G1 M1 B1 t1 = 0 ∧ ((D = 0 ∧ F = 0 ∧ T = 0 ∧ G2 = 0 ∧ M2 = 0 ∧ B2 = 0 ∧ t2 = []) ∨ (D ≠ 0 ∧ DayP D F T ∧ tchk G2 M2 B2 t2 = 0 ∧ G1 = G2 ∧ B1 = B2)) := by
  unfold pchk at h
  by_cases k1 : tchk G1 M1 B1 t1 = 0
  · rw [if_neg (fun e => e k1)] at h
    refine ⟨k1, ?_⟩
    by_cases k0 : D = 0
    · rw [if_pos k0] at h
      by_cases e : F ≠ 0 ∨ T ≠ 0 ∨ G2 ≠ 0 ∨ M2 ≠ 0 ∨ B2 ≠ 0 ∨ t2.length ≠ 0
      · rw [if_pos e] at h; cases h
      · exact .inl ⟨k0, by omega, by omega, by omega, by omega, by omega, List.eq_nil_of_length_eq_zero (by omega)⟩
    · rw [if_neg k0] at h
      by_cases kd : DayP D F T
      · rw [if_neg (fun e => e kd)] at h
        by_cases k2 : tchk G2 M2 B2 t2 = 0
        · rw [if_neg (fun e => e k2)] at h
          by_cases e : G1 ≠ G2 ∨ B1 ≠ B2
          · rw [if_pos e] at h; cases h
          · exact .inr ⟨k0, kd, k2, by omega, by omega⟩
        · rw [if_pos k2] at h; exact absurd h k2
      · rw [if_pos kd] at h; cases h
  · rw [if_pos k1] at h; exact absurd h k1
theorem isO_zero {F T now : Int} : isO 0 F T now = false := by unfold isO; rw [if_pos rfl]

/-- the tariff at a time -/
def AtAt (G M B : Int) (n : Nat) (ts : List Tr) (o : Bool) (w : World) (e : Ending) (w' : World) : Prop :=
  ∃ g cp, e = .returned (.tuple #[.agg #[.int .i64 G, .int .i64 M, .int .i64 B, .slice (some ⟨g, 0, none⟩) n cp], .bool o]) ∧ ReadsT w' (some ⟨g, 0, none⟩) n ts ∧ Only (fun _ => False) w w'

set_option maxRecDepth 100000 in
set_option maxHeartbeats 1000000 in
theorem at_base (D F T G1 M1 B1 G2 M2 B2 : Int) (a1 a2 : Option Addr) (n1 n2 c1 c2 : Nat) (t1 t2 : List Tr) (now : Int) (w : World) (h1 : ReadsT w a1 n1 t1) (h2 : ReadsT w a2 n2 t2) (h0 : 0 ≤ now) (hx : now ≤ 9223372036854775807) (hp : pchk D F T G1 M1 B1 G2 M2 B2 t1 t2 = 0) (hiso : isO D F T now = false) :
    Calls Try.prog 22 #[.agg #[.int .i64 D, .int .i64 F, .int .i64 T, .int .i64 G1, .int .i64 M1, .int .i64 B1, .slice a1 n1 c1, .int .i64 G2, .int .i64 M2, .int .i64 B2, .slice a2 n2 c2], .int .i64 now] w (AtAt G1 M1 B1 n1 t1 false w) := by
  obtain ⟨k1, kk⟩ := pchk_ok hp
  have hD : D = 0 ∨ DayP D F T := kk.elim (fun e => .inl e.1) (fun e => .inr e.2.1)
  have hck : tchk G1 M1 B1 t1 = 0 := k1
  obtain ⟨_, _, _, hl, _⟩ := (tchk_ok G1 M1 B1 t1).1 hck
  have hln := h1.1
  obtain ⟨b, off, hab, _⟩ := h1.2.2.2.resolve_left (by omega)
  subst hab
  have HC := Lib.hid (fun w' (ho : Only (fun _ => False) w w') => cplan_any D F T G1 M1 B1 G2 M2 B2 (some ⟨b, off, none⟩) a2 n1 n2 c1 c2 t1 t2 w' (h1.only ho (fun _ _ f => f)) (h2.only ho (fun _ _ f => f)))
  rw [hp] at HC
  have HIO := Lib.hid (fun w' => isother_any D F T G1 M1 B1 G2 M2 B2 (some ⟨b, off, none⟩) a2 n1 n2 c1 c2 now h0 hx hD w')
  rw [hiso] at HIO
  have HCP := Lib.hid (fun w' (ho : Only (fun _ => False) w w') => copy_any G1 M1 B1 b off n1 c1 t1 w' (h1.only ho (fun _ _ f => f)) (by omega) (by omega))
  obtain ⟨W0, hW0⟩ : ∃ W0, W0 = (w.alloc (.cells #[.int .i64 D, .int .i64 F, .int .i64 T, .int .i64 G1, .int .i64 M1, .int .i64 B1, .slice (some ⟨b, off, none⟩) n1 c1, .int .i64 G2, .int .i64 M2, .int .i64 B2, .slice a2 n2 c2] 32)).alloc (.cells #[.int .i64 0, .int .i64 0, .int .i64 0, .slice none 0 0] 24) := ⟨_, rfl⟩
  have HO0 : Hid (Only (fun _ => False) w W0) := Lib.hid (by rw [hW0]; exact ((Only.refl _ w).alloc _).alloc _)
  have HPA : Hid (PlanAt W0 w.heap.size D F T G1 M1 B1 G2 M2 B2 (some ⟨b, off, none⟩) a2 n1 n2 c1 c2) := Lib.hid (by rw [hW0]; exact (PlanAt.new ..).only ((Only.refl (fun _ => False) _).alloc _) (fun f => f))
  have HFR : Hid (Four W0 (w.heap.size + 1) ∧ W0.heap.size = w.heap.size + 2) := Lib.hid (by rw [hW0]; exact ⟨Four.new (by simp), by simp⟩)
  clear h1 h2 hp kk k1 hD hck hl hln hiso
  go_enter Try.func22, Try.ntmps22
  obtain ⟨p0, p1, p2, p3, p4, p5, p6, p7, p8, p9, p10⟩ := HPA.out
  rw [hW0] at p0 p1 p2 p3 p4 p5 p6 p7 p8 p9 p10
  go_wp2_with fail
  rw [← hW0]
  clear hW0 p0 p1 p2 p3 p4 p5 p6 p7 p8 p9 p10
  refine (HC.out _ HO0.out).mono ?_
  rintro _ w1 ⟨rfl, k1⟩
  have K1 := Lib.hid k1
  clear k1
  obtain ⟨p0, p1, p2, p3, p4, p5, p6, p7, p8, p9, p10⟩ := HPA.out.only K1.out (fun f => f)
  go_wp2_with fail
  refine (HIO.out _).mono ?_
  rintro _ w2 ⟨rfl, k2⟩
  have K2 := Lib.hid (K1.out.trans k2)
  clear k2 p0 p1 p2 p3 p4 p5 p6 p7 p8 p9 p10
  obtain ⟨p0, p1, p2, p3, p4, p5, p6, p7, p8, p9, p10⟩ := HPA.out.only K2.out (fun f => f)
  go_wp2_with fail
  refine (HCP.out _ (HO0.out.trans K2.out)).mono ?_
  rintro _ w3 ⟨g, cp, rfl, hrd, hg, k3⟩
  have HG := Lib.hid hg
  have K3 := Lib.hid (K2.out.trans k3)
  have HRD := Lib.hid hrd
  have HR4 := HFR.out.1.only K3.out (fun f => f)
  have HE := Lib.hid (HR4.set (.int .i64 G1) (.int .i64 M1) (.int .i64 B1) (.slice (some ⟨g, 0, none⟩) n1 cp))
  obtain ⟨⟨_, r0⟩, ⟨_, r1⟩, ⟨_, r2⟩, ⟨_, r3⟩, g0, g1, g2, g3⟩ := HR4
  clear k3 hrd hg p0 p1 p2 p3 p4 p5 p6 p7 p8 p9 p10
  go_wp2_with fail
  refine bodyPost_ret (v := .tuple #[.agg #[.int .i64 G1, .int .i64 M1, .int .i64 B1, .slice (some ⟨g, 0, none⟩) n1 cp], .bool false]) (by simp [results, Try.results22, go_sem, HE.out.1, HE.out.2.1, HE.out.2.2.1, HE.out.2.2.2.1]) rfl ⟨g, cp, rfl, ?_, ?_⟩
  · exact HRD.out.only HE.out.2.2.2.2 (fun y hy e => by injection hy with hy; subst hy; have e' : g = w.heap.size + 1 := e; have := HG.out; have := K2.out.size; have := HFR.out.2; omega)
  · exact ((HO0.out.trans K3.out).then HE.out.2.2.2.2 (fun q hq e => by have e' : q = w.heap.size + 1 := e; omega))

set_option maxRecDepth 100000 in
set_option maxHeartbeats 1000000 in
theorem at_other (D F T G1 M1 B1 G2 M2 B2 : Int) (a1 a2 : Option Addr) (n1 n2 c1 c2 : Nat) (t1 t2 : List Tr) (now : Int) (w : World) (h1 : ReadsT w a1 n1 t1) (h2 : ReadsT w a2 n2 t2) (h0 : 0 ≤ now) (hx : now ≤ 9223372036854775807) (hp : pchk D F T G1 M1 B1 G2 M2 B2 t1 t2 = 0) (hiso : isO D F T now = true) :
    Calls Try.prog 22 #[.agg #[.int .i64 D, .int .i64 F, .int .i64 T, .int .i64 G1, .int .i64 M1, .int .i64 B1, .slice a1 n1 c1, .int .i64 G2, .int .i64 M2, .int .i64 B2, .slice a2 n2 c2], .int .i64 now] w (AtAt G2 M2 B2 n2 t2 true w) := by
  obtain ⟨k1, kk⟩ := pchk_ok hp
  have hD : D = 0 ∨ DayP D F T := kk.elim (fun e => .inl e.1) (fun e => .inr e.2.1)
  have hck : tchk G2 M2 B2 t2 = 0 := kk.elim (fun e => by rw [e.1, isO_zero] at hiso; cases hiso) (fun e => e.2.2.1)
  obtain ⟨_, _, _, hl, _⟩ := (tchk_ok G2 M2 B2 t2).1 hck
  have hln := h2.1
  obtain ⟨b, off, hab, _⟩ := h2.2.2.2.resolve_left (by omega)
  subst hab
  have HC := Lib.hid (fun w' (ho : Only (fun _ => False) w w') => cplan_any D F T G1 M1 B1 G2 M2 B2 a1 (some ⟨b, off, none⟩) n1 n2 c1 c2 t1 t2 w' (h1.only ho (fun _ _ f => f)) (h2.only ho (fun _ _ f => f)))
  rw [hp] at HC
  have HIO := Lib.hid (fun w' => isother_any D F T G1 M1 B1 G2 M2 B2 a1 (some ⟨b, off, none⟩) n1 n2 c1 c2 now h0 hx hD w')
  rw [hiso] at HIO
  have HCP := Lib.hid (fun w' (ho : Only (fun _ => False) w w') => copy_any G2 M2 B2 b off n2 c2 t2 w' (h2.only ho (fun _ _ f => f)) (by omega) (by omega))
  obtain ⟨W0, hW0⟩ : ∃ W0, W0 = (w.alloc (.cells #[.int .i64 D, .int .i64 F, .int .i64 T, .int .i64 G1, .int .i64 M1, .int .i64 B1, .slice a1 n1 c1, .int .i64 G2, .int .i64 M2, .int .i64 B2, .slice (some ⟨b, off, none⟩) n2 c2] 32)).alloc (.cells #[.int .i64 0, .int .i64 0, .int .i64 0, .slice none 0 0] 24) := ⟨_, rfl⟩
  have HO0 : Hid (Only (fun _ => False) w W0) := Lib.hid (by rw [hW0]; exact ((Only.refl _ w).alloc _).alloc _)
  have HPA : Hid (PlanAt W0 w.heap.size D F T G1 M1 B1 G2 M2 B2 a1 (some ⟨b, off, none⟩) n1 n2 c1 c2) := Lib.hid (by rw [hW0]; exact (PlanAt.new ..).only ((Only.refl (fun _ => False) _).alloc _) (fun f => f))
  have HFR : Hid (Four W0 (w.heap.size + 1) ∧ W0.heap.size = w.heap.size + 2) := Lib.hid (by rw [hW0]; exact ⟨Four.new (by simp), by simp⟩)
  clear h1 h2 hp kk k1 hD hck hl hln hiso
  go_enter Try.func22, Try.ntmps22
  obtain ⟨p0, p1, p2, p3, p4, p5, p6, p7, p8, p9, p10⟩ := HPA.out
  rw [hW0] at p0 p1 p2 p3 p4 p5 p6 p7 p8 p9 p10
  go_wp2_with fail
  rw [← hW0]
  clear hW0 p0 p1 p2 p3 p4 p5 p6 p7 p8 p9 p10
  refine (HC.out _ HO0.out).mono ?_
  rintro _ w1 ⟨rfl, k1⟩
  have K1 := Lib.hid k1
  clear k1
  obtain ⟨p0, p1, p2, p3, p4, p5, p6, p7, p8, p9, p10⟩ := HPA.out.only K1.out (fun f => f)
  go_wp2_with fail
  refine (HIO.out _).mono ?_
  rintro _ w2 ⟨rfl, k2⟩
  have K2 := Lib.hid (K1.out.trans k2)
  clear k2 p0 p1 p2 p3 p4 p5 p6 p7 p8 p9 p10
  obtain ⟨p0, p1, p2, p3, p4, p5, p6, p7, p8, p9, p10⟩ := HPA.out.only K2.out (fun f => f)
  go_wp2_with fail
  refine (HCP.out _ (HO0.out.trans K2.out)).mono ?_
  rintro _ w3 ⟨g, cp, rfl, hrd, hg, k3⟩
  have HG := Lib.hid hg
  have K3 := Lib.hid (K2.out.trans k3)
  have HRD := Lib.hid hrd
  have HR4 := HFR.out.1.only K3.out (fun f => f)
  have HE := Lib.hid (HR4.set (.int .i64 G2) (.int .i64 M2) (.int .i64 B2) (.slice (some ⟨g, 0, none⟩) n2 cp))
  obtain ⟨⟨_, r0⟩, ⟨_, r1⟩, ⟨_, r2⟩, ⟨_, r3⟩, g0, g1, g2, g3⟩ := HR4
  clear k3 hrd hg p0 p1 p2 p3 p4 p5 p6 p7 p8 p9 p10
  go_wp2_with fail
  refine bodyPost_ret (v := .tuple #[.agg #[.int .i64 G2, .int .i64 M2, .int .i64 B2, .slice (some ⟨g, 0, none⟩) n2 cp], .bool true]) (by simp [results, Try.results22, go_sem, HE.out.1, HE.out.2.1, HE.out.2.2.1, HE.out.2.2.2.1]) rfl ⟨g, cp, rfl, ?_, ?_⟩
  · exact HRD.out.only HE.out.2.2.2.2 (fun y hy e => by injection hy with hy; subst hy; have e' : g = w.heap.size + 1 := e; have := HG.out; have := K2.out.size; have := HFR.out.2; omega)
  · exact ((HO0.out.trans K3.out).then HE.out.2.2.2.2 (fun q hq e => by have e' : q = w.heap.size + 1 := e; omega))
end Go.Proofs.Ytfdaokjigjpomaa.tirw

namespace Go.Proofs.Ytfdaokjigjpomaa.tirw
open Go.RowKit mem tirm intm bigw
set_option linter.unusedVariables false

theorem bk_in {u c : Int} (hu : 0 ≤ u) (hc : 1 ≤ c) : 0 ≤ bk u c ∧ bk u c ≤ u := by
  unfold bk
  rw [if_pos ⟨hu, hc⟩]
  have h1 := Int.mul_ediv_add_emod u c
  have h2 := Int.ediv_nonneg hu (show 0 ≤ c by omega)
  have h3 := Int.emod_nonneg u (show c ≠ 0 by omega)
  have h4 : 1 * (u / c) ≤ c * (u / c) := Int.mul_le_mul_of_nonneg_right hc h2
  generalize u / c = q at *
  generalize c * q = z at *
  split <;> omega
theorem bok_yes {u c : Int} (hu : 0 ≤ u) (hc : 1 ≤ c) : bok u c = true := by unfold bok; rw [decide_eq_true_eq]; exact ⟨hu, hc⟩
theorem can_facts {D F T G1 M1 B1 G2 M2 B2 : Int} {t1 t2 : List Tr} {u : Int} (h : CanP D F T G1 M1 B1 G2 M2 B2 t1 t2 u) : (0 ≤ u ∧ u ≤ 1073741824) ∧ (1 ≤ B1 ∧ B1 ≤ 1073741824) ∧ (0 ≤ dearP t1 t2 ∧ dearP t1 t2 ≤ 1048576) := by
  obtain ⟨h1, h2, h3⟩ := h
  obtain ⟨k1, kk⟩ := pchk_ok h3
  obtain ⟨_, _, hb, _, hts⟩ := (tchk_ok G1 M1 B1 t1).1 k1
  have hd1 := dearF_ge t1 0
  have hd2 := dearF_in t1 1048576 0 (fun t ht => (Tiers_p t1 0 hts t ht).2) (by omega)
  have hd3 : 0 ≤ dearF 0 t2 ∧ dearF 0 t2 ≤ 1048576 := by
    rcases kk with ⟨_, _, _, _, _, _, e⟩ | ⟨_, _, k2, _, _⟩
    · rw [e]; exact ⟨Int.le_refl _, by show (0 : Int) ≤ _; omega⟩
    · obtain ⟨_, _, _, _, ht2⟩ := (tchk_ok G2 M2 B2 t2).1 k2
      exact ⟨(dearF_ge t2 0).1, dearF_in t2 1048576 0 (fun t ht => (Tiers_p t2 0 ht2 t ht).2) (by omega)⟩
  unfold dearP
  exact ⟨⟨h1, h2⟩, hb, by omega, by omega⟩

/-- at most -/
def worN (D F T G1 M1 B1 G2 M2 B2 : Int) (t1 t2 : List Tr) (u : Int) : Int := if CanP D F T G1 M1 B1 G2 M2 B2 t1 t2 u then bk u B1 * dearP t1 t2 else 0
def worE (D F T G1 M1 B1 G2 M2 B2 : Int) (t1 t2 : List Tr) (u : Int) : Int := if CanP D F T G1 M1 B1 G2 M2 B2 t1 t2 u then 0 else 1
end Go.Proofs.Ytfdaokjigjpomaa.tirw

