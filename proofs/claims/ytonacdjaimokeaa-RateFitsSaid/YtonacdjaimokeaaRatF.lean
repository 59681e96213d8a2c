/- Plans: the tariff at a time: the program's At. -/
import Derived.Test.YtonacdjaimokeaaRatE
namespace Go.Proofs.Ytonacdjaimokeaa.tirw
open Go.RowKit mem tirm intm bigw
set_option linter.unusedVariables false

theorem pchk_ok {D F T G1 M1 B1 G2 M2 B2 : Int} {t1 t2 : List Tr} (h : pchk D F T G1 M1 B1 G2 M2 B2 t1 t2 = 0) :
    tchk G1 M1 B1 t1 = 0 ∧ ((D = 0 ∧ F = 0 ∧ T = 0 ∧ G2 = 0 ∧ M2 = 0 ∧ B2 = 0 ∧ t2 = []) ∨ (D ≠ 0 ∧ DayP D F T ∧ tchk G2 M2 B2 t2 = 0 ∧ G1 = G2 ∧ B1 = B2)) := by
  unfold pchk at h
  by_cases k1 : tchk G1 M1 B1 t1 = 0
  · rw [if_neg (fun e => e k1)] at h
    refine ⟨k1, ?_⟩
    by_cases k0 : D = 0
    · rw [if_pos k0] at h
      by_cases e : F ≠ 0 ∨ T ≠ 0 ∨ G2 ≠ 0 ∨ M2 ≠ 0 ∨ B2 ≠ 0 ∨ t2.length ≠ 0
      · rw [if_pos e] at h; cases h
      · exact .inl ⟨k0, by omega, by omega, by omega, by omega, by omega, List.eq_nil_of_length_eq_zero (by omega)⟩
    · rw [if_neg k0] at h
      by_cases kd : DayP D F T
      · rw [if_neg (fun e => e kd)] at h
        by_cases k2 : tchk G2 M2 B2 t2 = 0
        · rw [if_neg (fun e => e k2)] at h
          by_cases e : G1 ≠ G2 ∨ B1 ≠ B2
          · rw [if_pos e] at h; cases h
          · exact .inr ⟨k0, kd, k2, by omega, by omega⟩
        · rw [if_pos k2] at h; exact absurd h k2
      · rw [if_pos kd] at h; cases h
  · rw [if_pos k1] at h; exact absurd h k1
theorem isO_zero {F T now : Int} : isO 0 F T now = false := by unfold isO; rw [if_pos rfl]

/-- the tariff at a time -/
def AtAt (G M B : Int) (n : Nat) (ts : List Tr) (o : Bool) (w : World) (e : Ending) (w' : World) : Prop :=
  ∃ g cp, e = .returned (.tuple #[.agg #[.int .i64 G, .int .i64 M, .int .i64 B, .slice (some ⟨g, 0, none⟩) n cp], .bool o]) ∧ ReadsT w' (some ⟨g, 0, none⟩) n ts ∧ Only (fun _ => False) w w'

set_option maxRecDepth 100000 in
set_option maxHeartbeats 1000000 in
theorem at_base (D F T G1 M1 B1 G2 M2 B2 : Int) (a1 a2 : Option Addr) (n1 n2 c1 c2 : Nat) (t1 t2 : List Tr) (now : Int) (w : World) (h1 : ReadsT w a1 n1 t1) (h2 : ReadsT w a2 n2 t2) (h0 : 0 ≤ now) (hx : now ≤ 9223372036854775807) (hp : pchk D F T G1 M1 B1 G2 M2 B2 t1 t2 = 0) (hiso : isO D F T now = false) :
    Calls Try.prog 52 #[.agg #[.int .i64 D, .int .i64 F, .int .i64 T, .int .i64 G1, .int .i64 M1, .int .i64 B1, .slice a1 n1 c1, .int .i64 G2, .int .i64 M2, .int .i64 B2, .slice a2 n2 c2], .int .i64 now] w (AtAt G1 M1 B1 n1 t1 false w) := by
  obtain ⟨k1, kk⟩ := pchk_ok hp
  have hD : D = 0 ∨ DayP D F T := kk.elim (fun e => .inl e.1) (fun e => .inr e.2.1)
  have hck : tchk G1 M1 B1 t1 = 0 := k1
  obtain ⟨_, _, _, hl, _⟩ := (tchk_ok G1 M1 B1 t1).1 hck
  have hln := h1.1
  obtain ⟨b, off, hab, _⟩ := h1.2.2.2.resolve_left (by omega)
  subst hab
  have HC := Lib.hid (fun w' (ho : Only (fun _ => False) w w') => cplan_any D F T G1 M1 B1 G2 M2 B2 (some ⟨b, off, none⟩) a2 n1 n2 c1 c2 t1 t2 w' (h1.only ho (fun _ _ f => f)) (h2.only ho (fun _ _ f => f)))
  rw [hp] at HC
  have HIO := Lib.hid (fun w' => isother_any D F T G1 M1 B1 G2 M2 B2 (some ⟨b, off, none⟩) a2 n1 n2 c1 c2 now h0 hx hD w')
  rw [hiso] at HIO
  have HCP := Lib.hid (fun w' (ho : Only (fun _ => False) w w') => copy_any G1 M1 B1 b off n1 c1 t1 w' (h1.only ho (fun _ _ f => f)) (by omega) (by omega))
  obtain ⟨W0, hW0⟩ : ∃ W0, W0 = (w.alloc (.cells #[.int .i64 D, .int .i64 F, .int .i64 T, .int .i64 G1, .int .i64 M1, .int .i64 B1, .slice (some ⟨b, off, none⟩) n1 c1, .int .i64 G2, .int .i64 M2, .int .i64 B2, .slice a2 n2 c2] 30)).alloc (.cells #[.int .i64 0, .int .i64 0, .int .i64 0, .slice none 0 0] 24) := ⟨_, rfl⟩
  have HO0 : Hid (Only (fun _ => False) w W0) := Lib.hid (by rw [hW0]; exact ((Only.refl _ w).alloc _).alloc _)
  have HPA : Hid (PlanAt W0 w.heap.size D F T G1 M1 B1 G2 M2 B2 (some ⟨b, off, none⟩) a2 n1 n2 c1 c2) := Lib.hid (by rw [hW0]; exact (PlanAt.new ..).only ((Only.refl (fun _ => False) _).alloc _) (fun f => f))
  have HFR : Hid (Four W0 (w.heap.size + 1) ∧ W0.heap.size = w.heap.size + 2) := Lib.hid (by rw [hW0]; exact ⟨Four.new (by simp), by simp⟩)
  clear h1 h2 hp kk k1 hD hck hl hln hiso
  go_enter Try.func52, Try.ntmps52
  obtain ⟨p0, p1, p2, p3, p4, p5, p6, p7, p8, p9, p10⟩ := HPA.out
  rw [hW0] at p0 p1 p2 p3 p4 p5 p6 p7 p8 p9 p10
  go_wp2_with fail
  rw [← hW0]
  clear hW0 p0 p1 p2 p3 p4 p5 p6 p7 p8 p9 p10
  refine (HC.out _ HO0.out).mono ?_
  rintro _ w1 ⟨rfl, k1⟩
  have K1 := Lib.hid k1
  clear k1
  obtain ⟨p0, p1, p2, p3, p4, p5, p6, p7, p8, p9, p10⟩ := HPA.out.only K1.out (fun f => f)
  go_wp2_with fail
  refine (HIO.out _).mono ?_
  rintro _ w2 ⟨rfl, k2⟩
  have K2 := Lib.hid (K1.out.trans k2)
  clear k2 p0 p1 p2 p3 p4 p5 p6 p7 p8 p9 p10
  obtain ⟨p0, p1, p2, p3, p4, p5, p6, p7, p8, p9, p10⟩ := HPA.out.only K2.out (fun f => f)
  go_wp2_with fail
  refine (HCP.out _ (HO0.out.trans K2.out)).mono ?_
  rintro _ w3 ⟨g, cp, rfl, hrd, hg, k3⟩
  have HG := Lib.hid hg
  have K3 := Lib.hid (K2.out.trans k3)
  have HRD := Lib.hid hrd
  have HR4 := HFR.out.1.only K3.out (fun f => f)
  have HE := Lib.hid (HR4.set (.int .i64 G1) (.int .i64 M1) (.int .i64 B1) (.slice (some ⟨g, 0, none⟩) n1 cp))
  obtain ⟨⟨_, r0⟩, ⟨_, r1⟩, ⟨_, r2⟩, ⟨_, r3⟩, g0, g1, g2, g3⟩ := HR4
  clear k3 hrd hg p0 p1 p2 p3 p4 p5 p6 p7 p8 p9 p10
  go_wp2_with fail
  refine bodyPost_ret (v := .tuple #[.agg #[.int .i64 G1, .int .i64 M1, .int .i64 B1, .slice (some ⟨g, 0, none⟩) n1 cp], .bool false]) (by simp [results, Try.results52, go_sem, HE.out.1, HE.out.2.1, HE.out.2.2.1, HE.out.2.2.2.1]) rfl ⟨g, cp, rfl, ?_, ?_⟩
  · exact HRD.out.only HE.out.2.2.2.2 (fun y hy e => by injection hy with hy; subst hy; have e' : g = w.heap.size + 1 := e; have := HG.out; have := K2.out.size; have := HFR.out.2; omega)
  · exact ((HO0.out.trans K3.out).then HE.out.2.2.2.2 (fun q hq e => by have e' : q = w.heap.size + 1 := e; omega))

set_option maxRecDepth 100000 in
set_option maxHeartbeats 1000000 in
theorem at_other (D F T G1 M1 B1 G2 M2 B2 : Int) (a1 a2 : Option Addr) (n1 n2 c1 c2 : Nat) (t1 t2 : List Tr) (now : Int) (w : World) (h1 : ReadsT w a1 n1 t1) (h2 : ReadsT w a2 n2 t2) (h0 : 0 ≤ now) (hx : now ≤ 9223372036854775807) (hp : pchk D F T G1 M1 B1 G2 M2 B2 t1 t2 = 0) (hiso : isO D F T now = true) :
    Calls Try.prog 52 #[.agg #[.int .i64 D, .int .i64 F, .int .i64 T, .int .i64 G1, .int .i64 M1, .int .i64 B1, .slice a1 n1 c1, .int .i64 G2, .int .i64 M2, .int .i64 B2, .slice a2 n2 c2], .int .i64 now] w (AtAt G2 M2 B2 n2 t2 true w) := by
  obtain ⟨k1, kk⟩ := pchk_ok hp
  have hD : D = 0 ∨ DayP D F T := kk.elim (fun e => .inl e.1) (fun e => .inr e.2.1)
  have hck : tchk G2 M2 B2 t2 = 0 := kk.elim (fun e => by rw [e.1, isO_zero] at hiso; cases hiso) (fun e => e.2.2.1)
  obtain ⟨_, _, _, hl, _⟩ := (tchk_ok G2 M2 B2 t2).1 hck
  have hln := h2.1
  obtain ⟨b, off, hab, _⟩ := h2.2.2.2.resolve_left (by omega)
  subst hab
  have HC := Lib.hid (fun w' (ho : Only (fun _ => False) w w') => cplan_any D F T G1 M1 B1 G2 M2 B2 a1 (some ⟨b, off, none⟩) n1 n2 c1 c2 t1 t2 w' (h1.only ho (fun _ _ f => f)) (h2.only ho (fun _ _ f => f)))
  rw [hp] at HC
  have HIO := Lib.hid (fun w' => isother_any D F T G1 M1 B1 G2 M2 B2 a1 (some ⟨b, off, none⟩) n1 n2 c1 c2 now h0 hx hD w')
  rw [hiso] at HIO
  have HCP := Lib.hid (fun w' (ho : Only (fun _ => False) w w') => copy_any G2 M2 B2 b off n2 c2 t2 w' (h2.only ho (fun _ _ f => f)) (by omega) (by omega))
  obtain ⟨W0, hW0⟩ : ∃ W0, W0 = (w.alloc (.cells #[.int .i64 D, .int .i64 F, .int .i64 T, .int .i64 G1, .int .i64 M1, .int .i64 B1, .slice a1 n1 c1, .int .i64 G2, .int .i64 M2, .int .i64 B2, .slice (some ⟨b, off, none⟩) n2 c2] 30)).alloc (.cells #[.int .i64 0, .int .i64 0, .int .i64 0, .slice none 0 0] 24) := ⟨_, rfl⟩
  have HO0 : Hid (Only (fun _ => False) w W0) := Lib.hid (by rw [hW0]; exact ((Only.refl _ w).alloc _).alloc _)
  have HPA : Hid (PlanAt W0 w.heap.size D F T G1 M1 B1 G2 M2 B2 a1 (some ⟨b, off, none⟩) n1 n2 c1 c2) := Lib.hid (by rw [hW0]; exact (PlanAt.new ..).only ((Only.refl (fun _ => False) _).alloc _) (fun f => f))
  have HFR : Hid (Four W0 (w.heap.size + 1) ∧ W0.heap.size = w.heap.size + 2) := Lib.hid (by rw [hW0]; exact ⟨Four.new (by simp), by simp⟩)
  clear h1 h2 hp kk k1 hD hck hl hln hiso
  go_enter Try.func52, Try.ntmps52
  obtain ⟨p0, p1, p2, p3, p4, p5, p6, p7, p8, p9, p10⟩ := HPA.out
  rw [hW0] at p0 p1 p2 p3 p4 p5 p6 p7 p8 p9 p10
  go_wp2_with fail
  rw [← hW0]
  clear hW0 p0 p1 p2 p3 p4 p5 p6 p7 p8 p9 p10
  refine (HC.out _ HO0.out).mono ?_
  rintro _ w1 ⟨rfl, k1⟩
  have K1 := Lib.hid k1
  clear k1
  obtain ⟨p0, p1, p2, p3, p4, p5, p6, p7, p8, p9, p10⟩ := HPA.out.only K1.out (fun f => f)
  go_wp2_with fail
  refine (HIO.out _).mono ?_
  rintro _ w2 ⟨rfl, k2⟩
  have K2 := Lib.hid (K1.out.trans k2)
  clear k2 p0 p1 p2 p3 p4 p5 p6 p7 p8 p9 p10
  obtain ⟨p0, p1, p2, p3, p4, p5, p6, p7, p8, p9, p10⟩ := HPA.out.only K2.out (fun f => f)
  go_wp2_with fail
  refine (HCP.out _ (HO0.out.trans K2.out)).mono ?_
  rintro _ w3 ⟨g, cp, rfl, hrd, hg, k3⟩
  have HG := Lib.hid hg
  have K3 := Lib.hid (K2.out.trans k3)
  have HRD := Lib.hid hrd
  have HR4 := HFR.out.1.only K3.out (fun f => f)
  have HE := Lib.hid (HR4.set (.int .i64 G2) (.int .i64 M2) (.int .i64 B2) (.slice (some ⟨g, 0, none⟩) n2 cp))
  obtain ⟨⟨_, r0⟩, ⟨_, r1⟩, ⟨_, r2⟩, ⟨_, r3⟩, g0, g1, g2, g3⟩ := HR4
  clear k3 hrd hg p0 p1 p2 p3 p4 p5 p6 p7 p8 p9 p10
  go_wp2_with fail
  refine bodyPost_ret (v := .tuple #[.agg #[.int .i64 G2, .int .i64 M2, .int .i64 B2, .slice (some ⟨g, 0, none⟩) n2 cp], .bool true]) (by simp [results, Try.results52, go_sem, HE.out.1, HE.out.2.1, HE.out.2.2.1, HE.out.2.2.2.1]) rfl ⟨g, cp, rfl, ?_, ?_⟩
  · exact HRD.out.only HE.out.2.2.2.2 (fun y hy e => by injection hy with hy; subst hy; have e' : g = w.heap.size + 1 := e; have := HG.out; have := K2.out.size; have := HFR.out.2; omega)
  · exact ((HO0.out.trans K3.out).then HE.out.2.2.2.2 (fun q hq e => by have e' : q = w.heap.size + 1 := e; omega))
end Go.Proofs.Ytonacdjaimokeaa.tirw
