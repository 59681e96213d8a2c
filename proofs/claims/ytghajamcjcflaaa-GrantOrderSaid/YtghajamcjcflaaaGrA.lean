/- Grants: tame of a plan, the cases of the first row: l. Grants: tame of a plan, the cases of the first row: n. Grants: tame of a plan, the cases of the first row: m. Grants: tame of a plan; to. -/
import Derived.Test.YtghajamcjcflaaaRatS
namespace Go.Proofs.Ytghajamcjcflaaa.tirw
open Go.RowKit mem tirm intm bigm bigw
set_option linter.unusedVariables false
set_option maxRecDepth 100000 in
set_option maxHeartbeats 1000000 in
theorem gtame_ll (D F T G1 M1 B1 G2 M2 B2 : Int) (x1 : Addr) (n1 c1 : Nat) (x2 : Addr) (n2 c2 : Nat) (t1 t2 : List Tr) (w : World) (Q : Ending → World → Prop) (h1 : (n1 : Int) ≤ 9) (k1 : (0 : Int) ≤ n1) (j1 : (n1 : Int) ≤ c1) (h2 : (n2 : Int) ≤ 9) (k2 : (0 : Int) ≤ n2) (j2 : (n2 : Int) ≤ c2) (hr1 : ReadsT w (some x1) n1 t1) (hr2 : ReadsT w (some x2) n2 t2)
    (hQ : ∀ a3 a4 q3 q4 w', ReadsT w' a3 n1 t1 → ReadsT w' a4 n2 t2 → Only (fun _ => False) w w' → (∀ y, a3 = some y → w.heap.size ≤ y.block) → (∀ y, a4 = some y → w.heap.size ≤ y.block) → Q (.returned (.agg #[.int .i64 D, .int .i64 F, .int .i64 T, .int .i64 G1, .int .i64 M1, .int .i64 B1, .slice a3 n1 q3, .int .i64 G2, .int .i64 M2, .int .i64 B2, .slice a4 n2 q4])) w') :
    Calls Try.prog 14 #[.agg #[.int .i64 D, .int .i64 F, .int .i64 T, .int .i64 G1, .int .i64 M1, .int .i64 B1, .slice (some x1) n1 c1, .int .i64 G2, .int .i64 M2, .int .i64 B2, .slice (some x2) n2 c2]] w Q := by
  go_enter Try.func14, Try.ntmps14
  obtain ⟨W0, hW0⟩ : ∃ W0, W0 = ((w.alloc (.cells #[.int .i64 D, .int .i64 F, .int .i64 T, .int .i64 G1, .int .i64 M1, .int .i64 B1, .slice (some x1) n1 c1, .int .i64 G2, .int .i64 M2, .int .i64 B2, .slice (some x2) n2 c2] 37)).alloc (.cells #[.int .i64 0, .int .i64 0, .int .i64 0, .int .i64 0, .int .i64 0, .int .i64 0, .slice none 0 0, .int .i64 0, .int .i64 0, .int .i64 0, .slice none 0 0] 37)).alloc (.cells #[] 91) := ⟨_, rfl⟩
  have HP : Hid (BoxV W0 w.heap.size (plV D F T G1 M1 B1 G2 M2 B2 (some x1) (some x2) n1 n2 c1 c2)) := Lib.hid (by rw [hW0]; exact (BoxV.new w (plV D F T G1 M1 B1 G2 M2 B2 (some x1) (some x2) n1 n2 c1 c2) _ _ rfl).only (((Only.refl (fun _ => False) _).alloc _).alloc _) (fun f => f))
  have HRS : Hid (BoxV W0 (w.heap.size + 1) zerosP ∧ W0.heap.size = w.heap.size + 3) := Lib.hid (by rw [hW0]; exact ⟨(BoxV.new (w.alloc _) zerosP _ _ (by simp)).only ((Only.refl (fun _ => False) _).alloc _) (fun f => f), by simp⟩)
  have HO0 : Hid (Only (fun _ => False) w W0) := Lib.hid (by rw [hW0]; exact (((Only.refl _ w).alloc _).alloc _).alloc _)
  have HOW : Hid (OwnT W0 (.slice (some ⟨w.heap.size + 1 + 1, 0, none⟩) 0 0) []) := Lib.hid (by
    rw [hW0]
    have := World.ownsRow_lit (base := 0) (e := 91) (size := 2) ((w.alloc (.cells #[.int .i64 D, .int .i64 F, .int .i64 T, .int .i64 G1, .int .i64 M1, .int .i64 B1, .slice (some x1) n1 c1, .int .i64 G2, .int .i64 M2, .int .i64 B2, .slice (some x2) n2 c2] 37)).alloc (.cells #[.int .i64 0, .int .i64 0, .int .i64 0, .int .i64 0, .int .i64 0, .int .i64 0, .slice none 0 0, .int .i64 0, .int .i64 0, .int .i64 0, .slice none 0 0] 37)) #[] 0 (by simp) (by decide) rfl
    rw [show ((w.alloc (.cells #[.int .i64 D, .int .i64 F, .int .i64 T, .int .i64 G1, .int .i64 M1, .int .i64 B1, .slice (some x1) n1 c1, .int .i64 G2, .int .i64 M2, .int .i64 B2, .slice (some x2) n2 c2] 37)).alloc (.cells #[.int .i64 0, .int .i64 0, .int .i64 0, .int .i64 0, .int .i64 0, .int .i64 0, .slice none 0 0, .int .i64 0, .int .i64 0, .int .i64 0, .slice none 0 0] 37)).heap.size = w.heap.size + 1 + 1 by simp] at this
    exact this)
  have HR1 := Lib.hid (hr1.only HO0.out (fun _ _ f => f))
  have HR2 := Lib.hid (hr2.only HO0.out (fun _ _ f => f))
  have HRW2 := Lib.hid hr2
  have HQ := Lib.hid hQ
  clear hr1 hr2 hQ
  obtain ⟨⟨p0, p1, p2, p3, p4, p5, p6, p7, p8, p9, p10⟩, _⟩ := HP.out.all
  rw [hW0] at p0 p1 p2 p3 p4 p5 p6 p7 p8 p9 p10
  go_wp2_with (at_builtin; rw [← hW0]; refine append_tiers rfl _ _ rfl _ [] rfl HOW.out _ _ _ t1 rfl HR1.out (by show 0 + n1 ≤ _; omega) ?_)
  clear p0 p1 p2 p3 p4 p5 p6 p7 p8 p9 p10
  have HW0 := Lib.hid hW0
  clear hW0
  intro v2 w2 hown hgrow hne
  obtain ⟨a3, q3, rfl, hrd⟩ := own_readsT3 hown (by simpa using HR1.out.2.2.1) (by have := HR1.out.1; simp; omega)
  have hl3 : t1.length = n1 := HR1.out.1
  rw [hl3] at hrd hown ⊢
  rw [← HW0.out] at hgrow
  have HB3 : Hid (∀ y, a3 = some y → w.heap.size + 2 ≤ y.block) := Lib.hid (by
    intro y hy
    rcases hne y.block (by rw [hy]; rfl) with e | e
    · have : w.heap.size + 1 + 1 = y.block := by simpa [Value.ownBlock] using e
      omega
    · have := HRS.out.2
      first
      | omega
      | (rw [← HW0.out] at e; omega)
      | (simp at e; omega))
  have HRD2 := Lib.hid hrd
  have HGR : Hid (Only (fun q => q = w.heap.size + 1 + 1) W0 w2) := Lib.hid ((Only.of_grown hgrow).mono (fun q _ hq => by
    have : w.heap.size + 1 + 1 = q := by simpa [Value.ownBlock] using hq
    omega))
  have hn1 : ¬ (w.heap.size = w.heap.size + 1 + 1) := by omega
  have HP2 : Hid (BoxV w2 w.heap.size (plV D F T G1 M1 B1 G2 M2 B2 (some x1) (some x2) n1 n2 c1 c2)) := Lib.hid (HP.out.only HGR.out hn1)
  have HRS2 : Hid (BoxV w2 (w.heap.size + 1) zerosP) := Lib.hid (HRS.out.1.only HGR.out (fun e => by have e' : w.heap.size + 1 = w.heap.size + 1 + 1 := e; omega))
  have HO2 : Hid (Only (fun _ => False) w w2) := Lib.hid (HO0.out.then HGR.out (fun q hq e => by have e' : q = w.heap.size + 1 + 1 := e; omega))
  have HST : Hid (Only (fun q => q = w.heap.size) w2 (w2.setCell ⟨w.heap.size, 6, none⟩ (.slice a3 n1 q3))) := Lib.hid (Only.set (fun q => q = w.heap.size) w2 w.heap.size 6 _ rfl)
  obtain ⟨W1, hW1⟩ : ∃ W1, W1 = (w2.setCell ⟨w.heap.size, 6, none⟩ (.slice a3 n1 q3)).alloc (.cells #[] 91) := ⟨_, rfl⟩
  have HP3 : Hid (BoxV W1 w.heap.size (plV D F T G1 M1 B1 G2 M2 B2 a3 (some x2) n1 n2 q3 c2)) := Lib.hid (by rw [hW1]; exact (plan_set6 HP2.out a3 n1 q3).only ((Only.refl (fun _ => False) _).alloc _) (fun f => f))
  have HRS3 : Hid (BoxV W1 (w.heap.size + 1) zerosP) := Lib.hid (by rw [hW1]; exact (HRS2.out.only HST.out (fun e => by have e' : w.heap.size + 1 = w.heap.size := e; omega)).only ((Only.refl (fun _ => False) _).alloc _) (fun f => f))
  have HO3 : Hid (Only (fun _ => False) w W1) := Lib.hid (by rw [hW1]; exact (HO2.out.then HST.out (fun q hq e => by have e' : q = w.heap.size := e; omega)).alloc _)
  have HR23 : Hid (ReadsT W1 (some x2) n2 t2) := Lib.hid (HRW2.out.only HO3.out (fun _ _ f => f))
  have HX1 : Hid (Only (fun q => q = w.heap.size) w2 W1) := Lib.hid (by rw [hW1]; exact HST.out.alloc _)
  have HOW3 : Hid (OwnT W1 (.slice (some ⟨w2.heap.size, 0, none⟩) 0 0) []) := Lib.hid (by
    rw [hW1]
    have := World.ownsRow_lit (base := 0) (e := 91) (size := 2) (w2.setCell ⟨w.heap.size, 6, none⟩ (.slice a3 n1 q3)) #[] 0 (by simp) (by decide) rfl
    rw [show (w2.setCell ⟨w.heap.size, 6, none⟩ (.slice a3 n1 q3)).heap.size = w2.heap.size by simp] at this
    exact this)
  obtain ⟨⟨u0, u1, u2, u3, u4, u5, u6, u7, u8, u9, u10⟩, f0, f1, f2, f3, f4, f5, f6, f7, f8, f9, f10⟩ := HP2.out.all
  obtain ⟨⟨p0, p1, p2, p3, p4, p5, p6, p7, p8, p9, p10⟩, _⟩ := HP3.out.all
  rw [hW1] at p0 p1 p2 p3 p4 p5 p6 p7 p8 p9 p10
  clear hown hgrow hne hrd
  go_wp2_with (at_builtin; rw [← hW1]; refine append_tiers rfl _ _ rfl _ [] rfl HOW3.out _ _ _ t2 rfl HR23.out (by show 0 + n2 ≤ _; omega) ?_)
  intro v4 w4 hown hgrow hne
  rw [← hW1] at hgrow
  have HW1 := Lib.hid hW1
  clear p0 p1 p2 p3 p4 p5 p6 p7 p8 p9 p10 u0 u1 u2 u3 u4 u5 u6 u7 u8 u9 u10 f0 f1 f2 f3 f4 f5 f6 f7 f8 f9 f10 hW1
  have hsz2 : w.heap.size + 3 ≤ w2.heap.size := by have := HGR.out.size; have := HRS.out.2; omega
  obtain ⟨a4, q4, rfl, hrd⟩ := own_readsT3 hown (by simpa using HR2.out.2.2.1) (by have := HR2.out.1; simp; omega)
  have hl4 : t2.length = n2 := HR2.out.1
  rw [hl4] at hrd hown ⊢
  have HB4 : Hid (∀ y, a4 = some y → w.heap.size + 2 ≤ y.block) := Lib.hid (by
    intro y hy
    rcases hne y.block (by rw [hy]; rfl) with e | e
    · have : w2.heap.size = y.block := by simpa [Value.ownBlock] using e
      omega
    · have := HX1.out.size
      first
      | omega
      | (rw [← HW1.out] at e; omega)
      | (simp at e; omega))
  have HRD4 := Lib.hid hrd
  have HGR4 : Hid (Only (fun q => q = w2.heap.size) W1 w4) := Lib.hid ((Only.of_grown hgrow).mono (fun q _ hq => by
    have : w2.heap.size = q := by simpa [Value.ownBlock] using hq
    omega))
  have HP4 : Hid (BoxV w4 w.heap.size (plV D F T G1 M1 B1 G2 M2 B2 a3 (some x2) n1 n2 q3 c2)) := Lib.hid (HP3.out.only HGR4.out (fun e => by have e' : w.heap.size = w2.heap.size := e; omega))
  have HRS4 : Hid (BoxV w4 (w.heap.size + 1) zerosP) := Lib.hid (HRS3.out.only HGR4.out (fun e => by have e' : w.heap.size + 1 = w2.heap.size := e; omega))
  have HO4 : Hid (Only (fun _ => False) w w4) := Lib.hid (HO3.out.then HGR4.out (fun q hq e => by have e' : q = w2.heap.size := e; omega))
  have HST4 : Hid (Only (fun q => q = w.heap.size) w4 (w4.setCell ⟨w.heap.size, 10, none⟩ (.slice a4 n2 q4))) := Lib.hid (Only.set (fun q => q = w.heap.size) w4 w.heap.size 10 _ rfl)
  obtain ⟨W5, hW5⟩ : ∃ W5, W5 = w4.setCell ⟨w.heap.size, 10, none⟩ (.slice a4 n2 q4) := ⟨_, rfl⟩
  have HP5 : Hid (BoxV W5 w.heap.size (plV D F T G1 M1 B1 G2 M2 B2 a3 a4 n1 n2 q3 q4)) := Lib.hid (by rw [hW5]; exact plan_set10 HP4.out a4 n2 q4)
  have HRS5 : Hid (BoxV W5 (w.heap.size + 1) zerosP) := Lib.hid (by rw [hW5]; exact HRS4.out.only HST4.out (fun e => by have e' : w.heap.size + 1 = w.heap.size := e; omega))
  obtain ⟨W6, HP6, HO6, hW6⟩ := plan_put HRS5.out rfl D F T G1 M1 B1 G2 M2 B2 a3 a4 n1 n2 q3 q4
  obtain ⟨⟨u0, u1, u2, u3, u4, u5, u6, u7, u8, u9, u10⟩, f0, f1, f2, f3, f4, f5, f6, f7, f8, f9, f10⟩ := HP4.out.all
  obtain ⟨⟨p0, p1, p2, p3, p4, p5, p6, p7, p8, p9, p10⟩, _⟩ := HP5.out.all
  rw [hW5] at p0 p1 p2 p3 p4 p5 p6 p7 p8 p9 p10
  have z0 := (HRS5.out 0 _ rfl); have z1 := (HRS5.out 1 _ rfl); have z2 := (HRS5.out 2 _ rfl); have z3 := (HRS5.out 3 _ rfl); have z4 := (HRS5.out 4 _ rfl); have z5 := (HRS5.out 5 _ rfl)
  have z6 := (HRS5.out 6 _ rfl); have z7 := (HRS5.out 7 _ rfl); have z8 := (HRS5.out 8 _ rfl); have z9 := (HRS5.out 9 _ rfl); have z10 := (HRS5.out 10 _ rfl)
  rw [hW5] at z0 z1 z2 z3 z4 z5 z6 z7 z8 z9 z10
  obtain ⟨z0, y0⟩ := z0; obtain ⟨z1, y1⟩ := z1; obtain ⟨z2, y2⟩ := z2; obtain ⟨z3, y3⟩ := z3; obtain ⟨z4, y4⟩ := z4; obtain ⟨z5, y5⟩ := z5
  obtain ⟨z6, y6⟩ := z6; obtain ⟨z7, y7⟩ := z7; obtain ⟨z8, y8⟩ := z8; obtain ⟨z9, y9⟩ := z9; obtain ⟨z10, y10⟩ := z10
  clear hown hgrow hne hrd
  go_wp2_with fail
  clear p0 p1 p2 p3 p4 p5 p6 p7 p8 p9 p10
  obtain ⟨⟨p0, p1, p2, p3, p4, p5, p6, p7, p8, p9, p10⟩, _⟩ := HP6.all
  rw [← hW5, ← hW6]
  refine bodyPost_ret (v := .agg #[.int .i64 D, .int .i64 F, .int .i64 T, .int .i64 G1, .int .i64 M1, .int .i64 B1, .slice a3 n1 q3, .int .i64 G2, .int .i64 M2, .int .i64 B2, .slice a4 n2 q4]) (by simp [results, Try.results14, go_sem, p0, p1, p2, p3, p4, p5, p6, p7, p8, p9, p10]) rfl (HQ.out a3 a4 q3 q4 W6 ?_ ?_ ?_ (fun y hy => by have := HB3.out y hy; omega) (fun y hy => by have := HB4.out y hy; omega))
  · have h4 := (HX1.out.then HGR4.out (T := fun q => q = w2.heap.size) (fun q hq e => by have e' : q = w2.heap.size := e; omega)).trans HST4.out
    rw [← hW5] at h4
    exact (HRD2.out.only h4 (fun y hy e => by have := HB3.out y hy; have e' : y.block = w.heap.size := e; omega)).only HO6 (fun y hy e => by have := HB3.out y hy; have e' : y.block = w.heap.size + 1 := e; omega)
  · have h4 := HST4.out
    rw [← hW5] at h4
    exact (HRD4.out.only h4 (fun y hy e => by have := HB4.out y hy; have e' : y.block = w.heap.size := e; omega)).only HO6 (fun y hy e => by have := HB4.out y hy; have e' : y.block = w.heap.size + 1 := e; omega)
  · have h4 := HST4.out
    rw [← hW5] at h4
    exact (HO4.out.then h4 (fun q hq e => by have e' : q = w.heap.size := e; omega)).then HO6 (fun q hq e => by have e' : q = w.heap.size + 1 := e; omega)
set_option maxRecDepth 100000 in
set_option maxHeartbeats 1000000 in
theorem gtame_ln (D F T G1 M1 B1 G2 M2 B2 : Int) (x1 : Addr) (n1 c1 : Nat) (t1 t2 : List Tr) (w : World) (Q : Ending → World → Prop) (h1 : (n1 : Int) ≤ 9) (k1 : (0 : Int) ≤ n1) (j1 : (n1 : Int) ≤ c1) (h2 : min (0 : Int) 9 = 0) (hr1 : ReadsT w (some x1) n1 t1) (hr2 : ReadsT w none 0 t2)
    (hQ : ∀ a3 a4 q3 q4 w', ReadsT w' a3 n1 t1 → ReadsT w' a4 0 t2 → Only (fun _ => False) w w' → (∀ y, a3 = some y → w.heap.size ≤ y.block) → (∀ y, a4 = some y → w.heap.size ≤ y.block) → Q (.returned (.agg #[.int .i64 D, .int .i64 F, .int .i64 T, .int .i64 G1, .int .i64 M1, .int .i64 B1, .slice a3 n1 q3, .int .i64 G2, .int .i64 M2, .int .i64 B2, .slice a4 0 q4])) w') :
    Calls Try.prog 14 #[.agg #[.int .i64 D, .int .i64 F, .int .i64 T, .int .i64 G1, .int .i64 M1, .int .i64 B1, .slice (some x1) n1 c1, .int .i64 G2, .int .i64 M2, .int .i64 B2, .slice none 0 0]] w Q := by
  go_enter Try.func14, Try.ntmps14
  obtain ⟨W0, hW0⟩ : ∃ W0, W0 = ((w.alloc (.cells #[.int .i64 D, .int .i64 F, .int .i64 T, .int .i64 G1, .int .i64 M1, .int .i64 B1, .slice (some x1) n1 c1, .int .i64 G2, .int .i64 M2, .int .i64 B2, .slice none 0 0] 37)).alloc (.cells #[.int .i64 0, .int .i64 0, .int .i64 0, .int .i64 0, .int .i64 0, .int .i64 0, .slice none 0 0, .int .i64 0, .int .i64 0, .int .i64 0, .slice none 0 0] 37)).alloc (.cells #[] 91) := ⟨_, rfl⟩
  have HP : Hid (BoxV W0 w.heap.size (plV D F T G1 M1 B1 G2 M2 B2 (some x1) none n1 0 c1 0)) := Lib.hid (by rw [hW0]; exact (BoxV.new w (plV D F T G1 M1 B1 G2 M2 B2 (some x1) none n1 0 c1 0) _ _ rfl).only (((Only.refl (fun _ => False) _).alloc _).alloc _) (fun f => f))
  have HRS : Hid (BoxV W0 (w.heap.size + 1) zerosP ∧ W0.heap.size = w.heap.size + 3) := Lib.hid (by rw [hW0]; exact ⟨(BoxV.new (w.alloc _) zerosP _ _ (by simp)).only ((Only.refl (fun _ => False) _).alloc _) (fun f => f), by simp⟩)
  have HO0 : Hid (Only (fun _ => False) w W0) := Lib.hid (by rw [hW0]; exact (((Only.refl _ w).alloc _).alloc _).alloc _)
  have HOW : Hid (OwnT W0 (.slice (some ⟨w.heap.size + 1 + 1, 0, none⟩) 0 0) []) := Lib.hid (by
    rw [hW0]
    have := World.ownsRow_lit (base := 0) (e := 91) (size := 2) ((w.alloc (.cells #[.int .i64 D, .int .i64 F, .int .i64 T, .int .i64 G1, .int .i64 M1, .int .i64 B1, .slice (some x1) n1 c1, .int .i64 G2, .int .i64 M2, .int .i64 B2, .slice none 0 0] 37)).alloc (.cells #[.int .i64 0, .int .i64 0, .int .i64 0, .int .i64 0, .int .i64 0, .int .i64 0, .slice none 0 0, .int .i64 0, .int .i64 0, .int .i64 0, .slice none 0 0] 37)) #[] 0 (by simp) (by decide) rfl
    rw [show ((w.alloc (.cells #[.int .i64 D, .int .i64 F, .int .i64 T, .int .i64 G1, .int .i64 M1, .int .i64 B1, .slice (some x1) n1 c1, .int .i64 G2, .int .i64 M2, .int .i64 B2, .slice none 0 0] 37)).alloc (.cells #[.int .i64 0, .int .i64 0, .int .i64 0, .int .i64 0, .int .i64 0, .int .i64 0, .slice none 0 0, .int .i64 0, .int .i64 0, .int .i64 0, .slice none 0 0] 37)).heap.size = w.heap.size + 1 + 1 by simp] at this
    exact this)
  have HR1 := Lib.hid (hr1.only HO0.out (fun _ _ f => f))
  have HR2 := Lib.hid (hr2.only HO0.out (fun _ _ f => f))
  have HRW2 := Lib.hid hr2
  have HQ := Lib.hid hQ
  clear hr1 hr2 hQ
  obtain ⟨⟨p0, p1, p2, p3, p4, p5, p6, p7, p8, p9, p10⟩, _⟩ := HP.out.all
  rw [hW0] at p0 p1 p2 p3 p4 p5 p6 p7 p8 p9 p10
  go_wp2_with (at_builtin; rw [← hW0]; refine append_tiers rfl _ _ rfl _ [] rfl HOW.out _ _ _ t1 rfl HR1.out (by show 0 + n1 ≤ _; omega) ?_)
  clear p0 p1 p2 p3 p4 p5 p6 p7 p8 p9 p10
  have HW0 := Lib.hid hW0
  clear hW0
  intro v2 w2 hown hgrow hne
  obtain ⟨a3, q3, rfl, hrd⟩ := own_readsT3 hown (by simpa using HR1.out.2.2.1) (by have := HR1.out.1; simp; omega)
  have hl3 : t1.length = n1 := HR1.out.1
  rw [hl3] at hrd hown ⊢
  rw [← HW0.out] at hgrow
  have HB3 : Hid (∀ y, a3 = some y → w.heap.size + 2 ≤ y.block) := Lib.hid (by
    intro y hy
    rcases hne y.block (by rw [hy]; rfl) with e | e
    · have : w.heap.size + 1 + 1 = y.block := by simpa [Value.ownBlock] using e
      omega
    · have := HRS.out.2
      first
      | omega
      | (rw [← HW0.out] at e; omega)
      | (simp at e; omega))
  have HRD2 := Lib.hid hrd
  have HGR : Hid (Only (fun q => q = w.heap.size + 1 + 1) W0 w2) := Lib.hid ((Only.of_grown hgrow).mono (fun q _ hq => by
    have : w.heap.size + 1 + 1 = q := by simpa [Value.ownBlock] using hq
    omega))
  have hn1 : ¬ (w.heap.size = w.heap.size + 1 + 1) := by omega
  have HP2 : Hid (BoxV w2 w.heap.size (plV D F T G1 M1 B1 G2 M2 B2 (some x1) none n1 0 c1 0)) := Lib.hid (HP.out.only HGR.out hn1)
  have HRS2 : Hid (BoxV w2 (w.heap.size + 1) zerosP) := Lib.hid (HRS.out.1.only HGR.out (fun e => by have e' : w.heap.size + 1 = w.heap.size + 1 + 1 := e; omega))
  have HO2 : Hid (Only (fun _ => False) w w2) := Lib.hid (HO0.out.then HGR.out (fun q hq e => by have e' : q = w.heap.size + 1 + 1 := e; omega))
  have HST : Hid (Only (fun q => q = w.heap.size) w2 (w2.setCell ⟨w.heap.size, 6, none⟩ (.slice a3 n1 q3))) := Lib.hid (Only.set (fun q => q = w.heap.size) w2 w.heap.size 6 _ rfl)
  obtain ⟨W1, hW1⟩ : ∃ W1, W1 = (w2.setCell ⟨w.heap.size, 6, none⟩ (.slice a3 n1 q3)).alloc (.cells #[] 91) := ⟨_, rfl⟩
  have HP3 : Hid (BoxV W1 w.heap.size (plV D F T G1 M1 B1 G2 M2 B2 a3 none n1 0 q3 0)) := Lib.hid (by rw [hW1]; exact (plan_set6 HP2.out a3 n1 q3).only ((Only.refl (fun _ => False) _).alloc _) (fun f => f))
  have HRS3 : Hid (BoxV W1 (w.heap.size + 1) zerosP) := Lib.hid (by rw [hW1]; exact (HRS2.out.only HST.out (fun e => by have e' : w.heap.size + 1 = w.heap.size := e; omega)).only ((Only.refl (fun _ => False) _).alloc _) (fun f => f))
  have HO3 : Hid (Only (fun _ => False) w W1) := Lib.hid (by rw [hW1]; exact (HO2.out.then HST.out (fun q hq e => by have e' : q = w.heap.size := e; omega)).alloc _)
  have HR23 : Hid (ReadsT W1 none 0 t2) := Lib.hid (HRW2.out.only HO3.out (fun _ _ f => f))
  have HX1 : Hid (Only (fun q => q = w.heap.size) w2 W1) := Lib.hid (by rw [hW1]; exact HST.out.alloc _)
  have HOW3 : Hid (OwnT W1 (.slice (some ⟨w2.heap.size, 0, none⟩) 0 0) []) := Lib.hid (by
    rw [hW1]
    have := World.ownsRow_lit (base := 0) (e := 91) (size := 2) (w2.setCell ⟨w.heap.size, 6, none⟩ (.slice a3 n1 q3)) #[] 0 (by simp) (by decide) rfl
    rw [show (w2.setCell ⟨w.heap.size, 6, none⟩ (.slice a3 n1 q3)).heap.size = w2.heap.size by simp] at this
    exact this)
  obtain ⟨⟨u0, u1, u2, u3, u4, u5, u6, u7, u8, u9, u10⟩, f0, f1, f2, f3, f4, f5, f6, f7, f8, f9, f10⟩ := HP2.out.all
  obtain ⟨⟨p0, p1, p2, p3, p4, p5, p6, p7, p8, p9, p10⟩, _⟩ := HP3.out.all
  rw [hW1] at p0 p1 p2 p3 p4 p5 p6 p7 p8 p9 p10
  clear hown hgrow hne hrd
  go_wp2_with (at_builtin; rw [← hW1]; refine append_tiers rfl _ _ rfl _ [] rfl HOW3.out _ _ _ t2 rfl HR23.out (by show 0 + 0 ≤ _; omega) ?_)
  intro v4 w4 hown hgrow hne
  rw [← hW1] at hgrow
  have HW1 := Lib.hid hW1
  clear p0 p1 p2 p3 p4 p5 p6 p7 p8 p9 p10 u0 u1 u2 u3 u4 u5 u6 u7 u8 u9 u10 f0 f1 f2 f3 f4 f5 f6 f7 f8 f9 f10 hW1
  have hsz2 : w.heap.size + 3 ≤ w2.heap.size := by have := HGR.out.size; have := HRS.out.2; omega
  obtain ⟨a4, q4, rfl, hrd⟩ := own_readsT3 hown (by simpa using HR2.out.2.2.1) (by have := HR2.out.1; simp; omega)
  have hl4 : t2.length = 0 := HR2.out.1
  rw [hl4] at hrd hown ⊢
  have HB4 : Hid (∀ y, a4 = some y → w.heap.size + 2 ≤ y.block) := Lib.hid (by
    intro y hy
    rcases hne y.block (by rw [hy]; rfl) with e | e
    · have : w2.heap.size = y.block := by simpa [Value.ownBlock] using e
      omega
    · have := HX1.out.size
      first
      | omega
      | (rw [← HW1.out] at e; omega)
      | (simp at e; omega))
  have HRD4 := Lib.hid hrd
  have HGR4 : Hid (Only (fun q => q = w2.heap.size) W1 w4) := Lib.hid ((Only.of_grown hgrow).mono (fun q _ hq => by
    have : w2.heap.size = q := by simpa [Value.ownBlock] using hq
    omega))
  have HP4 : Hid (BoxV w4 w.heap.size (plV D F T G1 M1 B1 G2 M2 B2 a3 none n1 0 q3 0)) := Lib.hid (HP3.out.only HGR4.out (fun e => by have e' : w.heap.size = w2.heap.size := e; omega))
  have HRS4 : Hid (BoxV w4 (w.heap.size + 1) zerosP) := Lib.hid (HRS3.out.only HGR4.out (fun e => by have e' : w.heap.size + 1 = w2.heap.size := e; omega))
  have HO4 : Hid (Only (fun _ => False) w w4) := Lib.hid (HO3.out.then HGR4.out (fun q hq e => by have e' : q = w2.heap.size := e; omega))
  have HST4 : Hid (Only (fun q => q = w.heap.size) w4 (w4.setCell ⟨w.heap.size, 10, none⟩ (.slice a4 0 q4))) := Lib.hid (Only.set (fun q => q = w.heap.size) w4 w.heap.size 10 _ rfl)
  obtain ⟨W5, hW5⟩ : ∃ W5, W5 = w4.setCell ⟨w.heap.size, 10, none⟩ (.slice a4 0 q4) := ⟨_, rfl⟩
  have HP5 : Hid (BoxV W5 w.heap.size (plV D F T G1 M1 B1 G2 M2 B2 a3 a4 n1 0 q3 q4)) := Lib.hid (by rw [hW5]; exact plan_set10 HP4.out a4 0 q4)
  have HRS5 : Hid (BoxV W5 (w.heap.size + 1) zerosP) := Lib.hid (by rw [hW5]; exact HRS4.out.only HST4.out (fun e => by have e' : w.heap.size + 1 = w.heap.size := e; omega))
  obtain ⟨W6, HP6, HO6, hW6⟩ := plan_put HRS5.out rfl D F T G1 M1 B1 G2 M2 B2 a3 a4 n1 0 q3 q4
  obtain ⟨⟨u0, u1, u2, u3, u4, u5, u6, u7, u8, u9, u10⟩, f0, f1, f2, f3, f4, f5, f6, f7, f8, f9, f10⟩ := HP4.out.all
  obtain ⟨⟨p0, p1, p2, p3, p4, p5, p6, p7, p8, p9, p10⟩, _⟩ := HP5.out.all
  rw [hW5] at p0 p1 p2 p3 p4 p5 p6 p7 p8 p9 p10
  have z0 := (HRS5.out 0 _ rfl); have z1 := (HRS5.out 1 _ rfl); have z2 := (HRS5.out 2 _ rfl); have z3 := (HRS5.out 3 _ rfl); have z4 := (HRS5.out 4 _ rfl); have z5 := (HRS5.out 5 _ rfl)
  have z6 := (HRS5.out 6 _ rfl); have z7 := (HRS5.out 7 _ rfl); have z8 := (HRS5.out 8 _ rfl); have z9 := (HRS5.out 9 _ rfl); have z10 := (HRS5.out 10 _ rfl)
  rw [hW5] at z0 z1 z2 z3 z4 z5 z6 z7 z8 z9 z10
  obtain ⟨z0, y0⟩ := z0; obtain ⟨z1, y1⟩ := z1; obtain ⟨z2, y2⟩ := z2; obtain ⟨z3, y3⟩ := z3; obtain ⟨z4, y4⟩ := z4; obtain ⟨z5, y5⟩ := z5
  obtain ⟨z6, y6⟩ := z6; obtain ⟨z7, y7⟩ := z7; obtain ⟨z8, y8⟩ := z8; obtain ⟨z9, y9⟩ := z9; obtain ⟨z10, y10⟩ := z10
  clear hown hgrow hne hrd
  go_wp2_with fail
  clear p0 p1 p2 p3 p4 p5 p6 p7 p8 p9 p10
  obtain ⟨⟨p0, p1, p2, p3, p4, p5, p6, p7, p8, p9, p10⟩, _⟩ := HP6.all
  rw [← hW5, ← hW6]
  refine bodyPost_ret (v := .agg #[.int .i64 D, .int .i64 F, .int .i64 T, .int .i64 G1, .int .i64 M1, .int .i64 B1, .slice a3 n1 q3, .int .i64 G2, .int .i64 M2, .int .i64 B2, .slice a4 0 q4]) (by simp [results, Try.results14, go_sem, p0, p1, p2, p3, p4, p5, p6, p7, p8, p9, p10]) rfl (HQ.out a3 a4 q3 q4 W6 ?_ ?_ ?_ (fun y hy => by have := HB3.out y hy; omega) (fun y hy => by have := HB4.out y hy; omega))
  · have h4 := (HX1.out.then HGR4.out (T := fun q => q = w2.heap.size) (fun q hq e => by have e' : q = w2.heap.size := e; omega)).trans HST4.out
    rw [← hW5] at h4
    exact (HRD2.out.only h4 (fun y hy e => by have := HB3.out y hy; have e' : y.block = w.heap.size := e; omega)).only HO6 (fun y hy e => by have := HB3.out y hy; have e' : y.block = w.heap.size + 1 := e; omega)
  · have h4 := HST4.out
    rw [← hW5] at h4
    exact (HRD4.out.only h4 (fun y hy e => by have := HB4.out y hy; have e' : y.block = w.heap.size := e; omega)).only HO6 (fun y hy e => by have := HB4.out y hy; have e' : y.block = w.heap.size + 1 := e; omega)
  · have h4 := HST4.out
    rw [← hW5] at h4
    exact (HO4.out.then h4 (fun q hq e => by have e' : q = w.heap.size := e; omega)).then HO6 (fun q hq e => by have e' : q = w.heap.size + 1 := e; omega)
set_option maxRecDepth 100000 in
set_option maxHeartbeats 1000000 in
theorem gtame_lm (D F T G1 M1 B1 G2 M2 B2 : Int) (x1 : Addr) (n1 c1 : Nat) (x2 : Addr) (n2 c2 : Nat) (t1 t2 : List Tr) (w : World) (Q : Ending → World → Prop) (h1 : (n1 : Int) ≤ 9) (k1 : (0 : Int) ≤ n1) (j1 : (n1 : Int) ≤ c1) (h2 : (9 : Int) < n2) (k2 : (0 : Int) ≤ n2) (j2 : (9 : Int) ≤ c2) (i2 : (n2 : Int) ≤ c2) (hr1 : ReadsT w (some x1) n1 t1) (hr2 : ReadsT w (some x2) 9 t2)
    (hQ : ∀ a3 a4 q3 q4 w', ReadsT w' a3 n1 t1 → ReadsT w' a4 9 t2 → Only (fun _ => False) w w' → (∀ y, a3 = some y → w.heap.size ≤ y.block) → (∀ y, a4 = some y → w.heap.size ≤ y.block) → Q (.returned (.agg #[.int .i64 D, .int .i64 F, .int .i64 T, .int .i64 G1, .int .i64 M1, .int .i64 B1, .slice a3 n1 q3, .int .i64 G2, .int .i64 M2, .int .i64 B2, .slice a4 9 q4])) w') :
    Calls Try.prog 14 #[.agg #[.int .i64 D, .int .i64 F, .int .i64 T, .int .i64 G1, .int .i64 M1, .int .i64 B1, .slice (some x1) n1 c1, .int .i64 G2, .int .i64 M2, .int .i64 B2, .slice (some x2) n2 c2]] w Q := by
  go_enter Try.func14, Try.ntmps14
  obtain ⟨W0, hW0⟩ : ∃ W0, W0 = ((w.alloc (.cells #[.int .i64 D, .int .i64 F, .int .i64 T, .int .i64 G1, .int .i64 M1, .int .i64 B1, .slice (some x1) n1 c1, .int .i64 G2, .int .i64 M2, .int .i64 B2, .slice (some x2) n2 c2] 37)).alloc (.cells #[.int .i64 0, .int .i64 0, .int .i64 0, .int .i64 0, .int .i64 0, .int .i64 0, .slice none 0 0, .int .i64 0, .int .i64 0, .int .i64 0, .slice none 0 0] 37)).alloc (.cells #[] 91) := ⟨_, rfl⟩
  have HP : Hid (BoxV W0 w.heap.size (plV D F T G1 M1 B1 G2 M2 B2 (some x1) (some x2) n1 n2 c1 c2)) := Lib.hid (by rw [hW0]; exact (BoxV.new w (plV D F T G1 M1 B1 G2 M2 B2 (some x1) (some x2) n1 n2 c1 c2) _ _ rfl).only (((Only.refl (fun _ => False) _).alloc _).alloc _) (fun f => f))
  have HRS : Hid (BoxV W0 (w.heap.size + 1) zerosP ∧ W0.heap.size = w.heap.size + 3) := Lib.hid (by rw [hW0]; exact ⟨(BoxV.new (w.alloc _) zerosP _ _ (by simp)).only ((Only.refl (fun _ => False) _).alloc _) (fun f => f), by simp⟩)
  have HO0 : Hid (Only (fun _ => False) w W0) := Lib.hid (by rw [hW0]; exact (((Only.refl _ w).alloc _).alloc _).alloc _)
  have HOW : Hid (OwnT W0 (.slice (some ⟨w.heap.size + 1 + 1, 0, none⟩) 0 0) []) := Lib.hid (by
    rw [hW0]
    have := World.ownsRow_lit (base := 0) (e := 91) (size := 2) ((w.alloc (.cells #[.int .i64 D, .int .i64 F, .int .i64 T, .int .i64 G1, .int .i64 M1, .int .i64 B1, .slice (some x1) n1 c1, .int .i64 G2, .int .i64 M2, .int .i64 B2, .slice (some x2) n2 c2] 37)).alloc (.cells #[.int .i64 0, .int .i64 0, .int .i64 0, .int .i64 0, .int .i64 0, .int .i64 0, .slice none 0 0, .int .i64 0, .int .i64 0, .int .i64 0, .slice none 0 0] 37)) #[] 0 (by simp) (by decide) rfl
    rw [show ((w.alloc (.cells #[.int .i64 D, .int .i64 F, .int .i64 T, .int .i64 G1, .int .i64 M1, .int .i64 B1, .slice (some x1) n1 c1, .int .i64 G2, .int .i64 M2, .int .i64 B2, .slice (some x2) n2 c2] 37)).alloc (.cells #[.int .i64 0, .int .i64 0, .int .i64 0, .int .i64 0, .int .i64 0, .int .i64 0, .slice none 0 0, .int .i64 0, .int .i64 0, .int .i64 0, .slice none 0 0] 37)).heap.size = w.heap.size + 1 + 1 by simp] at this
    exact this)
  have HR1 := Lib.hid (hr1.only HO0.out (fun _ _ f => f))
  have HR2 := Lib.hid (hr2.only HO0.out (fun _ _ f => f))
  have HRW2 := Lib.hid hr2
  have HQ := Lib.hid hQ
  clear hr1 hr2 hQ
  obtain ⟨⟨p0, p1, p2, p3, p4, p5, p6, p7, p8, p9, p10⟩, _⟩ := HP.out.all
  rw [hW0] at p0 p1 p2 p3 p4 p5 p6 p7 p8 p9 p10
  go_wp2_with (at_builtin; rw [← hW0]; refine append_tiers rfl _ _ rfl _ [] rfl HOW.out _ _ _ t1 rfl HR1.out (by show 0 + n1 ≤ _; omega) ?_)
  clear p0 p1 p2 p3 p4 p5 p6 p7 p8 p9 p10
  have HW0 := Lib.hid hW0
  clear hW0
  intro v2 w2 hown hgrow hne
  obtain ⟨a3, q3, rfl, hrd⟩ := own_readsT3 hown (by simpa using HR1.out.2.2.1) (by have := HR1.out.1; simp; omega)
  have hl3 : t1.length = n1 := HR1.out.1
  rw [hl3] at hrd hown ⊢
  rw [← HW0.out] at hgrow
  have HB3 : Hid (∀ y, a3 = some y → w.heap.size + 2 ≤ y.block) := Lib.hid (by
    intro y hy
    rcases hne y.block (by rw [hy]; rfl) with e | e
    · have : w.heap.size + 1 + 1 = y.block := by simpa [Value.ownBlock] using e
      omega
    · have := HRS.out.2
      first
      | omega
      | (rw [← HW0.out] at e; omega)
      | (simp at e; omega))
  have HRD2 := Lib.hid hrd
  have HGR : Hid (Only (fun q => q = w.heap.size + 1 + 1) W0 w2) := Lib.hid ((Only.of_grown hgrow).mono (fun q _ hq => by
    have : w.heap.size + 1 + 1 = q := by simpa [Value.ownBlock] using hq
    omega))
  have hn1 : ¬ (w.heap.size = w.heap.size + 1 + 1) := by omega
  have HP2 : Hid (BoxV w2 w.heap.size (plV D F T G1 M1 B1 G2 M2 B2 (some x1) (some x2) n1 n2 c1 c2)) := Lib.hid (HP.out.only HGR.out hn1)
  have HRS2 : Hid (BoxV w2 (w.heap.size + 1) zerosP) := Lib.hid (HRS.out.1.only HGR.out (fun e => by have e' : w.heap.size + 1 = w.heap.size + 1 + 1 := e; omega))
  have HO2 : Hid (Only (fun _ => False) w w2) := Lib.hid (HO0.out.then HGR.out (fun q hq e => by have e' : q = w.heap.size + 1 + 1 := e; omega))
  have HST : Hid (Only (fun q => q = w.heap.size) w2 (w2.setCell ⟨w.heap.size, 6, none⟩ (.slice a3 n1 q3))) := Lib.hid (Only.set (fun q => q = w.heap.size) w2 w.heap.size 6 _ rfl)
  obtain ⟨W1, hW1⟩ : ∃ W1, W1 = (w2.setCell ⟨w.heap.size, 6, none⟩ (.slice a3 n1 q3)).alloc (.cells #[] 91) := ⟨_, rfl⟩
  have HP3 : Hid (BoxV W1 w.heap.size (plV D F T G1 M1 B1 G2 M2 B2 a3 (some x2) n1 n2 q3 c2)) := Lib.hid (by rw [hW1]; exact (plan_set6 HP2.out a3 n1 q3).only ((Only.refl (fun _ => False) _).alloc _) (fun f => f))
  have HRS3 : Hid (BoxV W1 (w.heap.size + 1) zerosP) := Lib.hid (by rw [hW1]; exact (HRS2.out.only HST.out (fun e => by have e' : w.heap.size + 1 = w.heap.size := e; omega)).only ((Only.refl (fun _ => False) _).alloc _) (fun f => f))
  have HO3 : Hid (Only (fun _ => False) w W1) := Lib.hid (by rw [hW1]; exact (HO2.out.then HST.out (fun q hq e => by have e' : q = w.heap.size := e; omega)).alloc _)
  have HR23 : Hid (ReadsT W1 (some x2) 9 t2) := Lib.hid (HRW2.out.only HO3.out (fun _ _ f => f))
  have HX1 : Hid (Only (fun q => q = w.heap.size) w2 W1) := Lib.hid (by rw [hW1]; exact HST.out.alloc _)
  have HOW3 : Hid (OwnT W1 (.slice (some ⟨w2.heap.size, 0, none⟩) 0 0) []) := Lib.hid (by
    rw [hW1]
    have := World.ownsRow_lit (base := 0) (e := 91) (size := 2) (w2.setCell ⟨w.heap.size, 6, none⟩ (.slice a3 n1 q3)) #[] 0 (by simp) (by decide) rfl
    rw [show (w2.setCell ⟨w.heap.size, 6, none⟩ (.slice a3 n1 q3)).heap.size = w2.heap.size by simp] at this
    exact this)
  obtain ⟨⟨u0, u1, u2, u3, u4, u5, u6, u7, u8, u9, u10⟩, f0, f1, f2, f3, f4, f5, f6, f7, f8, f9, f10⟩ := HP2.out.all
  obtain ⟨⟨p0, p1, p2, p3, p4, p5, p6, p7, p8, p9, p10⟩, _⟩ := HP3.out.all
  rw [hW1] at p0 p1 p2 p3 p4 p5 p6 p7 p8 p9 p10
  clear hown hgrow hne hrd
  go_wp2_with (at_builtin; rw [← hW1]; refine append_tiers rfl _ _ rfl _ [] rfl HOW3.out _ _ _ t2 rfl HR23.out (by show 0 + 9 ≤ _; omega) ?_)
  intro v4 w4 hown hgrow hne
  rw [← hW1] at hgrow
  have HW1 := Lib.hid hW1
  clear p0 p1 p2 p3 p4 p5 p6 p7 p8 p9 p10 u0 u1 u2 u3 u4 u5 u6 u7 u8 u9 u10 f0 f1 f2 f3 f4 f5 f6 f7 f8 f9 f10 hW1
  have hsz2 : w.heap.size + 3 ≤ w2.heap.size := by have := HGR.out.size; have := HRS.out.2; omega
  obtain ⟨a4, q4, rfl, hrd⟩ := own_readsT3 hown (by simpa using HR2.out.2.2.1) (by have := HR2.out.1; simp; omega)
  have hl4 : t2.length = 9 := HR2.out.1
  rw [hl4] at hrd hown ⊢
  have HB4 : Hid (∀ y, a4 = some y → w.heap.size + 2 ≤ y.block) := Lib.hid (by
    intro y hy
    rcases hne y.block (by rw [hy]; rfl) with e | e
    · have : w2.heap.size = y.block := by simpa [Value.ownBlock] using e
      omega
    · have := HX1.out.size
      first
      | omega
      | (rw [← HW1.out] at e; omega)
      | (simp at e; omega))
  have HRD4 := Lib.hid hrd
  have HGR4 : Hid (Only (fun q => q = w2.heap.size) W1 w4) := Lib.hid ((Only.of_grown hgrow).mono (fun q _ hq => by
    have : w2.heap.size = q := by simpa [Value.ownBlock] using hq
    omega))
  have HP4 : Hid (BoxV w4 w.heap.size (plV D F T G1 M1 B1 G2 M2 B2 a3 (some x2) n1 n2 q3 c2)) := Lib.hid (HP3.out.only HGR4.out (fun e => by have e' : w.heap.size = w2.heap.size := e; omega))
  have HRS4 : Hid (BoxV w4 (w.heap.size + 1) zerosP) := Lib.hid (HRS3.out.only HGR4.out (fun e => by have e' : w.heap.size + 1 = w2.heap.size := e; omega))
  have HO4 : Hid (Only (fun _ => False) w w4) := Lib.hid (HO3.out.then HGR4.out (fun q hq e => by have e' : q = w2.heap.size := e; omega))
  have HST4 : Hid (Only (fun q => q = w.heap.size) w4 (w4.setCell ⟨w.heap.size, 10, none⟩ (.slice a4 9 q4))) := Lib.hid (Only.set (fun q => q = w.heap.size) w4 w.heap.size 10 _ rfl)
  obtain ⟨W5, hW5⟩ : ∃ W5, W5 = w4.setCell ⟨w.heap.size, 10, none⟩ (.slice a4 9 q4) := ⟨_, rfl⟩
  have HP5 : Hid (BoxV W5 w.heap.size (plV D F T G1 M1 B1 G2 M2 B2 a3 a4 n1 9 q3 q4)) := Lib.hid (by rw [hW5]; exact plan_set10 HP4.out a4 9 q4)
  have HRS5 : Hid (BoxV W5 (w.heap.size + 1) zerosP) := Lib.hid (by rw [hW5]; exact HRS4.out.only HST4.out (fun e => by have e' : w.heap.size + 1 = w.heap.size := e; omega))
  obtain ⟨W6, HP6, HO6, hW6⟩ := plan_put HRS5.out rfl D F T G1 M1 B1 G2 M2 B2 a3 a4 n1 9 q3 q4
  obtain ⟨⟨u0, u1, u2, u3, u4, u5, u6, u7, u8, u9, u10⟩, f0, f1, f2, f3, f4, f5, f6, f7, f8, f9, f10⟩ := HP4.out.all
  obtain ⟨⟨p0, p1, p2, p3, p4, p5, p6, p7, p8, p9, p10⟩, _⟩ := HP5.out.all
  rw [hW5] at p0 p1 p2 p3 p4 p5 p6 p7 p8 p9 p10
  have z0 := (HRS5.out 0 _ rfl); have z1 := (HRS5.out 1 _ rfl); have z2 := (HRS5.out 2 _ rfl); have z3 := (HRS5.out 3 _ rfl); have z4 := (HRS5.out 4 _ rfl); have z5 := (HRS5.out 5 _ rfl)
  have z6 := (HRS5.out 6 _ rfl); have z7 := (HRS5.out 7 _ rfl); have z8 := (HRS5.out 8 _ rfl); have z9 := (HRS5.out 9 _ rfl); have z10 := (HRS5.out 10 _ rfl)
  rw [hW5] at z0 z1 z2 z3 z4 z5 z6 z7 z8 z9 z10
  obtain ⟨z0, y0⟩ := z0; obtain ⟨z1, y1⟩ := z1; obtain ⟨z2, y2⟩ := z2; obtain ⟨z3, y3⟩ := z3; obtain ⟨z4, y4⟩ := z4; obtain ⟨z5, y5⟩ := z5
  obtain ⟨z6, y6⟩ := z6; obtain ⟨z7, y7⟩ := z7; obtain ⟨z8, y8⟩ := z8; obtain ⟨z9, y9⟩ := z9; obtain ⟨z10, y10⟩ := z10
  clear hown hgrow hne hrd
  go_wp2_with fail
  clear p0 p1 p2 p3 p4 p5 p6 p7 p8 p9 p10
  obtain ⟨⟨p0, p1, p2, p3, p4, p5, p6, p7, p8, p9, p10⟩, _⟩ := HP6.all
  rw [← hW5, ← hW6]
  refine bodyPost_ret (v := .agg #[.int .i64 D, .int .i64 F, .int .i64 T, .int .i64 G1, .int .i64 M1, .int .i64 B1, .slice a3 n1 q3, .int .i64 G2, .int .i64 M2, .int .i64 B2, .slice a4 9 q4]) (by simp [results, Try.results14, go_sem, p0, p1, p2, p3, p4, p5, p6, p7, p8, p9, p10]) rfl (HQ.out a3 a4 q3 q4 W6 ?_ ?_ ?_ (fun y hy => by have := HB3.out y hy; omega) (fun y hy => by have := HB4.out y hy; omega))
  · have h4 := (HX1.out.then HGR4.out (T := fun q => q = w2.heap.size) (fun q hq e => by have e' : q = w2.heap.size := e; omega)).trans HST4.out
    rw [← hW5] at h4
    exact (HRD2.out.only h4 (fun y hy e => by have := HB3.out y hy; have e' : y.block = w.heap.size := e; omega)).only HO6 (fun y hy e => by have := HB3.out y hy; have e' : y.block = w.heap.size + 1 := e; omega)
  · have h4 := HST4.out
    rw [← hW5] at h4
    exact (HRD4.out.only h4 (fun y hy e => by have := HB4.out y hy; have e' : y.block = w.heap.size := e; omega)).only HO6 (fun y hy e => by have := HB4.out y hy; have e' : y.block = w.heap.size + 1 := e; omega)
  · have h4 := HST4.out
    rw [← hW5] at h4
    exact (HO4.out.then h4 (fun q hq e => by have e' : q = w.heap.size := e; omega)).then HO6 (fun q hq e => by have e' : q = w.heap.size + 1 := e; omega)
end Go.Proofs.Ytghajamcjcflaaa.tirw

namespace Go.Proofs.Ytghajamcjcflaaa.tirw
open Go.RowKit mem tirm intm bigm bigw
set_option linter.unusedVariables false
set_option maxRecDepth 100000 in
set_option maxHeartbeats 1000000 in
theorem gtame_nl (D F T G1 M1 B1 G2 M2 B2 : Int) (x2 : Addr) (n2 c2 : Nat) (t1 t2 : List Tr) (w : World) (Q : Ending → World → Prop) (h1 : min (0 : Int) 9 = 0) (h2 : (n2 : Int) ≤ 9) (k2 : (0 : Int) ≤ n2) (j2 : (n2 : Int) ≤ c2) (hr1 : ReadsT w none 0 t1) (hr2 : ReadsT w (some x2) n2 t2)
    (hQ : ∀ a3 a4 q3 q4 w', ReadsT w' a3 0 t1 → ReadsT w' a4 n2 t2 → Only (fun _ => False) w w' → (∀ y, a3 = some y → w.heap.size ≤ y.block) → (∀ y, a4 = some y → w.heap.size ≤ y.block) → Q (.returned (.agg #[.int .i64 D, .int .i64 F, .int .i64 T, .int .i64 G1, .int .i64 M1, .int .i64 B1, .slice a3 0 q3, .int .i64 G2, .int .i64 M2, .int .i64 B2, .slice a4 n2 q4])) w') :
    Calls Try.prog 14 #[.agg #[.int .i64 D, .int .i64 F, .int .i64 T, .int .i64 G1, .int .i64 M1, .int .i64 B1, .slice none 0 0, .int .i64 G2, .int .i64 M2, .int .i64 B2, .slice (some x2) n2 c2]] w Q := by
  go_enter Try.func14, Try.ntmps14
  obtain ⟨W0, hW0⟩ : ∃ W0, W0 = ((w.alloc (.cells #[.int .i64 D, .int .i64 F, .int .i64 T, .int .i64 G1, .int .i64 M1, .int .i64 B1, .slice none 0 0, .int .i64 G2, .int .i64 M2, .int .i64 B2, .slice (some x2) n2 c2] 37)).alloc (.cells #[.int .i64 0, .int .i64 0, .int .i64 0, .int .i64 0, .int .i64 0, .int .i64 0, .slice none 0 0, .int .i64 0, .int .i64 0, .int .i64 0, .slice none 0 0] 37)).alloc (.cells #[] 91) := ⟨_, rfl⟩
  have HP : Hid (BoxV W0 w.heap.size (plV D F T G1 M1 B1 G2 M2 B2 none (some x2) 0 n2 0 c2)) := Lib.hid (by rw [hW0]; exact (BoxV.new w (plV D F T G1 M1 B1 G2 M2 B2 none (some x2) 0 n2 0 c2) _ _ rfl).only (((Only.refl (fun _ => False) _).alloc _).alloc _) (fun f => f))
  have HRS : Hid (BoxV W0 (w.heap.size + 1) zerosP ∧ W0.heap.size = w.heap.size + 3) := Lib.hid (by rw [hW0]; exact ⟨(BoxV.new (w.alloc _) zerosP _ _ (by simp)).only ((Only.refl (fun _ => False) _).alloc _) (fun f => f), by simp⟩)
  have HO0 : Hid (Only (fun _ => False) w W0) := Lib.hid (by rw [hW0]; exact (((Only.refl _ w).alloc _).alloc _).alloc _)
  have HOW : Hid (OwnT W0 (.slice (some ⟨w.heap.size + 1 + 1, 0, none⟩) 0 0) []) := Lib.hid (by
    rw [hW0]
    have := World.ownsRow_lit (base := 0) (e := 91) (size := 2) ((w.alloc (.cells #[.int .i64 D, .int .i64 F, .int .i64 T, .int .i64 G1, .int .i64 M1, .int .i64 B1, .slice none 0 0, .int .i64 G2, .int .i64 M2, .int .i64 B2, .slice (some x2) n2 c2] 37)).alloc (.cells #[.int .i64 0, .int .i64 0, .int .i64 0, .int .i64 0, .int .i64 0, .int .i64 0, .slice none 0 0, .int .i64 0, .int .i64 0, .int .i64 0, .slice none 0 0] 37)) #[] 0 (by simp) (by decide) rfl
    rw [show ((w.alloc (.cells #[.int .i64 D, .int .i64 F, .int .i64 T, .int .i64 G1, .int .i64 M1, .int .i64 B1, .slice none 0 0, .int .i64 G2, .int .i64 M2, .int .i64 B2, .slice (some x2) n2 c2] 37)).alloc (.cells #[.int .i64 0, .int .i64 0, .int .i64 0, .int .i64 0, .int .i64 0, .int .i64 0, .slice none 0 0, .int .i64 0, .int .i64 0, .int .i64 0, .slice none 0 0] 37)).heap.size = w.heap.size + 1 + 1 by simp] at this
    exact this)
  have HR1 := Lib.hid (hr1.only HO0.out (fun _ _ f => f))
  have HR2 := Lib.hid (hr2.only HO0.out (fun _ _ f => f))
  have HRW2 := Lib.hid hr2
  have HQ := Lib.hid hQ
  clear hr1 hr2 hQ
  obtain ⟨⟨p0, p1, p2, p3, p4, p5, p6, p7, p8, p9, p10⟩, _⟩ := HP.out.all
  rw [hW0] at p0 p1 p2 p3 p4 p5 p6 p7 p8 p9 p10
  go_wp2_with (at_builtin; rw [← hW0]; refine append_tiers rfl _ _ rfl _ [] rfl HOW.out _ _ _ t1 rfl HR1.out (by show 0 + 0 ≤ _; omega) ?_)
  clear p0 p1 p2 p3 p4 p5 p6 p7 p8 p9 p10
  have HW0 := Lib.hid hW0
  clear hW0
  intro v2 w2 hown hgrow hne
  obtain ⟨a3, q3, rfl, hrd⟩ := own_readsT3 hown (by simpa using HR1.out.2.2.1) (by have := HR1.out.1; simp; omega)
  have hl3 : t1.length = 0 := HR1.out.1
  rw [hl3] at hrd hown ⊢
  rw [← HW0.out] at hgrow
  have HB3 : Hid (∀ y, a3 = some y → w.heap.size + 2 ≤ y.block) := Lib.hid (by
    intro y hy
    rcases hne y.block (by rw [hy]; rfl) with e | e
    · have : w.heap.size + 1 + 1 = y.block := by simpa [Value.ownBlock] using e
      omega
    · have := HRS.out.2
      first
      | omega
      | (rw [← HW0.out] at e; omega)
      | (simp at e; omega))
  have HRD2 := Lib.hid hrd
  have HGR : Hid (Only (fun q => q = w.heap.size + 1 + 1) W0 w2) := Lib.hid ((Only.of_grown hgrow).mono (fun q _ hq => by
    have : w.heap.size + 1 + 1 = q := by simpa [Value.ownBlock] using hq
    omega))
  have hn1 : ¬ (w.heap.size = w.heap.size + 1 + 1) := by omega
  have HP2 : Hid (BoxV w2 w.heap.size (plV D F T G1 M1 B1 G2 M2 B2 none (some x2) 0 n2 0 c2)) := Lib.hid (HP.out.only HGR.out hn1)
  have HRS2 : Hid (BoxV w2 (w.heap.size + 1) zerosP) := Lib.hid (HRS.out.1.only HGR.out (fun e => by have e' : w.heap.size + 1 = w.heap.size + 1 + 1 := e; omega))
  have HO2 : Hid (Only (fun _ => False) w w2) := Lib.hid (HO0.out.then HGR.out (fun q hq e => by have e' : q = w.heap.size + 1 + 1 := e; omega))
  have HST : Hid (Only (fun q => q = w.heap.size) w2 (w2.setCell ⟨w.heap.size, 6, none⟩ (.slice a3 0 q3))) := Lib.hid (Only.set (fun q => q = w.heap.size) w2 w.heap.size 6 _ rfl)
  obtain ⟨W1, hW1⟩ : ∃ W1, W1 = (w2.setCell ⟨w.heap.size, 6, none⟩ (.slice a3 0 q3)).alloc (.cells #[] 91) := ⟨_, rfl⟩
  have HP3 : Hid (BoxV W1 w.heap.size (plV D F T G1 M1 B1 G2 M2 B2 a3 (some x2) 0 n2 q3 c2)) := Lib.hid (by rw [hW1]; exact (plan_set6 HP2.out a3 0 q3).only ((Only.refl (fun _ => False) _).alloc _) (fun f => f))
  have HRS3 : Hid (BoxV W1 (w.heap.size + 1) zerosP) := Lib.hid (by rw [hW1]; exact (HRS2.out.only HST.out (fun e => by have e' : w.heap.size + 1 = w.heap.size := e; omega)).only ((Only.refl (fun _ => False) _).alloc _) (fun f => f))
  have HO3 : Hid (Only (fun _ => False) w W1) := Lib.hid (by rw [hW1]; exact (HO2.out.then HST.out (fun q hq e => by have e' : q = w.heap.size := e; omega)).alloc _)
  have HR23 : Hid (ReadsT W1 (some x2) n2 t2) := Lib.hid (HRW2.out.only HO3.out (fun _ _ f => f))
  have HX1 : Hid (Only (fun q => q = w.heap.size) w2 W1) := Lib.hid (by rw [hW1]; exact HST.out.alloc _)
  have HOW3 : Hid (OwnT W1 (.slice (some ⟨w2.heap.size, 0, none⟩) 0 0) []) := Lib.hid (by
    rw [hW1]
    have := World.ownsRow_lit (base := 0) (e := 91) (size := 2) (w2.setCell ⟨w.heap.size, 6, none⟩ (.slice a3 0 q3)) #[] 0 (by simp) (by decide) rfl
    rw [show (w2.setCell ⟨w.heap.size, 6, none⟩ (.slice a3 0 q3)).heap.size = w2.heap.size by simp] at this
    exact this)
  obtain ⟨⟨u0, u1, u2, u3, u4, u5, u6, u7, u8, u9, u10⟩, f0, f1, f2, f3, f4, f5, f6, f7, f8, f9, f10⟩ := HP2.out.all
  obtain ⟨⟨p0, p1, p2, p3, p4, p5, p6, p7, p8, p9, p10⟩, _⟩ := HP3.out.all
  rw [hW1] at p0 p1 p2 p3 p4 p5 p6 p7 p8 p9 p10
  clear hown hgrow hne hrd
  go_wp2_with (at_builtin; rw [← hW1]; refine append_tiers rfl _ _ rfl _ [] rfl HOW3.out _ _ _ t2 rfl HR23.out (by show 0 + n2 ≤ _; omega) ?_)
  intro v4 w4 hown hgrow hne
  rw [← hW1] at hgrow
  have HW1 := Lib.hid hW1
  clear p0 p1 p2 p3 p4 p5 p6 p7 p8 p9 p10 u0 u1 u2 u3 u4 u5 u6 u7 u8 u9 u10 f0 f1 f2 f3 f4 f5 f6 f7 f8 f9 f10 hW1
  have hsz2 : w.heap.size + 3 ≤ w2.heap.size := by have := HGR.out.size; have := HRS.out.2; omega
  obtain ⟨a4, q4, rfl, hrd⟩ := own_readsT3 hown (by simpa using HR2.out.2.2.1) (by have := HR2.out.1; simp; omega)
  have hl4 : t2.length = n2 := HR2.out.1
  rw [hl4] at hrd hown ⊢
  have HB4 : Hid (∀ y, a4 = some y → w.heap.size + 2 ≤ y.block) := Lib.hid (by
    intro y hy
    rcases hne y.block (by rw [hy]; rfl) with e | e
    · have : w2.heap.size = y.block := by simpa [Value.ownBlock] using e
      omega
    · have := HX1.out.size
      first
      | omega
      | (rw [← HW1.out] at e; omega)
      | (simp at e; omega))
  have HRD4 := Lib.hid hrd
  have HGR4 : Hid (Only (fun q => q = w2.heap.size) W1 w4) := Lib.hid ((Only.of_grown hgrow).mono (fun q _ hq => by
    have : w2.heap.size = q := by simpa [Value.ownBlock] using hq
    omega))
  have HP4 : Hid (BoxV w4 w.heap.size (plV D F T G1 M1 B1 G2 M2 B2 a3 (some x2) 0 n2 q3 c2)) := Lib.hid (HP3.out.only HGR4.out (fun e => by have e' : w.heap.size = w2.heap.size := e; omega))
  have HRS4 : Hid (BoxV w4 (w.heap.size + 1) zerosP) := Lib.hid (HRS3.out.only HGR4.out (fun e => by have e' : w.heap.size + 1 = w2.heap.size := e; omega))
  have HO4 : Hid (Only (fun _ => False) w w4) := Lib.hid (HO3.out.then HGR4.out (fun q hq e => by have e' : q = w2.heap.size := e; omega))
  have HST4 : Hid (Only (fun q => q = w.heap.size) w4 (w4.setCell ⟨w.heap.size, 10, none⟩ (.slice a4 n2 q4))) := Lib.hid (Only.set (fun q => q = w.heap.size) w4 w.heap.size 10 _ rfl)
  obtain ⟨W5, hW5⟩ : ∃ W5, W5 = w4.setCell ⟨w.heap.size, 10, none⟩ (.slice a4 n2 q4) := ⟨_, rfl⟩
  have HP5 : Hid (BoxV W5 w.heap.size (plV D F T G1 M1 B1 G2 M2 B2 a3 a4 0 n2 q3 q4)) := Lib.hid (by rw [hW5]; exact plan_set10 HP4.out a4 n2 q4)
  have HRS5 : Hid (BoxV W5 (w.heap.size + 1) zerosP) := Lib.hid (by rw [hW5]; exact HRS4.out.only HST4.out (fun e => by have e' : w.heap.size + 1 = w.heap.size := e; omega))
  obtain ⟨W6, HP6, HO6, hW6⟩ := plan_put HRS5.out rfl D F T G1 M1 B1 G2 M2 B2 a3 a4 0 n2 q3 q4
  obtain ⟨⟨u0, u1, u2, u3, u4, u5, u6, u7, u8, u9, u10⟩, f0, f1, f2, f3, f4, f5, f6, f7, f8, f9, f10⟩ := HP4.out.all
  obtain ⟨⟨p0, p1, p2, p3, p4, p5, p6, p7, p8, p9, p10⟩, _⟩ := HP5.out.all
  rw [hW5] at p0 p1 p2 p3 p4 p5 p6 p7 p8 p9 p10
  have z0 := (HRS5.out 0 _ rfl); have z1 := (HRS5.out 1 _ rfl); have z2 := (HRS5.out 2 _ rfl); have z3 := (HRS5.out 3 _ rfl); have z4 := (HRS5.out 4 _ rfl); have z5 := (HRS5.out 5 _ rfl)
  have z6 := (HRS5.out 6 _ rfl); have z7 := (HRS5.out 7 _ rfl); have z8 := (HRS5.out 8 _ rfl); have z9 := (HRS5.out 9 _ rfl); have z10 := (HRS5.out 10 _ rfl)
  rw [hW5] at z0 z1 z2 z3 z4 z5 z6 z7 z8 z9 z10
  obtain ⟨z0, y0⟩ := z0; obtain ⟨z1, y1⟩ := z1; obtain ⟨z2, y2⟩ := z2; obtain ⟨z3, y3⟩ := z3; obtain ⟨z4, y4⟩ := z4; obtain ⟨z5, y5⟩ := z5
  obtain ⟨z6, y6⟩ := z6; obtain ⟨z7, y7⟩ := z7; obtain ⟨z8, y8⟩ := z8; obtain ⟨z9, y9⟩ := z9; obtain ⟨z10, y10⟩ := z10
  clear hown hgrow hne hrd
  go_wp2_with fail
  clear p0 p1 p2 p3 p4 p5 p6 p7 p8 p9 p10
  obtain ⟨⟨p0, p1, p2, p3, p4, p5, p6, p7, p8, p9, p10⟩, _⟩ := HP6.all
  rw [← hW5, ← hW6]
  refine bodyPost_ret (v := .agg #[.int .i64 D, .int .i64 F, .int .i64 T, .int .i64 G1, .int .i64 M1, .int .i64 B1, .slice a3 0 q3, .int .i64 G2, .int .i64 M2, .int .i64 B2, .slice a4 n2 q4]) (by simp [results, Try.results14, go_sem, p0, p1, p2, p3, p4, p5, p6, p7, p8, p9, p10]) rfl (HQ.out a3 a4 q3 q4 W6 ?_ ?_ ?_ (fun y hy => by have := HB3.out y hy; omega) (fun y hy => by have := HB4.out y hy; omega))
  · have h4 := (HX1.out.then HGR4.out (T := fun q => q = w2.heap.size) (fun q hq e => by have e' : q = w2.heap.size := e; omega)).trans HST4.out
    rw [← hW5] at h4
    exact (HRD2.out.only h4 (fun y hy e => by have := HB3.out y hy; have e' : y.block = w.heap.size := e; omega)).only HO6 (fun y hy e => by have := HB3.out y hy; have e' : y.block = w.heap.size + 1 := e; omega)
  · have h4 := HST4.out
    rw [← hW5] at h4
    exact (HRD4.out.only h4 (fun y hy e => by have := HB4.out y hy; have e' : y.block = w.heap.size := e; omega)).only HO6 (fun y hy e => by have := HB4.out y hy; have e' : y.block = w.heap.size + 1 := e; omega)
  · have h4 := HST4.out
    rw [← hW5] at h4
    exact (HO4.out.then h4 (fun q hq e => by have e' : q = w.heap.size := e; omega)).then HO6 (fun q hq e => by have e' : q = w.heap.size + 1 := e; omega)
set_option maxRecDepth 100000 in
set_option maxHeartbeats 1000000 in
theorem gtame_nn (D F T G1 M1 B1 G2 M2 B2 : Int) (t1 t2 : List Tr) (w : World) (Q : Ending → World → Prop) (h1 : min (0 : Int) 9 = 0) (h2 : min (0 : Int) 9 = 0) (hr1 : ReadsT w none 0 t1) (hr2 : ReadsT w none 0 t2)
    (hQ : ∀ a3 a4 q3 q4 w', ReadsT w' a3 0 t1 → ReadsT w' a4 0 t2 → Only (fun _ => False) w w' → (∀ y, a3 = some y → w.heap.size ≤ y.block) → (∀ y, a4 = some y → w.heap.size ≤ y.block) → Q (.returned (.agg #[.int .i64 D, .int .i64 F, .int .i64 T, .int .i64 G1, .int .i64 M1, .int .i64 B1, .slice a3 0 q3, .int .i64 G2, .int .i64 M2, .int .i64 B2, .slice a4 0 q4])) w') :
    Calls Try.prog 14 #[.agg #[.int .i64 D, .int .i64 F, .int .i64 T, .int .i64 G1, .int .i64 M1, .int .i64 B1, .slice none 0 0, .int .i64 G2, .int .i64 M2, .int .i64 B2, .slice none 0 0]] w Q := by
  go_enter Try.func14, Try.ntmps14
  obtain ⟨W0, hW0⟩ : ∃ W0, W0 = ((w.alloc (.cells #[.int .i64 D, .int .i64 F, .int .i64 T, .int .i64 G1, .int .i64 M1, .int .i64 B1, .slice none 0 0, .int .i64 G2, .int .i64 M2, .int .i64 B2, .slice none 0 0] 37)).alloc (.cells #[.int .i64 0, .int .i64 0, .int .i64 0, .int .i64 0, .int .i64 0, .int .i64 0, .slice none 0 0, .int .i64 0, .int .i64 0, .int .i64 0, .slice none 0 0] 37)).alloc (.cells #[] 91) := ⟨_, rfl⟩
  have HP : Hid (BoxV W0 w.heap.size (plV D F T G1 M1 B1 G2 M2 B2 none none 0 0 0 0)) := Lib.hid (by rw [hW0]; exact (BoxV.new w (plV D F T G1 M1 B1 G2 M2 B2 none none 0 0 0 0) _ _ rfl).only (((Only.refl (fun _ => False) _).alloc _).alloc _) (fun f => f))
  have HRS : Hid (BoxV W0 (w.heap.size + 1) zerosP ∧ W0.heap.size = w.heap.size + 3) := Lib.hid (by rw [hW0]; exact ⟨(BoxV.new (w.alloc _) zerosP _ _ (by simp)).only ((Only.refl (fun _ => False) _).alloc _) (fun f => f), by simp⟩)
  have HO0 : Hid (Only (fun _ => False) w W0) := Lib.hid (by rw [hW0]; exact (((Only.refl _ w).alloc _).alloc _).alloc _)
  have HOW : Hid (OwnT W0 (.slice (some ⟨w.heap.size + 1 + 1, 0, none⟩) 0 0) []) := Lib.hid (by
    rw [hW0]
    have := World.ownsRow_lit (base := 0) (e := 91) (size := 2) ((w.alloc (.cells #[.int .i64 D, .int .i64 F, .int .i64 T, .int .i64 G1, .int .i64 M1, .int .i64 B1, .slice none 0 0, .int .i64 G2, .int .i64 M2, .int .i64 B2, .slice none 0 0] 37)).alloc (.cells #[.int .i64 0, .int .i64 0, .int .i64 0, .int .i64 0, .int .i64 0, .int .i64 0, .slice none 0 0, .int .i64 0, .int .i64 0, .int .i64 0, .slice none 0 0] 37)) #[] 0 (by simp) (by decide) rfl
    rw [show ((w.alloc (.cells #[.int .i64 D, .int .i64 F, .int .i64 T, .int .i64 G1, .int .i64 M1, .int .i64 B1, .slice none 0 0, .int .i64 G2, .int .i64 M2, .int .i64 B2, .slice none 0 0] 37)).alloc (.cells #[.int .i64 0, .int .i64 0, .int .i64 0, .int .i64 0, .int .i64 0, .int .i64 0, .slice none 0 0, .int .i64 0, .int .i64 0, .int .i64 0, .slice none 0 0] 37)).heap.size = w.heap.size + 1 + 1 by simp] at this
    exact this)
  have HR1 := Lib.hid (hr1.only HO0.out (fun _ _ f => f))
  have HR2 := Lib.hid (hr2.only HO0.out (fun _ _ f => f))
  have HRW2 := Lib.hid hr2
  have HQ := Lib.hid hQ
  clear hr1 hr2 hQ
  obtain ⟨⟨p0, p1, p2, p3, p4, p5, p6, p7, p8, p9, p10⟩, _⟩ := HP.out.all
  rw [hW0] at p0 p1 p2 p3 p4 p5 p6 p7 p8 p9 p10
  go_wp2_with (at_builtin; rw [← hW0]; refine append_tiers rfl _ _ rfl _ [] rfl HOW.out _ _ _ t1 rfl HR1.out (by show 0 + 0 ≤ _; omega) ?_)
  clear p0 p1 p2 p3 p4 p5 p6 p7 p8 p9 p10
  have HW0 := Lib.hid hW0
  clear hW0
  intro v2 w2 hown hgrow hne
  obtain ⟨a3, q3, rfl, hrd⟩ := own_readsT3 hown (by simpa using HR1.out.2.2.1) (by have := HR1.out.1; simp; omega)
  have hl3 : t1.length = 0 := HR1.out.1
  rw [hl3] at hrd hown ⊢
  rw [← HW0.out] at hgrow
  have HB3 : Hid (∀ y, a3 = some y → w.heap.size + 2 ≤ y.block) := Lib.hid (by
    intro y hy
    rcases hne y.block (by rw [hy]; rfl) with e | e
    · have : w.heap.size + 1 + 1 = y.block := by simpa [Value.ownBlock] using e
      omega
    · have := HRS.out.2
      first
      | omega
      | (rw [← HW0.out] at e; omega)
      | (simp at e; omega))
  have HRD2 := Lib.hid hrd
  have HGR : Hid (Only (fun q => q = w.heap.size + 1 + 1) W0 w2) := Lib.hid ((Only.of_grown hgrow).mono (fun q _ hq => by
    have : w.heap.size + 1 + 1 = q := by simpa [Value.ownBlock] using hq
    omega))
  have hn1 : ¬ (w.heap.size = w.heap.size + 1 + 1) := by omega
  have HP2 : Hid (BoxV w2 w.heap.size (plV D F T G1 M1 B1 G2 M2 B2 none none 0 0 0 0)) := Lib.hid (HP.out.only HGR.out hn1)
  have HRS2 : Hid (BoxV w2 (w.heap.size + 1) zerosP) := Lib.hid (HRS.out.1.only HGR.out (fun e => by have e' : w.heap.size + 1 = w.heap.size + 1 + 1 := e; omega))
  have HO2 : Hid (Only (fun _ => False) w w2) := Lib.hid (HO0.out.then HGR.out (fun q hq e => by have e' : q = w.heap.size + 1 + 1 := e; omega))
  have HST : Hid (Only (fun q => q = w.heap.size) w2 (w2.setCell ⟨w.heap.size, 6, none⟩ (.slice a3 0 q3))) := Lib.hid (Only.set (fun q => q = w.heap.size) w2 w.heap.size 6 _ rfl)
  obtain ⟨W1, hW1⟩ : ∃ W1, W1 = (w2.setCell ⟨w.heap.size, 6, none⟩ (.slice a3 0 q3)).alloc (.cells #[] 91) := ⟨_, rfl⟩
  have HP3 : Hid (BoxV W1 w.heap.size (plV D F T G1 M1 B1 G2 M2 B2 a3 none 0 0 q3 0)) := Lib.hid (by rw [hW1]; exact (plan_set6 HP2.out a3 0 q3).only ((Only.refl (fun _ => False) _).alloc _) (fun f => f))
  have HRS3 : Hid (BoxV W1 (w.heap.size + 1) zerosP) := Lib.hid (by rw [hW1]; exact (HRS2.out.only HST.out (fun e => by have e' : w.heap.size + 1 = w.heap.size := e; omega)).only ((Only.refl (fun _ => False) _).alloc _) (fun f => f))
  have HO3 : Hid (Only (fun _ => False) w W1) := Lib.hid (by rw [hW1]; exact (HO2.out.then HST.out (fun q hq e => by have e' : q = w.heap.size := e; omega)).alloc _)
  have HR23 : Hid (ReadsT W1 none 0 t2) := Lib.hid (HRW2.out.only HO3.out (fun _ _ f => f))
  have HX1 : Hid (Only (fun q => q = w.heap.size) w2 W1) := Lib.hid (by rw [hW1]; exact HST.out.alloc _)
  have HOW3 : Hid (OwnT W1 (.slice (some ⟨w2.heap.size, 0, none⟩) 0 0) []) := Lib.hid (by
    rw [hW1]
    have := World.ownsRow_lit (base := 0) (e := 91) (size := 2) (w2.setCell ⟨w.heap.size, 6, none⟩ (.slice a3 0 q3)) #[] 0 (by simp) (by decide) rfl
    rw [show (w2.setCell ⟨w.heap.size, 6, none⟩ (.slice a3 0 q3)).heap.size = w2.heap.size by simp] at this
    exact this)
  obtain ⟨⟨u0, u1, u2, u3, u4, u5, u6, u7, u8, u9, u10⟩, f0, f1, f2, f3, f4, f5, f6, f7, f8, f9, f10⟩ := HP2.out.all
  obtain ⟨⟨p0, p1, p2, p3, p4, p5, p6, p7, p8, p9, p10⟩, _⟩ := HP3.out.all
  rw [hW1] at p0 p1 p2 p3 p4 p5 p6 p7 p8 p9 p10
  clear hown hgrow hne hrd
  go_wp2_with (at_builtin; rw [← hW1]; refine append_tiers rfl _ _ rfl _ [] rfl HOW3.out _ _ _ t2 rfl HR23.out (by show 0 + 0 ≤ _; omega) ?_)
  intro v4 w4 hown hgrow hne
  rw [← hW1] at hgrow
  have HW1 := Lib.hid hW1
  clear p0 p1 p2 p3 p4 p5 p6 p7 p8 p9 p10 u0 u1 u2 u3 u4 u5 u6 u7 u8 u9 u10 f0 f1 f2 f3 f4 f5 f6 f7 f8 f9 f10 hW1
  have hsz2 : w.heap.size + 3 ≤ w2.heap.size := by have := HGR.out.size; have := HRS.out.2; omega
  obtain ⟨a4, q4, rfl, hrd⟩ := own_readsT3 hown (by simpa using HR2.out.2.2.1) (by have := HR2.out.1; simp; omega)
  have hl4 : t2.length = 0 := HR2.out.1
  rw [hl4] at hrd hown ⊢
  have HB4 : Hid (∀ y, a4 = some y → w.heap.size + 2 ≤ y.block) := Lib.hid (by
    intro y hy
    rcases hne y.block (by rw [hy]; rfl) with e | e
    · have : w2.heap.size = y.block := by simpa [Value.ownBlock] using e
      omega
    · have := HX1.out.size
      first
      | omega
      | (rw [← HW1.out] at e; omega)
      | (simp at e; omega))
  have HRD4 := Lib.hid hrd
  have HGR4 : Hid (Only (fun q => q = w2.heap.size) W1 w4) := Lib.hid ((Only.of_grown hgrow).mono (fun q _ hq => by
    have : w2.heap.size = q := by simpa [Value.ownBlock] using hq
    omega))
  have HP4 : Hid (BoxV w4 w.heap.size (plV D F T G1 M1 B1 G2 M2 B2 a3 none 0 0 q3 0)) := Lib.hid (HP3.out.only HGR4.out (fun e => by have e' : w.heap.size = w2.heap.size := e; omega))
  have HRS4 : Hid (BoxV w4 (w.heap.size + 1) zerosP) := Lib.hid (HRS3.out.only HGR4.out (fun e => by have e' : w.heap.size + 1 = w2.heap.size := e; omega))
  have HO4 : Hid (Only (fun _ => False) w w4) := Lib.hid (HO3.out.then HGR4.out (fun q hq e => by have e' : q = w2.heap.size := e; omega))
  have HST4 : Hid (Only (fun q => q = w.heap.size) w4 (w4.setCell ⟨w.heap.size, 10, none⟩ (.slice a4 0 q4))) := Lib.hid (Only.set (fun q => q = w.heap.size) w4 w.heap.size 10 _ rfl)
  obtain ⟨W5, hW5⟩ : ∃ W5, W5 = w4.setCell ⟨w.heap.size, 10, none⟩ (.slice a4 0 q4) := ⟨_, rfl⟩
  have HP5 : Hid (BoxV W5 w.heap.size (plV D F T G1 M1 B1 G2 M2 B2 a3 a4 0 0 q3 q4)) := Lib.hid (by rw [hW5]; exact plan_set10 HP4.out a4 0 q4)
  have HRS5 : Hid (BoxV W5 (w.heap.size + 1) zerosP) := Lib.hid (by rw [hW5]; exact HRS4.out.only HST4.out (fun e => by have e' : w.heap.size + 1 = w.heap.size := e; omega))
  obtain ⟨W6, HP6, HO6, hW6⟩ := plan_put HRS5.out rfl D F T G1 M1 B1 G2 M2 B2 a3 a4 0 0 q3 q4
  obtain ⟨⟨u0, u1, u2, u3, u4, u5, u6, u7, u8, u9, u10⟩, f0, f1, f2, f3, f4, f5, f6, f7, f8, f9, f10⟩ := HP4.out.all
  obtain ⟨⟨p0, p1, p2, p3, p4, p5, p6, p7, p8, p9, p10⟩, _⟩ := HP5.out.all
  rw [hW5] at p0 p1 p2 p3 p4 p5 p6 p7 p8 p9 p10
  have z0 := (HRS5.out 0 _ rfl); have z1 := (HRS5.out 1 _ rfl); have z2 := (HRS5.out 2 _ rfl); have z3 := (HRS5.out 3 _ rfl); have z4 := (HRS5.out 4 _ rfl); have z5 := (HRS5.out 5 _ rfl)
  have z6 := (HRS5.out 6 _ rfl); have z7 := (HRS5.out 7 _ rfl); have z8 := (HRS5.out 8 _ rfl); have z9 := (HRS5.out 9 _ rfl); have z10 := (HRS5.out 10 _ rfl)
  rw [hW5] at z0 z1 z2 z3 z4 z5 z6 z7 z8 z9 z10
  obtain ⟨z0, y0⟩ := z0; obtain ⟨z1, y1⟩ := z1; obtain ⟨z2, y2⟩ := z2; obtain ⟨z3, y3⟩ := z3; obtain ⟨z4, y4⟩ := z4; obtain ⟨z5, y5⟩ := z5
  obtain ⟨z6, y6⟩ := z6; obtain ⟨z7, y7⟩ := z7; obtain ⟨z8, y8⟩ := z8; obtain ⟨z9, y9⟩ := z9; obtain ⟨z10, y10⟩ := z10
  clear hown hgrow hne hrd
  go_wp2_with fail
  clear p0 p1 p2 p3 p4 p5 p6 p7 p8 p9 p10
  obtain ⟨⟨p0, p1, p2, p3, p4, p5, p6, p7, p8, p9, p10⟩, _⟩ := HP6.all
  rw [← hW5, ← hW6]
  refine bodyPost_ret (v := .agg #[.int .i64 D, .int .i64 F, .int .i64 T, .int .i64 G1, .int .i64 M1, .int .i64 B1, .slice a3 0 q3, .int .i64 G2, .int .i64 M2, .int .i64 B2, .slice a4 0 q4]) (by simp [results, Try.results14, go_sem, p0, p1, p2, p3, p4, p5, p6, p7, p8, p9, p10]) rfl (HQ.out a3 a4 q3 q4 W6 ?_ ?_ ?_ (fun y hy => by have := HB3.out y hy; omega) (fun y hy => by have := HB4.out y hy; omega))
  · have h4 := (HX1.out.then HGR4.out (T := fun q => q = w2.heap.size) (fun q hq e => by have e' : q = w2.heap.size := e; omega)).trans HST4.out
    rw [← hW5] at h4
    exact (HRD2.out.only h4 (fun y hy e => by have := HB3.out y hy; have e' : y.block = w.heap.size := e; omega)).only HO6 (fun y hy e => by have := HB3.out y hy; have e' : y.block = w.heap.size + 1 := e; omega)
  · have h4 := HST4.out
    rw [← hW5] at h4
    exact (HRD4.out.only h4 (fun y hy e => by have := HB4.out y hy; have e' : y.block = w.heap.size := e; omega)).only HO6 (fun y hy e => by have := HB4.out y hy; have e' : y.block = w.heap.size + 1 := e; omega)
  · have h4 := HST4.out
    rw [← hW5] at h4
    exact (HO4.out.then h4 (fun q hq e => by have e' : q = w.heap.size := e; omega)).then HO6 (fun q hq e => by have e' : q = w.heap.size + 1 := e; omega)
set_option maxRecDepth 100000 in
set_option maxHeartbeats 1000000 in
theorem gtame_nm (D F T G1 M1 B1 G2 M2 B2 : Int) (x2 : Addr) (n2 c2 : Nat) (t1 t2 : List Tr) (w : World) (Q : Ending → World → Prop) (h1 : min (0 : Int) 9 = 0) (h2 : (9 : Int) < n2) (k2 : (0 : Int) ≤ n2) (j2 : (9 : Int) ≤ c2) (i2 : (n2 : Int) ≤ c2) (hr1 : ReadsT w none 0 t1) (hr2 : ReadsT w (some x2) 9 t2)
    (hQ : ∀ a3 a4 q3 q4 w', ReadsT w' a3 0 t1 → ReadsT w' a4 9 t2 → Only (fun _ => False) w w' → (∀ y, a3 = some y → w.heap.size ≤ y.block) → (∀ y, a4 = some y → w.heap.size ≤ y.block) → Q (.returned (.agg #[.int .i64 D, .int .i64 F, .int .i64 T, .int .i64 G1, .int .i64 M1, .int .i64 B1, .slice a3 0 q3, .int .i64 G2, .int .i64 M2, .int .i64 B2, .slice a4 9 q4])) w') :
    Calls Try.prog 14 #[.agg #[.int .i64 D, .int .i64 F, .int .i64 T, .int .i64 G1, .int .i64 M1, .int .i64 B1, .slice none 0 0, .int .i64 G2, .int .i64 M2, .int .i64 B2, .slice (some x2) n2 c2]] w Q := by
  go_enter Try.func14, Try.ntmps14
  obtain ⟨W0, hW0⟩ : ∃ W0, W0 = ((w.alloc (.cells #[.int .i64 D, .int .i64 F, .int .i64 T, .int .i64 G1, .int .i64 M1, .int .i64 B1, .slice none 0 0, .int .i64 G2, .int .i64 M2, .int .i64 B2, .slice (some x2) n2 c2] 37)).alloc (.cells #[.int .i64 0, .int .i64 0, .int .i64 0, .int .i64 0, .int .i64 0, .int .i64 0, .slice none 0 0, .int .i64 0, .int .i64 0, .int .i64 0, .slice none 0 0] 37)).alloc (.cells #[] 91) := ⟨_, rfl⟩
  have HP : Hid (BoxV W0 w.heap.size (plV D F T G1 M1 B1 G2 M2 B2 none (some x2) 0 n2 0 c2)) := Lib.hid (by rw [hW0]; exact (BoxV.new w (plV D F T G1 M1 B1 G2 M2 B2 none (some x2) 0 n2 0 c2) _ _ rfl).only (((Only.refl (fun _ => False) _).alloc _).alloc _) (fun f => f))
  have HRS : Hid (BoxV W0 (w.heap.size + 1) zerosP ∧ W0.heap.size = w.heap.size + 3) := Lib.hid (by rw [hW0]; exact ⟨(BoxV.new (w.alloc _) zerosP _ _ (by simp)).only ((Only.refl (fun _ => False) _).alloc _) (fun f => f), by simp⟩)
  have HO0 : Hid (Only (fun _ => False) w W0) := Lib.hid (by rw [hW0]; exact (((Only.refl _ w).alloc _).alloc _).alloc _)
  have HOW : Hid (OwnT W0 (.slice (some ⟨w.heap.size + 1 + 1, 0, none⟩) 0 0) []) := Lib.hid (by
    rw [hW0]
    have := World.ownsRow_lit (base := 0) (e := 91) (size := 2) ((w.alloc (.cells #[.int .i64 D, .int .i64 F, .int .i64 T, .int .i64 G1, .int .i64 M1, .int .i64 B1, .slice none 0 0, .int .i64 G2, .int .i64 M2, .int .i64 B2, .slice (some x2) n2 c2] 37)).alloc (.cells #[.int .i64 0, .int .i64 0, .int .i64 0, .int .i64 0, .int .i64 0, .int .i64 0, .slice none 0 0, .int .i64 0, .int .i64 0, .int .i64 0, .slice none 0 0] 37)) #[] 0 (by simp) (by decide) rfl
    rw [show ((w.alloc (.cells #[.int .i64 D, .int .i64 F, .int .i64 T, .int .i64 G1, .int .i64 M1, .int .i64 B1, .slice none 0 0, .int .i64 G2, .int .i64 M2, .int .i64 B2, .slice (some x2) n2 c2] 37)).alloc (.cells #[.int .i64 0, .int .i64 0, .int .i64 0, .int .i64 0, .int .i64 0, .int .i64 0, .slice none 0 0, .int .i64 0, .int .i64 0, .int .i64 0, .slice none 0 0] 37)).heap.size = w.heap.size + 1 + 1 by simp] at this
    exact this)
  have HR1 := Lib.hid (hr1.only HO0.out (fun _ _ f => f))
  have HR2 := Lib.hid (hr2.only HO0.out (fun _ _ f => f))
  have HRW2 := Lib.hid hr2
  have HQ := Lib.hid hQ
  clear hr1 hr2 hQ
  obtain ⟨⟨p0, p1, p2, p3, p4, p5, p6, p7, p8, p9, p10⟩, _⟩ := HP.out.all
  rw [hW0] at p0 p1 p2 p3 p4 p5 p6 p7 p8 p9 p10
  go_wp2_with (at_builtin; rw [← hW0]; refine append_tiers rfl _ _ rfl _ [] rfl HOW.out _ _ _ t1 rfl HR1.out (by show 0 + 0 ≤ _; omega) ?_)
  clear p0 p1 p2 p3 p4 p5 p6 p7 p8 p9 p10
  have HW0 := Lib.hid hW0
  clear hW0
  intro v2 w2 hown hgrow hne
  obtain ⟨a3, q3, rfl, hrd⟩ := own_readsT3 hown (by simpa using HR1.out.2.2.1) (by have := HR1.out.1; simp; omega)
  have hl3 : t1.length = 0 := HR1.out.1
  rw [hl3] at hrd hown ⊢
  rw [← HW0.out] at hgrow
  have HB3 : Hid (∀ y, a3 = some y → w.heap.size + 2 ≤ y.block) := Lib.hid (by
    intro y hy
    rcases hne y.block (by rw [hy]; rfl) with e | e
    · have : w.heap.size + 1 + 1 = y.block := by simpa [Value.ownBlock] using e
      omega
    · have := HRS.out.2
      first
      | omega
      | (rw [← HW0.out] at e; omega)
      | (simp at e; omega))
  have HRD2 := Lib.hid hrd
  have HGR : Hid (Only (fun q => q = w.heap.size + 1 + 1) W0 w2) := Lib.hid ((Only.of_grown hgrow).mono (fun q _ hq => by
    have : w.heap.size + 1 + 1 = q := by simpa [Value.ownBlock] using hq
    omega))
  have hn1 : ¬ (w.heap.size = w.heap.size + 1 + 1) := by omega
  have HP2 : Hid (BoxV w2 w.heap.size (plV D F T G1 M1 B1 G2 M2 B2 none (some x2) 0 n2 0 c2)) := Lib.hid (HP.out.only HGR.out hn1)
  have HRS2 : Hid (BoxV w2 (w.heap.size + 1) zerosP) := Lib.hid (HRS.out.1.only HGR.out (fun e => by have e' : w.heap.size + 1 = w.heap.size + 1 + 1 := e; omega))
  have HO2 : Hid (Only (fun _ => False) w w2) := Lib.hid (HO0.out.then HGR.out (fun q hq e => by have e' : q = w.heap.size + 1 + 1 := e; omega))
  have HST : Hid (Only (fun q => q = w.heap.size) w2 (w2.setCell ⟨w.heap.size, 6, none⟩ (.slice a3 0 q3))) := Lib.hid (Only.set (fun q => q = w.heap.size) w2 w.heap.size 6 _ rfl)
  obtain ⟨W1, hW1⟩ : ∃ W1, W1 = (w2.setCell ⟨w.heap.size, 6, none⟩ (.slice a3 0 q3)).alloc (.cells #[] 91) := ⟨_, rfl⟩
  have HP3 : Hid (BoxV W1 w.heap.size (plV D F T G1 M1 B1 G2 M2 B2 a3 (some x2) 0 n2 q3 c2)) := Lib.hid (by rw [hW1]; exact (plan_set6 HP2.out a3 0 q3).only ((Only.refl (fun _ => False) _).alloc _) (fun f => f))
  have HRS3 : Hid (BoxV W1 (w.heap.size + 1) zerosP) := Lib.hid (by rw [hW1]; exact (HRS2.out.only HST.out (fun e => by have e' : w.heap.size + 1 = w.heap.size := e; omega)).only ((Only.refl (fun _ => False) _).alloc _) (fun f => f))
  have HO3 : Hid (Only (fun _ => False) w W1) := Lib.hid (by rw [hW1]; exact (HO2.out.then HST.out (fun q hq e => by have e' : q = w.heap.size := e; omega)).alloc _)
  have HR23 : Hid (ReadsT W1 (some x2) 9 t2) := Lib.hid (HRW2.out.only HO3.out (fun _ _ f => f))
  have HX1 : Hid (Only (fun q => q = w.heap.size) w2 W1) := Lib.hid (by rw [hW1]; exact HST.out.alloc _)
  have HOW3 : Hid (OwnT W1 (.slice (some ⟨w2.heap.size, 0, none⟩) 0 0) []) := Lib.hid (by
    rw [hW1]
    have := World.ownsRow_lit (base := 0) (e := 91) (size := 2) (w2.setCell ⟨w.heap.size, 6, none⟩ (.slice a3 0 q3)) #[] 0 (by simp) (by decide) rfl
    rw [show (w2.setCell ⟨w.heap.size, 6, none⟩ (.slice a3 0 q3)).heap.size = w2.heap.size by simp] at this
    exact this)
  obtain ⟨⟨u0, u1, u2, u3, u4, u5, u6, u7, u8, u9, u10⟩, f0, f1, f2, f3, f4, f5, f6, f7, f8, f9, f10⟩ := HP2.out.all
  obtain ⟨⟨p0, p1, p2, p3, p4, p5, p6, p7, p8, p9, p10⟩, _⟩ := HP3.out.all
  rw [hW1] at p0 p1 p2 p3 p4 p5 p6 p7 p8 p9 p10
  clear hown hgrow hne hrd
  go_wp2_with (at_builtin; rw [← hW1]; refine append_tiers rfl _ _ rfl _ [] rfl HOW3.out _ _ _ t2 rfl HR23.out (by show 0 + 9 ≤ _; omega) ?_)
  intro v4 w4 hown hgrow hne
  rw [← hW1] at hgrow
  have HW1 := Lib.hid hW1
  clear p0 p1 p2 p3 p4 p5 p6 p7 p8 p9 p10 u0 u1 u2 u3 u4 u5 u6 u7 u8 u9 u10 f0 f1 f2 f3 f4 f5 f6 f7 f8 f9 f10 hW1
  have hsz2 : w.heap.size + 3 ≤ w2.heap.size := by have := HGR.out.size; have := HRS.out.2; omega
  obtain ⟨a4, q4, rfl, hrd⟩ := own_readsT3 hown (by simpa using HR2.out.2.2.1) (by have := HR2.out.1; simp; omega)
  have hl4 : t2.length = 9 := HR2.out.1
  rw [hl4] at hrd hown ⊢
  have HB4 : Hid (∀ y, a4 = some y → w.heap.size + 2 ≤ y.block) := Lib.hid (by
    intro y hy
    rcases hne y.block (by rw [hy]; rfl) with e | e
    · have : w2.heap.size = y.block := by simpa [Value.ownBlock] using e
      omega
    · have := HX1.out.size
      first
      | omega
      | (rw [← HW1.out] at e; omega)
      | (simp at e; omega))
  have HRD4 := Lib.hid hrd
  have HGR4 : Hid (Only (fun q => q = w2.heap.size) W1 w4) := Lib.hid ((Only.of_grown hgrow).mono (fun q _ hq => by
    have : w2.heap.size = q := by simpa [Value.ownBlock] using hq
    omega))
  have HP4 : Hid (BoxV w4 w.heap.size (plV D F T G1 M1 B1 G2 M2 B2 a3 (some x2) 0 n2 q3 c2)) := Lib.hid (HP3.out.only HGR4.out (fun e => by have e' : w.heap.size = w2.heap.size := e; omega))
  have HRS4 : Hid (BoxV w4 (w.heap.size + 1) zerosP) := Lib.hid (HRS3.out.only HGR4.out (fun e => by have e' : w.heap.size + 1 = w2.heap.size := e; omega))
  have HO4 : Hid (Only (fun _ => False) w w4) := Lib.hid (HO3.out.then HGR4.out (fun q hq e => by have e' : q = w2.heap.size := e; omega))
  have HST4 : Hid (Only (fun q => q = w.heap.size) w4 (w4.setCell ⟨w.heap.size, 10, none⟩ (.slice a4 9 q4))) := Lib.hid (Only.set (fun q => q = w.heap.size) w4 w.heap.size 10 _ rfl)
  obtain ⟨W5, hW5⟩ : ∃ W5, W5 = w4.setCell ⟨w.heap.size, 10, none⟩ (.slice a4 9 q4) := ⟨_, rfl⟩
  have HP5 : Hid (BoxV W5 w.heap.size (plV D F T G1 M1 B1 G2 M2 B2 a3 a4 0 9 q3 q4)) := Lib.hid (by rw [hW5]; exact plan_set10 HP4.out a4 9 q4)
  have HRS5 : Hid (BoxV W5 (w.heap.size + 1) zerosP) := Lib.hid (by rw [hW5]; exact HRS4.out.only HST4.out (fun e => by have e' : w.heap.size + 1 = w.heap.size := e; omega))
  obtain ⟨W6, HP6, HO6, hW6⟩ := plan_put HRS5.out rfl D F T G1 M1 B1 G2 M2 B2 a3 a4 0 9 q3 q4
  obtain ⟨⟨u0, u1, u2, u3, u4, u5, u6, u7, u8, u9, u10⟩, f0, f1, f2, f3, f4, f5, f6, f7, f8, f9, f10⟩ := HP4.out.all
  obtain ⟨⟨p0, p1, p2, p3, p4, p5, p6, p7, p8, p9, p10⟩, _⟩ := HP5.out.all
  rw [hW5] at p0 p1 p2 p3 p4 p5 p6 p7 p8 p9 p10
  have z0 := (HRS5.out 0 _ rfl); have z1 := (HRS5.out 1 _ rfl); have z2 := (HRS5.out 2 _ rfl); have z3 := (HRS5.out 3 _ rfl); have z4 := (HRS5.out 4 _ rfl); have z5 := (HRS5.out 5 _ rfl)
  have z6 := (HRS5.out 6 _ rfl); have z7 := (HRS5.out 7 _ rfl); have z8 := (HRS5.out 8 _ rfl); have z9 := (HRS5.out 9 _ rfl); have z10 := (HRS5.out 10 _ rfl)
  rw [hW5] at z0 z1 z2 z3 z4 z5 z6 z7 z8 z9 z10
  obtain ⟨z0, y0⟩ := z0; obtain ⟨z1, y1⟩ := z1; obtain ⟨z2, y2⟩ := z2; obtain ⟨z3, y3⟩ := z3; obtain ⟨z4, y4⟩ := z4; obtain ⟨z5, y5⟩ := z5
  obtain ⟨z6, y6⟩ := z6; obtain ⟨z7, y7⟩ := z7; obtain ⟨z8, y8⟩ := z8; obtain ⟨z9, y9⟩ := z9; obtain ⟨z10, y10⟩ := z10
  clear hown hgrow hne hrd
  go_wp2_with fail
  clear p0 p1 p2 p3 p4 p5 p6 p7 p8 p9 p10
  obtain ⟨⟨p0, p1, p2, p3, p4, p5, p6, p7, p8, p9, p10⟩, _⟩ := HP6.all
  rw [← hW5, ← hW6]
  refine bodyPost_ret (v := .agg #[.int .i64 D, .int .i64 F, .int .i64 T, .int .i64 G1, .int .i64 M1, .int .i64 B1, .slice a3 0 q3, .int .i64 G2, .int .i64 M2, .int .i64 B2, .slice a4 9 q4]) (by simp [results, Try.results14, go_sem, p0, p1, p2, p3, p4, p5, p6, p7, p8, p9, p10]) rfl (HQ.out a3 a4 q3 q4 W6 ?_ ?_ ?_ (fun y hy => by have := HB3.out y hy; omega) (fun y hy => by have := HB4.out y hy; omega))
  · have h4 := (HX1.out.then HGR4.out (T := fun q => q = w2.heap.size) (fun q hq e => by have e' : q = w2.heap.size := e; omega)).trans HST4.out
    rw [← hW5] at h4
    exact (HRD2.out.only h4 (fun y hy e => by have := HB3.out y hy; have e' : y.block = w.heap.size := e; omega)).only HO6 (fun y hy e => by have := HB3.out y hy; have e' : y.block = w.heap.size + 1 := e; omega)
  · have h4 := HST4.out
    rw [← hW5] at h4
    exact (HRD4.out.only h4 (fun y hy e => by have := HB4.out y hy; have e' : y.block = w.heap.size := e; omega)).only HO6 (fun y hy e => by have := HB4.out y hy; have e' : y.block = w.heap.size + 1 := e; omega)
  · have h4 := HST4.out
    rw [← hW5] at h4
    exact (HO4.out.then h4 (fun q hq e => by have e' : q = w.heap.size := e; omega)).then HO6 (fun q hq e => by have e' : q = w.heap.size + 1 := e; omega)
end Go.Proofs.Ytghajamcjcflaaa.tirw

namespace Go.Proofs.Ytghajamcjcflaaa.tirw
open Go.RowKit mem tirm intm bigm bigw
set_option linter.unusedVariables false
set_option maxRecDepth 100000 in
set_option maxHeartbeats 1000000 in
theorem gtame_ml (D F T G1 M1 B1 G2 M2 B2 : Int) (x1 : Addr) (n1 c1 : Nat) (x2 : Addr) (n2 c2 : Nat) (t1 t2 : List Tr) (w : World) (Q : Ending → World → Prop) (h1 : (9 : Int) < n1) (k1 : (0 : Int) ≤ n1) (j1 : (9 : Int) ≤ c1) (i1 : (n1 : Int) ≤ c1) (h2 : (n2 : Int) ≤ 9) (k2 : (0 : Int) ≤ n2) (j2 : (n2 : Int) ≤ c2) (hr1 : ReadsT w (some x1) 9 t1) (hr2 : ReadsT w (some x2) n2 t2)
    (hQ : ∀ a3 a4 q3 q4 w', ReadsT w' a3 9 t1 → ReadsT w' a4 n2 t2 → Only (fun _ => False) w w' → (∀ y, a3 = some y → w.heap.size ≤ y.block) → (∀ y, a4 = some y → w.heap.size ≤ y.block) → Q (.returned (.agg #[.int .i64 D, .int .i64 F, .int .i64 T, .int .i64 G1, .int .i64 M1, .int .i64 B1, .slice a3 9 q3, .int .i64 G2, .int .i64 M2, .int .i64 B2, .slice a4 n2 q4])) w') :
    Calls Try.prog 14 #[.agg #[.int .i64 D, .int .i64 F, .int .i64 T, .int .i64 G1, .int .i64 M1, .int .i64 B1, .slice (some x1) n1 c1, .int .i64 G2, .int .i64 M2, .int .i64 B2, .slice (some x2) n2 c2]] w Q := by
  go_enter Try.func14, Try.ntmps14
  obtain ⟨W0, hW0⟩ : ∃ W0, W0 = ((w.alloc (.cells #[.int .i64 D, .int .i64 F, .int .i64 T, .int .i64 G1, .int .i64 M1, .int .i64 B1, .slice (some x1) n1 c1, .int .i64 G2, .int .i64 M2, .int .i64 B2, .slice (some x2) n2 c2] 37)).alloc (.cells #[.int .i64 0, .int .i64 0, .int .i64 0, .int .i64 0, .int .i64 0, .int .i64 0, .slice none 0 0, .int .i64 0, .int .i64 0, .int .i64 0, .slice none 0 0] 37)).alloc (.cells #[] 91) := ⟨_, rfl⟩
  have HP : Hid (BoxV W0 w.heap.size (plV D F T G1 M1 B1 G2 M2 B2 (some x1) (some x2) n1 n2 c1 c2)) := Lib.hid (by rw [hW0]; exact (BoxV.new w (plV D F T G1 M1 B1 G2 M2 B2 (some x1) (some x2) n1 n2 c1 c2) _ _ rfl).only (((Only.refl (fun _ => False) _).alloc _).alloc _) (fun f => f))
  have HRS : Hid (BoxV W0 (w.heap.size + 1) zerosP ∧ W0.heap.size = w.heap.size + 3) := Lib.hid (by rw [hW0]; exact ⟨(BoxV.new (w.alloc _) zerosP _ _ (by simp)).only ((Only.refl (fun _ => False) _).alloc _) (fun f => f), by simp⟩)
  have HO0 : Hid (Only (fun _ => False) w W0) := Lib.hid (by rw [hW0]; exact (((Only.refl _ w).alloc _).alloc _).alloc _)
  have HOW : Hid (OwnT W0 (.slice (some ⟨w.heap.size + 1 + 1, 0, none⟩) 0 0) []) := Lib.hid (by
    rw [hW0]
    have := World.ownsRow_lit (base := 0) (e := 91) (size := 2) ((w.alloc (.cells #[.int .i64 D, .int .i64 F, .int .i64 T, .int .i64 G1, .int .i64 M1, .int .i64 B1, .slice (some x1) n1 c1, .int .i64 G2, .int .i64 M2, .int .i64 B2, .slice (some x2) n2 c2] 37)).alloc (.cells #[.int .i64 0, .int .i64 0, .int .i64 0, .int .i64 0, .int .i64 0, .int .i64 0, .slice none 0 0, .int .i64 0, .int .i64 0, .int .i64 0, .slice none 0 0] 37)) #[] 0 (by simp) (by decide) rfl
    rw [show ((w.alloc (.cells #[.int .i64 D, .int .i64 F, .int .i64 T, .int .i64 G1, .int .i64 M1, .int .i64 B1, .slice (some x1) n1 c1, .int .i64 G2, .int .i64 M2, .int .i64 B2, .slice (some x2) n2 c2] 37)).alloc (.cells #[.int .i64 0, .int .i64 0, .int .i64 0, .int .i64 0, .int .i64 0, .int .i64 0, .slice none 0 0, .int .i64 0, .int .i64 0, .int .i64 0, .slice none 0 0] 37)).heap.size = w.heap.size + 1 + 1 by simp] at this
    exact this)
  have HR1 := Lib.hid (hr1.only HO0.out (fun _ _ f => f))
  have HR2 := Lib.hid (hr2.only HO0.out (fun _ _ f => f))
  have HRW2 := Lib.hid hr2
  have HQ := Lib.hid hQ
  clear hr1 hr2 hQ
  obtain ⟨⟨p0, p1, p2, p3, p4, p5, p6, p7, p8, p9, p10⟩, _⟩ := HP.out.all
  rw [hW0] at p0 p1 p2 p3 p4 p5 p6 p7 p8 p9 p10
  go_wp2_with (at_builtin; rw [← hW0]; refine append_tiers rfl _ _ rfl _ [] rfl HOW.out _ _ _ t1 rfl HR1.out (by show 0 + 9 ≤ _; omega) ?_)
  clear p0 p1 p2 p3 p4 p5 p6 p7 p8 p9 p10
  have HW0 := Lib.hid hW0
  clear hW0
  intro v2 w2 hown hgrow hne
  obtain ⟨a3, q3, rfl, hrd⟩ := own_readsT3 hown (by simpa using HR1.out.2.2.1) (by have := HR1.out.1; simp; omega)
  have hl3 : t1.length = 9 := HR1.out.1
  rw [hl3] at hrd hown ⊢
  rw [← HW0.out] at hgrow
  have HB3 : Hid (∀ y, a3 = some y → w.heap.size + 2 ≤ y.block) := Lib.hid (by
    intro y hy
    rcases hne y.block (by rw [hy]; rfl) with e | e
    · have : w.heap.size + 1 + 1 = y.block := by simpa [Value.ownBlock] using e
      omega
    · have := HRS.out.2
      first
      | omega
      | (rw [← HW0.out] at e; omega)
      | (simp at e; omega))
  have HRD2 := Lib.hid hrd
  have HGR : Hid (Only (fun q => q = w.heap.size + 1 + 1) W0 w2) := Lib.hid ((Only.of_grown hgrow).mono (fun q _ hq => by
    have : w.heap.size + 1 + 1 = q := by simpa [Value.ownBlock] using hq
    omega))
  have hn1 : ¬ (w.heap.size = w.heap.size + 1 + 1) := by omega
  have HP2 : Hid (BoxV w2 w.heap.size (plV D F T G1 M1 B1 G2 M2 B2 (some x1) (some x2) n1 n2 c1 c2)) := Lib.hid (HP.out.only HGR.out hn1)
  have HRS2 : Hid (BoxV w2 (w.heap.size + 1) zerosP) := Lib.hid (HRS.out.1.only HGR.out (fun e => by have e' : w.heap.size + 1 = w.heap.size + 1 + 1 := e; omega))
  have HO2 : Hid (Only (fun _ => False) w w2) := Lib.hid (HO0.out.then HGR.out (fun q hq e => by have e' : q = w.heap.size + 1 + 1 := e; omega))
  have HST : Hid (Only (fun q => q = w.heap.size) w2 (w2.setCell ⟨w.heap.size, 6, none⟩ (.slice a3 9 q3))) := Lib.hid (Only.set (fun q => q = w.heap.size) w2 w.heap.size 6 _ rfl)
  obtain ⟨W1, hW1⟩ : ∃ W1, W1 = (w2.setCell ⟨w.heap.size, 6, none⟩ (.slice a3 9 q3)).alloc (.cells #[] 91) := ⟨_, rfl⟩
  have HP3 : Hid (BoxV W1 w.heap.size (plV D F T G1 M1 B1 G2 M2 B2 a3 (some x2) 9 n2 q3 c2)) := Lib.hid (by rw [hW1]; exact (plan_set6 HP2.out a3 9 q3).only ((Only.refl (fun _ => False) _).alloc _) (fun f => f))
  have HRS3 : Hid (BoxV W1 (w.heap.size + 1) zerosP) := Lib.hid (by rw [hW1]; exact (HRS2.out.only HST.out (fun e => by have e' : w.heap.size + 1 = w.heap.size := e; omega)).only ((Only.refl (fun _ => False) _).alloc _) (fun f => f))
  have HO3 : Hid (Only (fun _ => False) w W1) := Lib.hid (by rw [hW1]; exact (HO2.out.then HST.out (fun q hq e => by have e' : q = w.heap.size := e; omega)).alloc _)
  have HR23 : Hid (ReadsT W1 (some x2) n2 t2) := Lib.hid (HRW2.out.only HO3.out (fun _ _ f => f))
  have HX1 : Hid (Only (fun q => q = w.heap.size) w2 W1) := Lib.hid (by rw [hW1]; exact HST.out.alloc _)
  have HOW3 : Hid (OwnT W1 (.slice (some ⟨w2.heap.size, 0, none⟩) 0 0) []) := Lib.hid (by
    rw [hW1]
    have := World.ownsRow_lit (base := 0) (e := 91) (size := 2) (w2.setCell ⟨w.heap.size, 6, none⟩ (.slice a3 9 q3)) #[] 0 (by simp) (by decide) rfl
    rw [show (w2.setCell ⟨w.heap.size, 6, none⟩ (.slice a3 9 q3)).heap.size = w2.heap.size by simp] at this
    exact this)
  obtain ⟨⟨u0, u1, u2, u3, u4, u5, u6, u7, u8, u9, u10⟩, f0, f1, f2, f3, f4, f5, f6, f7, f8, f9, f10⟩ := HP2.out.all
  obtain ⟨⟨p0, p1, p2, p3, p4, p5, p6, p7, p8, p9, p10⟩, _⟩ := HP3.out.all
  rw [hW1] at p0 p1 p2 p3 p4 p5 p6 p7 p8 p9 p10
  clear hown hgrow hne hrd
  go_wp2_with (at_builtin; rw [← hW1]; refine append_tiers rfl _ _ rfl _ [] rfl HOW3.out _ _ _ t2 rfl HR23.out (by show 0 + n2 ≤ _; omega) ?_)
  intro v4 w4 hown hgrow hne
  rw [← hW1] at hgrow
  have HW1 := Lib.hid hW1
  clear p0 p1 p2 p3 p4 p5 p6 p7 p8 p9 p10 u0 u1 u2 u3 u4 u5 u6 u7 u8 u9 u10 f0 f1 f2 f3 f4 f5 f6 f7 f8 f9 f10 hW1
  have hsz2 : w.heap.size + 3 ≤ w2.heap.size := by have := HGR.out.size; have := HRS.out.2; omega
  obtain ⟨a4, q4, rfl, hrd⟩ := own_readsT3 hown (by simpa using HR2.out.2.2.1) (by have := HR2.out.1; simp; omega)
  have hl4 : t2.length = n2 := HR2.out.1
  rw [hl4] at hrd hown ⊢
  have HB4 : Hid (∀ y, a4 = some y → w.heap.size + 2 ≤ y.block) := Lib.hid (by
    intro y hy
    rcases hne y.block (by rw [hy]; rfl) with e | e
    · have : w2.heap.size = y.block := by simpa [Value.ownBlock] using e
      omega
    · have := HX1.out.size
      first
      | omega
      | (rw [← HW1.out] at e; omega)
      | (simp at e; omega))
  have HRD4 := Lib.hid hrd
  have HGR4 : Hid (Only (fun q => q = w2.heap.size) W1 w4) := Lib.hid ((Only.of_grown hgrow).mono (fun q _ hq => by
    have : w2.heap.size = q := by simpa [Value.ownBlock] using hq
    omega))
  have HP4 : Hid (BoxV w4 w.heap.size (plV D F T G1 M1 B1 G2 M2 B2 a3 (some x2) 9 n2 q3 c2)) := Lib.hid (HP3.out.only HGR4.out (fun e => by have e' : w.heap.size = w2.heap.size := e; omega))
  have HRS4 : Hid (BoxV w4 (w.heap.size + 1) zerosP) := Lib.hid (HRS3.out.only HGR4.out (fun e => by have e' : w.heap.size + 1 = w2.heap.size := e; omega))
  have HO4 : Hid (Only (fun _ => False) w w4) := Lib.hid (HO3.out.then HGR4.out (fun q hq e => by have e' : q = w2.heap.size := e; omega))
  have HST4 : Hid (Only (fun q => q = w.heap.size) w4 (w4.setCell ⟨w.heap.size, 10, none⟩ (.slice a4 n2 q4))) := Lib.hid (Only.set (fun q => q = w.heap.size) w4 w.heap.size 10 _ rfl)
  obtain ⟨W5, hW5⟩ : ∃ W5, W5 = w4.setCell ⟨w.heap.size, 10, none⟩ (.slice a4 n2 q4) := ⟨_, rfl⟩
  have HP5 : Hid (BoxV W5 w.heap.size (plV D F T G1 M1 B1 G2 M2 B2 a3 a4 9 n2 q3 q4)) := Lib.hid (by rw [hW5]; exact plan_set10 HP4.out a4 n2 q4)
  have HRS5 : Hid (BoxV W5 (w.heap.size + 1) zerosP) := Lib.hid (by rw [hW5]; exact HRS4.out.only HST4.out (fun e => by have e' : w.heap.size + 1 = w.heap.size := e; omega))
  obtain ⟨W6, HP6, HO6, hW6⟩ := plan_put HRS5.out rfl D F T G1 M1 B1 G2 M2 B2 a3 a4 9 n2 q3 q4
  obtain ⟨⟨u0, u1, u2, u3, u4, u5, u6, u7, u8, u9, u10⟩, f0, f1, f2, f3, f4, f5, f6, f7, f8, f9, f10⟩ := HP4.out.all
  obtain ⟨⟨p0, p1, p2, p3, p4, p5, p6, p7, p8, p9, p10⟩, _⟩ := HP5.out.all
  rw [hW5] at p0 p1 p2 p3 p4 p5 p6 p7 p8 p9 p10
  have z0 := (HRS5.out 0 _ rfl); have z1 := (HRS5.out 1 _ rfl); have z2 := (HRS5.out 2 _ rfl); have z3 := (HRS5.out 3 _ rfl); have z4 := (HRS5.out 4 _ rfl); have z5 := (HRS5.out 5 _ rfl)
  have z6 := (HRS5.out 6 _ rfl); have z7 := (HRS5.out 7 _ rfl); have z8 := (HRS5.out 8 _ rfl); have z9 := (HRS5.out 9 _ rfl); have z10 := (HRS5.out 10 _ rfl)
  rw [hW5] at z0 z1 z2 z3 z4 z5 z6 z7 z8 z9 z10
  obtain ⟨z0, y0⟩ := z0; obtain ⟨z1, y1⟩ := z1; obtain ⟨z2, y2⟩ := z2; obtain ⟨z3, y3⟩ := z3; obtain ⟨z4, y4⟩ := z4; obtain ⟨z5, y5⟩ := z5
  obtain ⟨z6, y6⟩ := z6; obtain ⟨z7, y7⟩ := z7; obtain ⟨z8, y8⟩ := z8; obtain ⟨z9, y9⟩ := z9; obtain ⟨z10, y10⟩ := z10
  clear hown hgrow hne hrd
  go_wp2_with fail
  clear p0 p1 p2 p3 p4 p5 p6 p7 p8 p9 p10
  obtain ⟨⟨p0, p1, p2, p3, p4, p5, p6, p7, p8, p9, p10⟩, _⟩ := HP6.all
  rw [← hW5, ← hW6]
  refine bodyPost_ret (v := .agg #[.int .i64 D, .int .i64 F, .int .i64 T, .int .i64 G1, .int .i64 M1, .int .i64 B1, .slice a3 9 q3, .int .i64 G2, .int .i64 M2, .int .i64 B2, .slice a4 n2 q4]) (by simp [results, Try.results14, go_sem, p0, p1, p2, p3, p4, p5, p6, p7, p8, p9, p10]) rfl (HQ.out a3 a4 q3 q4 W6 ?_ ?_ ?_ (fun y hy => by have := HB3.out y hy; omega) (fun y hy => by have := HB4.out y hy; omega))
  · have h4 := (HX1.out.then HGR4.out (T := fun q => q = w2.heap.size) (fun q hq e => by have e' : q = w2.heap.size := e; omega)).trans HST4.out
    rw [← hW5] at h4
    exact (HRD2.out.only h4 (fun y hy e => by have := HB3.out y hy; have e' : y.block = w.heap.size := e; omega)).only HO6 (fun y hy e => by have := HB3.out y hy; have e' : y.block = w.heap.size + 1 := e; omega)
  · have h4 := HST4.out
    rw [← hW5] at h4
    exact (HRD4.out.only h4 (fun y hy e => by have := HB4.out y hy; have e' : y.block = w.heap.size := e; omega)).only HO6 (fun y hy e => by have := HB4.out y hy; have e' : y.block = w.heap.size + 1 := e; omega)
  · have h4 := HST4.out
    rw [← hW5] at h4
    exact (HO4.out.then h4 (fun q hq e => by have e' : q = w.heap.size := e; omega)).then HO6 (fun q hq e => by have e' : q = w.heap.size + 1 := e; omega)
set_option maxRecDepth 100000 in
set_option maxHeartbeats 1000000 in
theorem gtame_mn (D F T G1 M1 B1 G2 M2 B2 : Int) (x1 : Addr) (n1 c1 : Nat) (t1 t2 : List Tr) (w : World) (Q : Ending → World → Prop) (h1 : (9 : Int) < n1) (k1 : (0 : Int) ≤ n1) (j1 : (9 : Int) ≤ c1) (i1 : (n1 : Int) ≤ c1) (h2 : min (0 : Int) 9 = 0) (hr1 : ReadsT w (some x1) 9 t1) (hr2 : ReadsT w none 0 t2)
    (hQ : ∀ a3 a4 q3 q4 w', ReadsT w' a3 9 t1 → ReadsT w' a4 0 t2 → Only (fun _ => False) w w' → (∀ y, a3 = some y → w.heap.size ≤ y.block) → (∀ y, a4 = some y → w.heap.size ≤ y.block) → Q (.returned (.agg #[.int .i64 D, .int .i64 F, .int .i64 T, .int .i64 G1, .int .i64 M1, .int .i64 B1, .slice a3 9 q3, .int .i64 G2, .int .i64 M2, .int .i64 B2, .slice a4 0 q4])) w') :
    Calls Try.prog 14 #[.agg #[.int .i64 D, .int .i64 F, .int .i64 T, .int .i64 G1, .int .i64 M1, .int .i64 B1, .slice (some x1) n1 c1, .int .i64 G2, .int .i64 M2, .int .i64 B2, .slice none 0 0]] w Q := by
  go_enter Try.func14, Try.ntmps14
  obtain ⟨W0, hW0⟩ : ∃ W0, W0 = ((w.alloc (.cells #[.int .i64 D, .int .i64 F, .int .i64 T, .int .i64 G1, .int .i64 M1, .int .i64 B1, .slice (some x1) n1 c1, .int .i64 G2, .int .i64 M2, .int .i64 B2, .slice none 0 0] 37)).alloc (.cells #[.int .i64 0, .int .i64 0, .int .i64 0, .int .i64 0, .int .i64 0, .int .i64 0, .slice none 0 0, .int .i64 0, .int .i64 0, .int .i64 0, .slice none 0 0] 37)).alloc (.cells #[] 91) := ⟨_, rfl⟩
  have HP : Hid (BoxV W0 w.heap.size (plV D F T G1 M1 B1 G2 M2 B2 (some x1) none n1 0 c1 0)) := Lib.hid (by rw [hW0]; exact (BoxV.new w (plV D F T G1 M1 B1 G2 M2 B2 (some x1) none n1 0 c1 0) _ _ rfl).only (((Only.refl (fun _ => False) _).alloc _).alloc _) (fun f => f))
  have HRS : Hid (BoxV W0 (w.heap.size + 1) zerosP ∧ W0.heap.size = w.heap.size + 3) := Lib.hid (by rw [hW0]; exact ⟨(BoxV.new (w.alloc _) zerosP _ _ (by simp)).only ((Only.refl (fun _ => False) _).alloc _) (fun f => f), by simp⟩)
  have HO0 : Hid (Only (fun _ => False) w W0) := Lib.hid (by rw [hW0]; exact (((Only.refl _ w).alloc _).alloc _).alloc _)
  have HOW : Hid (OwnT W0 (.slice (some ⟨w.heap.size + 1 + 1, 0, none⟩) 0 0) []) := Lib.hid (by
    rw [hW0]
    have := World.ownsRow_lit (base := 0) (e := 91) (size := 2) ((w.alloc (.cells #[.int .i64 D, .int .i64 F, .int .i64 T, .int .i64 G1, .int .i64 M1, .int .i64 B1, .slice (some x1) n1 c1, .int .i64 G2, .int .i64 M2, .int .i64 B2, .slice none 0 0] 37)).alloc (.cells #[.int .i64 0, .int .i64 0, .int .i64 0, .int .i64 0, .int .i64 0, .int .i64 0, .slice none 0 0, .int .i64 0, .int .i64 0, .int .i64 0, .slice none 0 0] 37)) #[] 0 (by simp) (by decide) rfl
    rw [show ((w.alloc (.cells #[.int .i64 D, .int .i64 F, .int .i64 T, .int .i64 G1, .int .i64 M1, .int .i64 B1, .slice (some x1) n1 c1, .int .i64 G2, .int .i64 M2, .int .i64 B2, .slice none 0 0] 37)).alloc (.cells #[.int .i64 0, .int .i64 0, .int .i64 0, .int .i64 0, .int .i64 0, .int .i64 0, .slice none 0 0, .int .i64 0, .int .i64 0, .int .i64 0, .slice none 0 0] 37)).heap.size = w.heap.size + 1 + 1 by simp] at this
    exact this)
  have HR1 := Lib.hid (hr1.only HO0.out (fun _ _ f => f))
  have HR2 := Lib.hid (hr2.only HO0.out (fun _ _ f => f))
  have HRW2 := Lib.hid hr2
  have HQ := Lib.hid hQ
  clear hr1 hr2 hQ
  obtain ⟨⟨p0, p1, p2, p3, p4, p5, p6, p7, p8, p9, p10⟩, _⟩ := HP.out.all
  rw [hW0] at p0 p1 p2 p3 p4 p5 p6 p7 p8 p9 p10
  go_wp2_with (at_builtin; rw [← hW0]; refine append_tiers rfl _ _ rfl _ [] rfl HOW.out _ _ _ t1 rfl HR1.out (by show 0 + 9 ≤ _; omega) ?_)
  clear p0 p1 p2 p3 p4 p5 p6 p7 p8 p9 p10
  have HW0 := Lib.hid hW0
  clear hW0
  intro v2 w2 hown hgrow hne
  obtain ⟨a3, q3, rfl, hrd⟩ := own_readsT3 hown (by simpa using HR1.out.2.2.1) (by have := HR1.out.1; simp; omega)
  have hl3 : t1.length = 9 := HR1.out.1
  rw [hl3] at hrd hown ⊢
  rw [← HW0.out] at hgrow
  have HB3 : Hid (∀ y, a3 = some y → w.heap.size + 2 ≤ y.block) := Lib.hid (by
    intro y hy
    rcases hne y.block (by rw [hy]; rfl) with e | e
    · have : w.heap.size + 1 + 1 = y.block := by simpa [Value.ownBlock] using e
      omega
    · have := HRS.out.2
      first
      | omega
      | (rw [← HW0.out] at e; omega)
      | (simp at e; omega))
  have HRD2 := Lib.hid hrd
  have HGR : Hid (Only (fun q => q = w.heap.size + 1 + 1) W0 w2) := Lib.hid ((Only.of_grown hgrow).mono (fun q _ hq => by
    have : w.heap.size + 1 + 1 = q := by simpa [Value.ownBlock] using hq
    omega))
  have hn1 : ¬ (w.heap.size = w.heap.size + 1 + 1) := by omega
  have HP2 : Hid (BoxV w2 w.heap.size (plV D F T G1 M1 B1 G2 M2 B2 (some x1) none n1 0 c1 0)) := Lib.hid (HP.out.only HGR.out hn1)
  have HRS2 : Hid (BoxV w2 (w.heap.size + 1) zerosP) := Lib.hid (HRS.out.1.only HGR.out (fun e => by have e' : w.heap.size + 1 = w.heap.size + 1 + 1 := e; omega))
  have HO2 : Hid (Only (fun _ => False) w w2) := Lib.hid (HO0.out.then HGR.out (fun q hq e => by have e' : q = w.heap.size + 1 + 1 := e; omega))
  have HST : Hid (Only (fun q => q = w.heap.size) w2 (w2.setCell ⟨w.heap.size, 6, none⟩ (.slice a3 9 q3))) := Lib.hid (Only.set (fun q => q = w.heap.size) w2 w.heap.size 6 _ rfl)
  obtain ⟨W1, hW1⟩ : ∃ W1, W1 = (w2.setCell ⟨w.heap.size, 6, none⟩ (.slice a3 9 q3)).alloc (.cells #[] 91) := ⟨_, rfl⟩
  have HP3 : Hid (BoxV W1 w.heap.size (plV D F T G1 M1 B1 G2 M2 B2 a3 none 9 0 q3 0)) := Lib.hid (by rw [hW1]; exact (plan_set6 HP2.out a3 9 q3).only ((Only.refl (fun _ => False) _).alloc _) (fun f => f))
  have HRS3 : Hid (BoxV W1 (w.heap.size + 1) zerosP) := Lib.hid (by rw [hW1]; exact (HRS2.out.only HST.out (fun e => by have e' : w.heap.size + 1 = w.heap.size := e; omega)).only ((Only.refl (fun _ => False) _).alloc _) (fun f => f))
  have HO3 : Hid (Only (fun _ => False) w W1) := Lib.hid (by rw [hW1]; exact (HO2.out.then HST.out (fun q hq e => by have e' : q = w.heap.size := e; omega)).alloc _)
  have HR23 : Hid (ReadsT W1 none 0 t2) := Lib.hid (HRW2.out.only HO3.out (fun _ _ f => f))
  have HX1 : Hid (Only (fun q => q = w.heap.size) w2 W1) := Lib.hid (by rw [hW1]; exact HST.out.alloc _)
  have HOW3 : Hid (OwnT W1 (.slice (some ⟨w2.heap.size, 0, none⟩) 0 0) []) := Lib.hid (by
    rw [hW1]
    have := World.ownsRow_lit (base := 0) (e := 91) (size := 2) (w2.setCell ⟨w.heap.size, 6, none⟩ (.slice a3 9 q3)) #[] 0 (by simp) (by decide) rfl
    rw [show (w2.setCell ⟨w.heap.size, 6, none⟩ (.slice a3 9 q3)).heap.size = w2.heap.size by simp] at this
    exact this)
  obtain ⟨⟨u0, u1, u2, u3, u4, u5, u6, u7, u8, u9, u10⟩, f0, f1, f2, f3, f4, f5, f6, f7, f8, f9, f10⟩ := HP2.out.all
  obtain ⟨⟨p0, p1, p2, p3, p4, p5, p6, p7, p8, p9, p10⟩, _⟩ := HP3.out.all
  rw [hW1] at p0 p1 p2 p3 p4 p5 p6 p7 p8 p9 p10
  clear hown hgrow hne hrd
  go_wp2_with (at_builtin; rw [← hW1]; refine append_tiers rfl _ _ rfl _ [] rfl HOW3.out _ _ _ t2 rfl HR23.out (by show 0 + 0 ≤ _; omega) ?_)
  intro v4 w4 hown hgrow hne
  rw [← hW1] at hgrow
  have HW1 := Lib.hid hW1
  clear p0 p1 p2 p3 p4 p5 p6 p7 p8 p9 p10 u0 u1 u2 u3 u4 u5 u6 u7 u8 u9 u10 f0 f1 f2 f3 f4 f5 f6 f7 f8 f9 f10 hW1
  have hsz2 : w.heap.size + 3 ≤ w2.heap.size := by have := HGR.out.size; have := HRS.out.2; omega
  obtain ⟨a4, q4, rfl, hrd⟩ := own_readsT3 hown (by simpa using HR2.out.2.2.1) (by have := HR2.out.1; simp; omega)
  have hl4 : t2.length = 0 := HR2.out.1
  rw [hl4] at hrd hown ⊢
  have HB4 : Hid (∀ y, a4 = some y → w.heap.size + 2 ≤ y.block) := Lib.hid (by
    intro y hy
    rcases hne y.block (by rw [hy]; rfl) with e | e
    · have : w2.heap.size = y.block := by simpa [Value.ownBlock] using e
      omega
    · have := HX1.out.size
      first
      | omega
      | (rw [← HW1.out] at e; omega)
      | (simp at e; omega))
  have HRD4 := Lib.hid hrd
  have HGR4 : Hid (Only (fun q => q = w2.heap.size) W1 w4) := Lib.hid ((Only.of_grown hgrow).mono (fun q _ hq => by
    have : w2.heap.size = q := by simpa [Value.ownBlock] using hq
    omega))
  have HP4 : Hid (BoxV w4 w.heap.size (plV D F T G1 M1 B1 G2 M2 B2 a3 none 9 0 q3 0)) := Lib.hid (HP3.out.only HGR4.out (fun e => by have e' : w.heap.size = w2.heap.size := e; omega))
  have HRS4 : Hid (BoxV w4 (w.heap.size + 1) zerosP) := Lib.hid (HRS3.out.only HGR4.out (fun e => by have e' : w.heap.size + 1 = w2.heap.size := e; omega))
  have HO4 : Hid (Only (fun _ => False) w w4) := Lib.hid (HO3.out.then HGR4.out (fun q hq e => by have e' : q = w2.heap.size := e; omega))
  have HST4 : Hid (Only (fun q => q = w.heap.size) w4 (w4.setCell ⟨w.heap.size, 10, none⟩ (.slice a4 0 q4))) := Lib.hid (Only.set (fun q => q = w.heap.size) w4 w.heap.size 10 _ rfl)
  obtain ⟨W5, hW5⟩ : ∃ W5, W5 = w4.setCell ⟨w.heap.size, 10, none⟩ (.slice a4 0 q4) := ⟨_, rfl⟩
  have HP5 : Hid (BoxV W5 w.heap.size (plV D F T G1 M1 B1 G2 M2 B2 a3 a4 9 0 q3 q4)) := Lib.hid (by rw [hW5]; exact plan_set10 HP4.out a4 0 q4)
  have HRS5 : Hid (BoxV W5 (w.heap.size + 1) zerosP) := Lib.hid (by rw [hW5]; exact HRS4.out.only HST4.out (fun e => by have e' : w.heap.size + 1 = w.heap.size := e; omega))
  obtain ⟨W6, HP6, HO6, hW6⟩ := plan_put HRS5.out rfl D F T G1 M1 B1 G2 M2 B2 a3 a4 9 0 q3 q4
  obtain ⟨⟨u0, u1, u2, u3, u4, u5, u6, u7, u8, u9, u10⟩, f0, f1, f2, f3, f4, f5, f6, f7, f8, f9, f10⟩ := HP4.out.all
  obtain ⟨⟨p0, p1, p2, p3, p4, p5, p6, p7, p8, p9, p10⟩, _⟩ := HP5.out.all
  rw [hW5] at p0 p1 p2 p3 p4 p5 p6 p7 p8 p9 p10
  have z0 := (HRS5.out 0 _ rfl); have z1 := (HRS5.out 1 _ rfl); have z2 := (HRS5.out 2 _ rfl); have z3 := (HRS5.out 3 _ rfl); have z4 := (HRS5.out 4 _ rfl); have z5 := (HRS5.out 5 _ rfl)
  have z6 := (HRS5.out 6 _ rfl); have z7 := (HRS5.out 7 _ rfl); have z8 := (HRS5.out 8 _ rfl); have z9 := (HRS5.out 9 _ rfl); have z10 := (HRS5.out 10 _ rfl)
  rw [hW5] at z0 z1 z2 z3 z4 z5 z6 z7 z8 z9 z10
  obtain ⟨z0, y0⟩ := z0; obtain ⟨z1, y1⟩ := z1; obtain ⟨z2, y2⟩ := z2; obtain ⟨z3, y3⟩ := z3; obtain ⟨z4, y4⟩ := z4; obtain ⟨z5, y5⟩ := z5
  obtain ⟨z6, y6⟩ := z6; obtain ⟨z7, y7⟩ := z7; obtain ⟨z8, y8⟩ := z8; obtain ⟨z9, y9⟩ := z9; obtain ⟨z10, y10⟩ := z10
  clear hown hgrow hne hrd
  go_wp2_with fail
  clear p0 p1 p2 p3 p4 p5 p6 p7 p8 p9 p10
  obtain ⟨⟨p0, p1, p2, p3, p4, p5, p6, p7, p8, p9, p10⟩, _⟩ := HP6.all
  rw [← hW5, ← hW6]
  refine bodyPost_ret (v := .agg #[.int .i64 D, .int .i64 F, .int .i64 T, .int .i64 G1, .int .i64 M1, .int .i64 B1, .slice a3 9 q3, .int .i64 G2, .int .i64 M2, .int .i64 B2, .slice a4 0 q4]) (by simp [results, Try.results14, go_sem, p0, p1, p2, p3, p4, p5, p6, p7, p8, p9, p10]) rfl (HQ.out a3 a4 q3 q4 W6 ?_ ?_ ?_ (fun y hy => by have := HB3.out y hy; omega) (fun y hy => by have := HB4.out y hy; omega))
  · have h4 := (HX1.out.then HGR4.out (T := fun q => q = w2.heap.size) (fun q hq e => by have e' : q = w2.heap.size := e; omega)).trans HST4.out
    rw [← hW5] at h4
    exact (HRD2.out.only h4 (fun y hy e => by have := HB3.out y hy; have e' : y.block = w.heap.size := e; omega)).only HO6 (fun y hy e => by have := HB3.out y hy; have e' : y.block = w.heap.size + 1 := e; omega)
  · have h4 := HST4.out
    rw [← hW5] at h4
    exact (HRD4.out.only h4 (fun y hy e => by have := HB4.out y hy; have e' : y.block = w.heap.size := e; omega)).only HO6 (fun y hy e => by have := HB4.out y hy; have e' : y.block = w.heap.size + 1 := e; omega)
  · have h4 := HST4.out
    rw [← hW5] at h4
    exact (HO4.out.then h4 (fun q hq e => by have e' : q = w.heap.size := e; omega)).then HO6 (fun q hq e => by have e' : q = w.heap.size + 1 := e; omega)
set_option maxRecDepth 100000 in
set_option maxHeartbeats 1000000 in
theorem gtame_mm (D F T G1 M1 B1 G2 M2 B2 : Int) (x1 : Addr) (n1 c1 : Nat) (x2 : Addr) (n2 c2 : Nat) (t1 t2 : List Tr) (w : World) (Q : Ending → World → Prop) (h1 : (9 : Int) < n1) (k1 : (0 : Int) ≤ n1) (j1 : (9 : Int) ≤ c1) (i1 : (n1 : Int) ≤ c1) (h2 : (9 : Int) < n2) (k2 : (0 : Int) ≤ n2) (j2 : (9 : Int) ≤ c2) (i2 : (n2 : Int) ≤ c2) (hr1 : ReadsT w (some x1) 9 t1) (hr2 : ReadsT w (some x2) 9 t2)
    (hQ : ∀ a3 a4 q3 q4 w', ReadsT w' a3 9 t1 → ReadsT w' a4 9 t2 → Only (fun _ => False) w w' → (∀ y, a3 = some y → w.heap.size ≤ y.block) → (∀ y, a4 = some y → w.heap.size ≤ y.block) → Q (.returned (.agg #[.int .i64 D, .int .i64 F, .int .i64 T, .int .i64 G1, .int .i64 M1, .int .i64 B1, .slice a3 9 q3, .int .i64 G2, .int .i64 M2, .int .i64 B2, .slice a4 9 q4])) w') :
    Calls Try.prog 14 #[.agg #[.int .i64 D, .int .i64 F, .int .i64 T, .int .i64 G1, .int .i64 M1, .int .i64 B1, .slice (some x1) n1 c1, .int .i64 G2, .int .i64 M2, .int .i64 B2, .slice (some x2) n2 c2]] w Q := by
  go_enter Try.func14, Try.ntmps14
  obtain ⟨W0, hW0⟩ : ∃ W0, W0 = ((w.alloc (.cells #[.int .i64 D, .int .i64 F, .int .i64 T, .int .i64 G1, .int .i64 M1, .int .i64 B1, .slice (some x1) n1 c1, .int .i64 G2, .int .i64 M2, .int .i64 B2, .slice (some x2) n2 c2] 37)).alloc (.cells #[.int .i64 0, .int .i64 0, .int .i64 0, .int .i64 0, .int .i64 0, .int .i64 0, .slice none 0 0, .int .i64 0, .int .i64 0, .int .i64 0, .slice none 0 0] 37)).alloc (.cells #[] 91) := ⟨_, rfl⟩
  have HP : Hid (BoxV W0 w.heap.size (plV D F T G1 M1 B1 G2 M2 B2 (some x1) (some x2) n1 n2 c1 c2)) := Lib.hid (by rw [hW0]; exact (BoxV.new w (plV D F T G1 M1 B1 G2 M2 B2 (some x1) (some x2) n1 n2 c1 c2) _ _ rfl).only (((Only.refl (fun _ => False) _).alloc _).alloc _) (fun f => f))
  have HRS : Hid (BoxV W0 (w.heap.size + 1) zerosP ∧ W0.heap.size = w.heap.size + 3) := Lib.hid (by rw [hW0]; exact ⟨(BoxV.new (w.alloc _) zerosP _ _ (by simp)).only ((Only.refl (fun _ => False) _).alloc _) (fun f => f), by simp⟩)
  have HO0 : Hid (Only (fun _ => False) w W0) := Lib.hid (by rw [hW0]; exact (((Only.refl _ w).alloc _).alloc _).alloc _)
  have HOW : Hid (OwnT W0 (.slice (some ⟨w.heap.size + 1 + 1, 0, none⟩) 0 0) []) := Lib.hid (by
    rw [hW0]
    have := World.ownsRow_lit (base := 0) (e := 91) (size := 2) ((w.alloc (.cells #[.int .i64 D, .int .i64 F, .int .i64 T, .int .i64 G1, .int .i64 M1, .int .i64 B1, .slice (some x1) n1 c1, .int .i64 G2, .int .i64 M2, .int .i64 B2, .slice (some x2) n2 c2] 37)).alloc (.cells #[.int .i64 0, .int .i64 0, .int .i64 0, .int .i64 0, .int .i64 0, .int .i64 0, .slice none 0 0, .int .i64 0, .int .i64 0, .int .i64 0, .slice none 0 0] 37)) #[] 0 (by simp) (by decide) rfl
    rw [show ((w.alloc (.cells #[.int .i64 D, .int .i64 F, .int .i64 T, .int .i64 G1, .int .i64 M1, .int .i64 B1, .slice (some x1) n1 c1, .int .i64 G2, .int .i64 M2, .int .i64 B2, .slice (some x2) n2 c2] 37)).alloc (.cells #[.int .i64 0, .int .i64 0, .int .i64 0, .int .i64 0, .int .i64 0, .int .i64 0, .slice none 0 0, .int .i64 0, .int .i64 0, .int .i64 0, .slice none 0 0] 37)).heap.size = w.heap.size + 1 + 1 by simp] at this
    exact this)
  have HR1 := Lib.hid (hr1.only HO0.out (fun _ _ f => f))
  have HR2 := Lib.hid (hr2.only HO0.out (fun _ _ f => f))
  have HRW2 := Lib.hid hr2
  have HQ := Lib.hid hQ
  clear hr1 hr2 hQ
  obtain ⟨⟨p0, p1, p2, p3, p4, p5, p6, p7, p8, p9, p10⟩, _⟩ := HP.out.all
  rw [hW0] at p0 p1 p2 p3 p4 p5 p6 p7 p8 p9 p10
  go_wp2_with (at_builtin; rw [← hW0]; refine append_tiers rfl _ _ rfl _ [] rfl HOW.out _ _ _ t1 rfl HR1.out (by show 0 + 9 ≤ _; omega) ?_)
  clear p0 p1 p2 p3 p4 p5 p6 p7 p8 p9 p10
  have HW0 := Lib.hid hW0
  clear hW0
  intro v2 w2 hown hgrow hne
  obtain ⟨a3, q3, rfl, hrd⟩ := own_readsT3 hown (by simpa using HR1.out.2.2.1) (by have := HR1.out.1; simp; omega)
  have hl3 : t1.length = 9 := HR1.out.1
  rw [hl3] at hrd hown ⊢
  rw [← HW0.out] at hgrow
  have HB3 : Hid (∀ y, a3 = some y → w.heap.size + 2 ≤ y.block) := Lib.hid (by
    intro y hy
    rcases hne y.block (by rw [hy]; rfl) with e | e
    · have : w.heap.size + 1 + 1 = y.block := by simpa [Value.ownBlock] using e
      omega
    · have := HRS.out.2
      first
      | omega
      | (rw [← HW0.out] at e; omega)
      | (simp at e; omega))
  have HRD2 := Lib.hid hrd
  have HGR : Hid (Only (fun q => q = w.heap.size + 1 + 1) W0 w2) := Lib.hid ((Only.of_grown hgrow).mono (fun q _ hq => by
    have : w.heap.size + 1 + 1 = q := by simpa [Value.ownBlock] using hq
    omega))
  have hn1 : ¬ (w.heap.size = w.heap.size + 1 + 1) := by omega
  have HP2 : Hid (BoxV w2 w.heap.size (plV D F T G1 M1 B1 G2 M2 B2 (some x1) (some x2) n1 n2 c1 c2)) := Lib.hid (HP.out.only HGR.out hn1)
  have HRS2 : Hid (BoxV w2 (w.heap.size + 1) zerosP) := Lib.hid (HRS.out.1.only HGR.out (fun e => by have e' : w.heap.size + 1 = w.heap.size + 1 + 1 := e; omega))
  have HO2 : Hid (Only (fun _ => False) w w2) := Lib.hid (HO0.out.then HGR.out (fun q hq e => by have e' : q = w.heap.size + 1 + 1 := e; omega))
  have HST : Hid (Only (fun q => q = w.heap.size) w2 (w2.setCell ⟨w.heap.size, 6, none⟩ (.slice a3 9 q3))) := Lib.hid (Only.set (fun q => q = w.heap.size) w2 w.heap.size 6 _ rfl)
  obtain ⟨W1, hW1⟩ : ∃ W1, W1 = (w2.setCell ⟨w.heap.size, 6, none⟩ (.slice a3 9 q3)).alloc (.cells #[] 91) := ⟨_, rfl⟩
  have HP3 : Hid (BoxV W1 w.heap.size (plV D F T G1 M1 B1 G2 M2 B2 a3 (some x2) 9 n2 q3 c2)) := Lib.hid (by rw [hW1]; exact (plan_set6 HP2.out a3 9 q3).only ((Only.refl (fun _ => False) _).alloc _) (fun f => f))
  have HRS3 : Hid (BoxV W1 (w.heap.size + 1) zerosP) := Lib.hid (by rw [hW1]; exact (HRS2.out.only HST.out (fun e => by have e' : w.heap.size + 1 = w.heap.size := e; omega)).only ((Only.refl (fun _ => False) _).alloc _) (fun f => f))
  have HO3 : Hid (Only (fun _ => False) w W1) := Lib.hid (by rw [hW1]; exact (HO2.out.then HST.out (fun q hq e => by have e' : q = w.heap.size := e; omega)).alloc _)
  have HR23 : Hid (ReadsT W1 (some x2) 9 t2) := Lib.hid (HRW2.out.only HO3.out (fun _ _ f => f))
  have HX1 : Hid (Only (fun q => q = w.heap.size) w2 W1) := Lib.hid (by rw [hW1]; exact HST.out.alloc _)
  have HOW3 : Hid (OwnT W1 (.slice (some ⟨w2.heap.size, 0, none⟩) 0 0) []) := Lib.hid (by
    rw [hW1]
    have := World.ownsRow_lit (base := 0) (e := 91) (size := 2) (w2.setCell ⟨w.heap.size, 6, none⟩ (.slice a3 9 q3)) #[] 0 (by simp) (by decide) rfl
    rw [show (w2.setCell ⟨w.heap.size, 6, none⟩ (.slice a3 9 q3)).heap.size = w2.heap.size by simp] at this
    exact this)
  obtain ⟨⟨u0, u1, u2, u3, u4, u5, u6, u7, u8, u9, u10⟩, f0, f1, f2, f3, f4, f5, f6, f7, f8, f9, f10⟩ := HP2.out.all
  obtain ⟨⟨p0, p1, p2, p3, p4, p5, p6, p7, p8, p9, p10⟩, _⟩ := HP3.out.all
  rw [hW1] at p0 p1 p2 p3 p4 p5 p6 p7 p8 p9 p10
  clear hown hgrow hne hrd
  go_wp2_with (at_builtin; rw [← hW1]; refine append_tiers rfl _ _ rfl _ [] rfl HOW3.out _ _ _ t2 rfl HR23.out (by show 0 + 9 ≤ _; omega) ?_)
  intro v4 w4 hown hgrow hne
  rw [← hW1] at hgrow
  have HW1 := Lib.hid hW1
  clear p0 p1 p2 p3 p4 p5 p6 p7 p8 p9 p10 u0 u1 u2 u3 u4 u5 u6 u7 u8 u9 u10 f0 f1 f2 f3 f4 f5 f6 f7 f8 f9 f10 hW1
  have hsz2 : w.heap.size + 3 ≤ w2.heap.size := by have := HGR.out.size; have := HRS.out.2; omega
  obtain ⟨a4, q4, rfl, hrd⟩ := own_readsT3 hown (by simpa using HR2.out.2.2.1) (by have := HR2.out.1; simp; omega)
  have hl4 : t2.length = 9 := HR2.out.1
  rw [hl4] at hrd hown ⊢
  have HB4 : Hid (∀ y, a4 = some y → w.heap.size + 2 ≤ y.block) := Lib.hid (by
    intro y hy
    rcases hne y.block (by rw [hy]; rfl) with e | e
    · have : w2.heap.size = y.block := by simpa [Value.ownBlock] using e
      omega
    · have := HX1.out.size
      first
      | omega
      | (rw [← HW1.out] at e; omega)
      | (simp at e; omega))
  have HRD4 := Lib.hid hrd
  have HGR4 : Hid (Only (fun q => q = w2.heap.size) W1 w4) := Lib.hid ((Only.of_grown hgrow).mono (fun q _ hq => by
    have : w2.heap.size = q := by simpa [Value.ownBlock] using hq
    omega))
  have HP4 : Hid (BoxV w4 w.heap.size (plV D F T G1 M1 B1 G2 M2 B2 a3 (some x2) 9 n2 q3 c2)) := Lib.hid (HP3.out.only HGR4.out (fun e => by have e' : w.heap.size = w2.heap.size := e; omega))
  have HRS4 : Hid (BoxV w4 (w.heap.size + 1) zerosP) := Lib.hid (HRS3.out.only HGR4.out (fun e => by have e' : w.heap.size + 1 = w2.heap.size := e; omega))
  have HO4 : Hid (Only (fun _ => False) w w4) := Lib.hid (HO3.out.then HGR4.out (fun q hq e => by have e' : q = w2.heap.size := e; omega))
  have HST4 : Hid (Only (fun q => q = w.heap.size) w4 (w4.setCell ⟨w.heap.size, 10, none⟩ (.slice a4 9 q4))) := Lib.hid (Only.set (fun q => q = w.heap.size) w4 w.heap.size 10 _ rfl)
  obtain ⟨W5, hW5⟩ : ∃ W5, W5 = w4.setCell ⟨w.heap.size, 10, none⟩ (.slice a4 9 q4) := ⟨_, rfl⟩
  have HP5 : Hid (BoxV W5 w.heap.size (plV D F T G1 M1 B1 G2 M2 B2 a3 a4 9 9 q3 q4)) := Lib.hid (by rw [hW5]; exact plan_set10 HP4.out a4 9 q4)
  have HRS5 : Hid (BoxV W5 (w.heap.size + 1) zerosP) := Lib.hid (by rw [hW5]; exact HRS4.out.only HST4.out (fun e => by have e' : w.heap.size + 1 = w.heap.size := e; omega))
  obtain ⟨W6, HP6, HO6, hW6⟩ := plan_put HRS5.out rfl D F T G1 M1 B1 G2 M2 B2 a3 a4 9 9 q3 q4
  obtain ⟨⟨u0, u1, u2, u3, u4, u5, u6, u7, u8, u9, u10⟩, f0, f1, f2, f3, f4, f5, f6, f7, f8, f9, f10⟩ := HP4.out.all
  obtain ⟨⟨p0, p1, p2, p3, p4, p5, p6, p7, p8, p9, p10⟩, _⟩ := HP5.out.all
  rw [hW5] at p0 p1 p2 p3 p4 p5 p6 p7 p8 p9 p10
  have z0 := (HRS5.out 0 _ rfl); have z1 := (HRS5.out 1 _ rfl); have z2 := (HRS5.out 2 _ rfl); have z3 := (HRS5.out 3 _ rfl); have z4 := (HRS5.out 4 _ rfl); have z5 := (HRS5.out 5 _ rfl)
  have z6 := (HRS5.out 6 _ rfl); have z7 := (HRS5.out 7 _ rfl); have z8 := (HRS5.out 8 _ rfl); have z9 := (HRS5.out 9 _ rfl); have z10 := (HRS5.out 10 _ rfl)
  rw [hW5] at z0 z1 z2 z3 z4 z5 z6 z7 z8 z9 z10
  obtain ⟨z0, y0⟩ := z0; obtain ⟨z1, y1⟩ := z1; obtain ⟨z2, y2⟩ := z2; obtain ⟨z3, y3⟩ := z3; obtain ⟨z4, y4⟩ := z4; obtain ⟨z5, y5⟩ := z5
  obtain ⟨z6, y6⟩ := z6; obtain ⟨z7, y7⟩ := z7; obtain ⟨z8, y8⟩ := z8; obtain ⟨z9, y9⟩ := z9; obtain ⟨z10, y10⟩ := z10
  clear hown hgrow hne hrd
  go_wp2_with fail
  clear p0 p1 p2 p3 p4 p5 p6 p7 p8 p9 p10
  obtain ⟨⟨p0, p1, p2, p3, p4, p5, p6, p7, p8, p9, p10⟩, _⟩ := HP6.all
  rw [← hW5, ← hW6]
  refine bodyPost_ret (v := .agg #[.int .i64 D, .int .i64 F, .int .i64 T, .int .i64 G1, .int .i64 M1, .int .i64 B1, .slice a3 9 q3, .int .i64 G2, .int .i64 M2, .int .i64 B2, .slice a4 9 q4]) (by simp [results, Try.results14, go_sem, p0, p1, p2, p3, p4, p5, p6, p7, p8, p9, p10]) rfl (HQ.out a3 a4 q3 q4 W6 ?_ ?_ ?_ (fun y hy => by have := HB3.out y hy; omega) (fun y hy => by have := HB4.out y hy; omega))
  · have h4 := (HX1.out.then HGR4.out (T := fun q => q = w2.heap.size) (fun q hq e => by have e' : q = w2.heap.size := e; omega)).trans HST4.out
    rw [← hW5] at h4
    exact (HRD2.out.only h4 (fun y hy e => by have := HB3.out y hy; have e' : y.block = w.heap.size := e; omega)).only HO6 (fun y hy e => by have := HB3.out y hy; have e' : y.block = w.heap.size + 1 := e; omega)
  · have h4 := HST4.out
    rw [← hW5] at h4
    exact (HRD4.out.only h4 (fun y hy e => by have := HB4.out y hy; have e' : y.block = w.heap.size := e; omega)).only HO6 (fun y hy e => by have := HB4.out y hy; have e' : y.block = w.heap.size + 1 := e; omega)
  · have h4 := HST4.out
    rw [← hW5] at h4
    exact (HO4.out.then h4 (fun q hq e => by have e' : q = w.heap.size := e; omega)).then HO6 (fun q hq e => by have e' : q = w.heap.size + 1 := e; omega)
end Go.Proofs.Ytghajamcjcflaaa.tirw

namespace Go.Proofs.Ytghajamcjcflaaa.tirw
open Go.RowKit mem tirm intm bigm bigw
set_option linter.unusedVariables false
theorem gtame_any (D F T G1 M1 B1 G2 M2 B2 : Int) (a1 a2 : Option Addr) (n1 n2 c1 c2 : Nat) (t1 t2 : List Tr) (w : World) (h1 : TiersR w a1 n1 c1 t1) (h2 : TiersR w a2 n2 c2 t2) :
    Calls Try.prog 14 #[.agg #[.int .i64 D, .int .i64 F, .int .i64 T, .int .i64 G1, .int .i64 M1, .int .i64 B1, .slice a1 n1 c1, .int .i64 G2, .int .i64 M2, .int .i64 B2, .slice a2 n2 c2]] w (PTame D F T G1 M1 B1 G2 M2 B2 (t1.take (min n1 9)) (t2.take (min n2 9)) w) := by
  have hm : min (0 : Int) 9 = 0 := by decide
  rcases three h1 with ⟨rfl, rfl, rfl, e1⟩ | ⟨x1, rfl, ⟨p1, p2, p3, p4, p5⟩ | ⟨p1, p2, p3, p6, p4, p5⟩⟩
  · rcases three h2 with ⟨rfl, rfl, rfl, e2⟩ | ⟨x2, rfl, ⟨q1, q2, q3, q4, q5⟩ | ⟨q1, q2, q3, q6, q4, q5⟩⟩
    · rw [e1, e2]
      exact gtame_nn D F T G1 M1 B1 G2 M2 B2 [] [] w _ hm hm (ReadsT.nil _ _) (ReadsT.nil _ _) (ptame_mk rfl rfl)
    · rw [e1]
      exact gtame_nl D F T G1 M1 B1 G2 M2 B2 x2 n2 c2 [] _ w _ hm q1 q2 q3 (ReadsT.nil _ _) q4 (ptame_mk rfl q5)
    · rw [e1]
      exact gtame_nm D F T G1 M1 B1 G2 M2 B2 x2 n2 c2 [] _ w _ hm q1 q2 q3 q6 (ReadsT.nil _ _) q4 (ptame_mk rfl q5)
  · rcases three h2 with ⟨rfl, rfl, rfl, e2⟩ | ⟨x2, rfl, ⟨q1, q2, q3, q4, q5⟩ | ⟨q1, q2, q3, q6, q4, q5⟩⟩
    · rw [e2]
      exact gtame_ln D F T G1 M1 B1 G2 M2 B2 x1 n1 c1 _ [] w _ p1 p2 p3 hm p4 (ReadsT.nil _ _) (ptame_mk p5 rfl)
    · exact gtame_ll D F T G1 M1 B1 G2 M2 B2 x1 n1 c1 x2 n2 c2 _ _ w _ p1 p2 p3 q1 q2 q3 p4 q4 (ptame_mk p5 q5)
    · exact gtame_lm D F T G1 M1 B1 G2 M2 B2 x1 n1 c1 x2 n2 c2 _ _ w _ p1 p2 p3 q1 q2 q3 q6 p4 q4 (ptame_mk p5 q5)
  · rcases three h2 with ⟨rfl, rfl, rfl, e2⟩ | ⟨x2, rfl, ⟨q1, q2, q3, q4, q5⟩ | ⟨q1, q2, q3, q6, q4, q5⟩⟩
    · rw [e2]
      exact gtame_mn D F T G1 M1 B1 G2 M2 B2 x1 n1 c1 _ [] w _ p1 p2 p3 p6 hm p4 (ReadsT.nil _ _) (ptame_mk p5 rfl)
    · exact gtame_ml D F T G1 M1 B1 G2 M2 B2 x1 n1 c1 x2 n2 c2 _ _ w _ p1 p2 p3 p6 q1 q2 q3 p4 q4 (ptame_mk p5 q5)
    · exact gtame_mm D F T G1 M1 B1 G2 M2 B2 x1 n1 c1 x2 n2 c2 _ _ w _ p1 p2 p3 p6 q1 q2 q3 q6 p4 q4 (ptame_mk p5 q5)


set_option maxRecDepth 100000 in
set_option maxHeartbeats 1000000 in
theorem gto_any (D F T G1 M1 B1 G2 M2 B2 : Int) (a1 a2 : Option Addr) (n1 n2 c1 c2 : Nat) (w : World) : Calls Try.prog 15 #[.agg #[.int .i64 D, .int .i64 F, .int .i64 T, .int .i64 G1, .int .i64 M1, .int .i64 B1, .slice a1 n1 c1, .int .i64 G2, .int .i64 M2, .int .i64 B2, .slice a2 n2 c2]] w fun e w' => e = .returned (.agg #[.int .i64 D, .int .i64 F, .int .i64 T, .int .i64 G1, .int .i64 M1, .int .i64 B1, .slice a1 n1 c1, .int .i64 G2, .int .i64 M2, .int .i64 B2, .slice a2 n2 c2]) ∧ Only (fun _ => False) w w' := by
  go_enter Try.func15, Try.ntmps15
  obtain ⟨p0, p1, p2, p3, p4, p5, p6, p7, p8, p9, p10⟩ := (PlanAt.new (w := w) D F T G1 M1 B1 G2 M2 B2 a1 a2 n1 n2 c1 c2 37).only ((Only.refl (fun _ => False) _).alloc (.cells #[.int .i64 0, .int .i64 0, .int .i64 0, .int .i64 0, .int .i64 0, .int .i64 0, .slice none 0 0, .int .i64 0, .int .i64 0, .int .i64 0, .slice none 0 0] 39)) (fun f => f)
  go_wp2_with fail
  refine bodyPost_ret (v := .agg #[.int .i64 D, .int .i64 F, .int .i64 T, .int .i64 G1, .int .i64 M1, .int .i64 B1, .slice a1 n1 c1, .int .i64 G2, .int .i64 M2, .int .i64 B2, .slice a2 n2 c2]) (by simp [results, Try.results15, go_sem]) rfl ⟨rfl, ((Only.refl _ w).alloc _).alloc _⟩

end Go.Proofs.Ytghajamcjcflaaa.tirw

