/- RateSteady's walk. -/
import Derived.Test.YtonacdjaimokeaaRatX
import Derived.Test.YtonacdjaimokeaaRatIs
import Derived.Deep.RegionHeld3
import Derived.Deep.RegionWith
namespace Go.Proofs.Ytonacdjaimokeaa.tirw
open Go.RowKit mem tirm intm bigm bigw
set_option linter.unusedVariables false

theorem ra_steady {D F T G1 M1 B1 G2 M2 B2 : Int} {t1 t2 : List Tr} {now later : Int} (pos u : Int) (h0 : 0 ≤ now) (h1 : 0 ≤ later) (hi : isO D F T now = isO D F T later) : raL D F T G1 M1 B1 G2 M2 B2 t1 t2 later pos u = raL D F T G1 M1 B1 G2 M2 B2 t1 t2 now pos u ∧ raK D F T G1 M1 B1 G2 M2 B2 t1 t2 later pos u = raK D F T G1 M1 B1 G2 M2 B2 t1 t2 now pos u ∧ raP D F T G1 M1 B1 G2 M2 B2 t1 t2 later pos u = raP D F T G1 M1 B1 G2 M2 B2 t1 t2 now pos u ∧ raE D F T G1 M1 B1 G2 M2 B2 t1 t2 later pos u = raE D F T G1 M1 B1 G2 M2 B2 t1 t2 now pos u := by
  have hn : RatNo D F T G1 M1 B1 G2 M2 B2 t1 t2 later pos u ↔ RatNo D F T G1 M1 B1 G2 M2 B2 t1 t2 now pos u := by
    unfold RatNo
    constructor
    · rintro (e | e)
      · omega
      · exact .inr e
    · rintro (e | e)
      · omega
      · exact .inr e
  by_cases h : RatNo D F T G1 M1 B1 G2 M2 B2 t1 t2 now pos u
  · obtain ⟨e1, e2, e3, e4⟩ := ra_no h
    obtain ⟨f1, f2, f3, f4⟩ := ra_no (hn.2 h)
    rw [e1, e2, e3, e4, f1, f2, f3, f4]
    exact ⟨rfl, rfl, rfl, rfl⟩
  · have h' : ¬ RatNo D F T G1 M1 B1 G2 M2 B2 t1 t2 later pos u := fun e => h (hn.1 e)
    unfold raL raK raP raE
    rw [if_neg h, if_neg h, if_neg h, if_neg h, if_neg h', if_neg h', if_neg h', if_neg h', hi]
    exact ⟨rfl, rfl, rfl, rfl⟩
set_option maxRecDepth 100000 in
set_option maxHeartbeats 4000000 in
theorem rsteady_any (D F T G1 M1 B1 G2 M2 B2 : Int) (a1 a2 : Option Addr) (n1 n2 c1 c2 : Nat) (t1 t2 : List Tr) (now pos u cr later : Int) (w : World) (h1 : TiersR w a1 n1 c1 t1) (h2 : TiersR w a2 n2 c2 t2) (hx : now ≤ 9223372036854775807) (hy : later ≤ 9223372036854775807) :
    Calls Try.prog 7 #[.agg #[.int .i64 D, .int .i64 F, .int .i64 T, .int .i64 G1, .int .i64 M1, .int .i64 B1, .slice a1 n1 c1, .int .i64 G2, .int .i64 M2, .int .i64 B2, .slice a2 n2 c2], .agg #[.int .i64 now, .int .i64 pos, .int .i64 u, .int .i64 cr], .int .i64 later] w fun e w' => e = .returned (.bool true) ∧ Only (fun _ => False) w w' := by
  obtain ⟨W0, hW0⟩ : ∃ W0, W0 = (w.alloc (.cells #[.int .i64 D, .int .i64 F, .int .i64 T, .int .i64 G1, .int .i64 M1, .int .i64 B1, .slice a1 n1 c1, .int .i64 G2, .int .i64 M2, .int .i64 B2, .slice a2 n2 c2] 26)).alloc (.cells #[.int .i64 now, .int .i64 pos, .int .i64 u, .int .i64 cr] 28) := ⟨_, rfl⟩
  have HO0 : Hid (Only (fun _ => False) w W0 ∧ W0.heap.size = w.heap.size + 2) := Lib.hid (by rw [hW0]; exact ⟨((Only.refl _ w).alloc _).alloc _, by simp⟩)
  have HP : Hid (BoxV W0 w.heap.size (plV D F T G1 M1 B1 G2 M2 B2 a1 a2 n1 n2 c1 c2)) := Lib.hid (by rw [hW0]; exact (BoxV.new w (plV D F T G1 M1 B1 G2 M2 B2 a1 a2 n1 n2 c1 c2) _ _ rfl).only ((Only.refl (fun _ => False) _).alloc _) (fun f => f))
  have HA : Hid (BoxV W0 (w.heap.size + 1) [.int .i64 now, .int .i64 pos, .int .i64 u, .int .i64 cr]) := Lib.hid (by rw [hW0]; exact BoxV.new _ [.int .i64 now, .int .i64 pos, .int .i64 u, .int .i64 cr] _ _ (by simp))
  have HTM := Lib.hid (ptame_any D F T G1 M1 B1 G2 M2 B2 a1 a2 n1 n2 c1 c2 t1 t2 W0 (h1.only HO0.out.1) (h2.only HO0.out.1))
  clear h1 h2
  generalize t1.take (min n1 9) = s1 at *
  generalize t2.take (min n2 9) = s2 at *
  go_enter Try.func7, Try.ntmps7
  obtain ⟨⟨p0, p1, p2, p3, p4, p5, p6, p7, p8, p9, p10⟩, _⟩ := HP.out.all
  rw [hW0] at p0 p1 p2 p3 p4 p5 p6 p7 p8 p9 p10
  go_wp2_with fail
  rw [← hW0]
  clear hW0 p0 p1 p2 p3 p4 p5 p6 p7 p8 p9 p10
  refine HTM.out.mono ?_
  rintro _ w1 ⟨a3, a4, q3, q4, rfl, hr3, hr4, k1, hb3, hb4⟩
  have HB1 := HP.out.only k1 (fun f => f)
  obtain ⟨W2, HP2, HO2, hW2⟩ := plan_put HB1 rfl D F T G1 M1 B1 G2 M2 B2 a3 a4 s1.length s2.length q3 q4
  have HR3 : Hid (ReadsT W2 a3 s1.length s1) := Lib.hid (hr3.only HO2 (fun y hy e => by have := hb3 y hy; have := HO0.out.2; have e' : y.block = w.heap.size := e; omega))
  have HR4 : Hid (ReadsT W2 a4 s2.length s2) := Lib.hid (hr4.only HO2 (fun y hy e => by have := hb4 y hy; have := HO0.out.2; have e' : y.block = w.heap.size := e; omega))
  have HOW : Hid (Only (fun _ => False) w W2) := Lib.hid ((HO0.out.1.trans k1).then HO2 (fun q hq e => by have e' : q = w.heap.size := e; omega))
  have HA2 : Hid (BoxV W2 (w.heap.size + 1) [.int .i64 now, .int .i64 pos, .int .i64 u, .int .i64 cr]) := Lib.hid ((HA.out.only k1 (fun f => f)).only HO2 (fun e => by have e' : w.heap.size + 1 = w.heap.size := e; omega))
  have HPB := Lib.hid HP2
  have HTO := Lib.hid (fun w' => to_any D F T G1 M1 B1 G2 M2 B2 a3 a4 s1.length s2.length q3 q4 w')
  have HCK := Lib.hid (fun w' (ho : Only (fun _ => False) W2 w') => rcplan_any D F T G1 M1 B1 G2 M2 B2 a3 a4 s1.length s2.length q3 q4 s1 s2 w' (HR3.out.only ho (fun _ _ f => f)) (HR4.out.only ho (fun _ _ f => f)))
  have HRT := Lib.hid (fun n hn w' (ho : Only (fun _ => False) W2 w') => rate_any D F T G1 M1 B1 G2 M2 B2 a3 a4 s1.length s2.length q3 q4 s1 s2 n pos u w' (HR3.out.only ho (fun _ _ f => f)) (HR4.out.only ho (fun _ _ f => f)) hn)
  have HIS := Lib.hid (fun n (h0 : 0 ≤ n) hn hD w' => ris_any D F T G1 M1 B1 G2 M2 B2 a3 a4 s1.length s2.length q3 q4 n h0 hn hD w')
  have HXY : Hid (now ≤ 9223372036854775807 ∧ later ≤ 9223372036854775807) := Lib.hid ⟨hx, hy⟩
  clear hx hy
  obtain ⟨⟨z0, z1, z2, z3, z4, z5, z6, z7, z8, z9, z10⟩, y0, y1, y2, y3, y4, y5, y6, y7, y8, y9, y10⟩ := HB1.all
  obtain ⟨⟨p0, p1, p2, p3, p4, p5, p6, p7, p8, p9, p10⟩, _⟩ := HP2.all
  rw [hW2] at p0 p1 p2 p3 p4 p5 p6 p7 p8 p9 p10
  clear hr3 hr4 k1 hb3 hb4 HB1 HO2 HP2
  go_wp2_with fail
  rw [← hW2]
  clear hW2 p0 p1 p2 p3 p4 p5 p6 p7 p8 p9 p10 z0 z1 z2 z3 z4 z5 z6 z7 z8 z9 z10 y0 y1 y2 y3 y4 y5 y6 y7 y8 y9 y10
  have HS : Hid (∀ w', Only (fun _ => False) W2 w' → Only (fun _ => False) W2 w' ∧ w'.cell? ⟨w.heap.size, 0, none⟩ = some (.int .i64 D) ∧ w'.cell? ⟨w.heap.size, 1, none⟩ = some (.int .i64 F) ∧ w'.cell? ⟨w.heap.size, 2, none⟩ = some (.int .i64 T) ∧ w'.cell? ⟨w.heap.size, 3, none⟩ = some (.int .i64 G1) ∧ w'.cell? ⟨w.heap.size, 4, none⟩ = some (.int .i64 M1) ∧ w'.cell? ⟨w.heap.size, 5, none⟩ = some (.int .i64 B1) ∧ w'.cell? ⟨w.heap.size, 6, none⟩ = some (.slice a3 s1.length q3) ∧ w'.cell? ⟨w.heap.size, 7, none⟩ = some (.int .i64 G2) ∧ w'.cell? ⟨w.heap.size, 8, none⟩ = some (.int .i64 M2) ∧ w'.cell? ⟨w.heap.size, 9, none⟩ = some (.int .i64 B2) ∧ w'.cell? ⟨w.heap.size, 10, none⟩ = some (.slice a4 s2.length q4) ∧ w'.cell? ⟨w.heap.size + 1, 0, none⟩ = some (.int .i64 now) ∧ w'.cell? ⟨w.heap.size + 1, 1, none⟩ = some (.int .i64 pos) ∧ w'.cell? ⟨w.heap.size + 1, 2, none⟩ = some (.int .i64 u)) := Lib.hid (fun w' ho => by
    obtain ⟨⟨p0, p1, p2, p3, p4, p5, p6, p7, p8, p9, p10⟩, _⟩ := (HPB.out.only ho (fun f => f)).all
    have hA := HA2.out.only ho (fun f => f)
    exact ⟨ho, p0, p1, p2, p3, p4, p5, p6, p7, p8, p9, p10, (hA 0 _ rfl).1, (hA 1 _ rfl).1, (hA 2 _ rfl).1⟩)
  have HNEW : Hid (∀ (W W' : World), Only (fun _ => False) ((W.alloc (.cells #[.slice none 0 0, .int .i64 0, .int .i64 0, .int .i64 0] 34)).drew) W' → Zr4 W' W.heap.size) := Lib.hid (fun W W' ho => (Zr4.new W _).only ((Only.refl (fun _ => False) _).drew.trans ho) (fun f => f))
  have HNEW2 : Hid (∀ (W W' : World), Only (fun _ => False) (W.alloc (.cells #[.slice none 0 0, .int .i64 0, .int .i64 0, .int .i64 0] 34)) W' → Zr4 W' W.heap.size) := Lib.hid (fun W W' ho => (Zr4.new W _).only ho (fun f => f))
  by_cases hc : pchk D F T G1 M1 B1 G2 M2 B2 s1 s2 = 0
  rotate_left
  · have hb : (pchk D F T G1 M1 B1 G2 M2 B2 s1 s2 != 0) = true := by simpa using hc
    generalize pchk D F T G1 M1 B1 G2 M2 B2 s1 s2 = c at *
    clear hc HRT HIS HNEW HNEW2
    refine wp_region_noPanic ?_
    refine wp_region_held_drew (S := (fun w' => Only (fun _ => False) W2 w' ∧ w'.cell? ⟨w.heap.size, 0, none⟩ = some (.int .i64 D) ∧ w'.cell? ⟨w.heap.size, 1, none⟩ = some (.int .i64 F) ∧ w'.cell? ⟨w.heap.size, 2, none⟩ = some (.int .i64 T) ∧ w'.cell? ⟨w.heap.size, 3, none⟩ = some (.int .i64 G1) ∧ w'.cell? ⟨w.heap.size, 4, none⟩ = some (.int .i64 M1) ∧ w'.cell? ⟨w.heap.size, 5, none⟩ = some (.int .i64 B1) ∧ w'.cell? ⟨w.heap.size, 6, none⟩ = some (.slice a3 s1.length q3) ∧ w'.cell? ⟨w.heap.size, 7, none⟩ = some (.int .i64 G2) ∧ w'.cell? ⟨w.heap.size, 8, none⟩ = some (.int .i64 M2) ∧ w'.cell? ⟨w.heap.size, 9, none⟩ = some (.int .i64 B2) ∧ w'.cell? ⟨w.heap.size, 10, none⟩ = some (.slice a4 s2.length q4) ∧ w'.cell? ⟨w.heap.size + 1, 0, none⟩ = some (.int .i64 now) ∧ w'.cell? ⟨w.heap.size + 1, 1, none⟩ = some (.int .i64 pos) ∧ w'.cell? ⟨w.heap.size + 1, 2, none⟩ = some (.int .i64 u))) (by kernel_rfl) (HS.out _ (Only.refl _ _).drew) (fun hHeld => ?_)
    refine wpAnyH_ready (rs := [0]) (by kernel_rfl) (by simp) ?_
    refine AllReadyH.cons rfl (fun K hK => ?_) AllReadyH.nil
    try simp only [List.getElem_toArray, List.getElem_cons_zero]
    go_simp
    go_at_call 23
    (with_reducible refine (rates_any _).mono ?_)
    rintro _ wn ⟨rfl, ho⟩
    have hot := Lib.hid ((Only.refl (fun _ => False) W2).drew.trans ho)
    clear ho
    try dsimp only
    refine hK.out _ _ (HS.out _ hot.out) (fun hHeld2 => ?_)
    clear hK K
    try simp only [List.getElem_toArray, List.getElem_cons_zero, Act.put, List.setIfInBounds_toArray, List.set_cons_zero, List.set_cons_succ]
    refine wpAnyH_take (i := 1) (v := ?_) rfl (by kernel_rfl) (by kernel_rfl) (by kernel_rfl) (fun _ _ _ h => h) (Or.inl ⟨by rfl, ?_⟩) (by assumption) ?_
    rotate_left 1
    · intro w' hSw
      try dsimp only at hSw
      go_simp
      try with_reducible rfl
    try simp only [List.getElem_toArray, List.getElem_cons_zero, List.getElem_cons_succ, Act.put, List.setIfInBounds_toArray, List.set_cons_zero, List.set_cons_succ]
    refine wpAnyH_take (i := 2) (v := ?_) rfl (by kernel_rfl) (by kernel_rfl) (by kernel_rfl) (fun _ _ _ h => h) (Or.inl ⟨by rfl, ?_⟩) (by assumption) ?_
    rotate_left 1
    · intro w' hSw
      try dsimp only at hSw
      go_simp
      try with_reducible rfl
    try simp only [List.getElem_toArray, List.getElem_cons_zero, List.getElem_cons_succ, Act.put, List.setIfInBounds_toArray, List.set_cons_zero, List.set_cons_succ]
    refine wpAnyH_take (i := 3) (v := ?_) rfl (by kernel_rfl) (by kernel_rfl) (by kernel_rfl) (fun _ _ _ h => h) (Or.inl ⟨by rfl, ?_⟩) (by assumption) ?_
    rotate_left 1
    · intro w' hSw
      try dsimp only at hSw
      go_simp
      try with_reducible rfl
    try simp only [List.getElem_toArray, List.getElem_cons_zero, List.getElem_cons_succ, Act.put, List.setIfInBounds_toArray, List.set_cons_zero, List.set_cons_succ]
    refine wpAnyH_ready (rs := [4]) (by kernel_rfl) (by simp) ?_
    refine AllReadyH.cons rfl (fun K hK => ?_) AllReadyH.nil
    try simp only [List.getElem_toArray, List.getElem_cons_zero, List.getElem_cons_succ]
    go_simp
    go_at_call 26
    (with_reducible refine (HCK.out _ hot.out).mono ?_)
    rintro _ wm ⟨rfl, ho⟩
    have hot := Lib.hid (hot.out.trans ho)
    clear ho
    try dsimp only
    refine hK.out _ _ (HS.out _ hot.out) (fun hHeld3 => ?_)
    clear hK K
    try simp only [List.getElem_toArray, List.getElem_cons_zero, List.getElem_cons_succ, Act.put, List.setIfInBounds_toArray, List.set_cons_zero, List.set_cons_succ]
    refine wpAnyH_take (i := 5) (v := ?_) rfl (by kernel_rfl) (by kernel_rfl) (by kernel_rfl) (fun _ _ _ h => h) (Or.inl ⟨by rfl, ?_⟩) (by assumption) ?_
    rotate_left 1
    · intro w' hSw
      try dsimp only at hSw
      go_simp
      try with_reducible rfl
    try simp only [List.getElem_toArray, List.getElem_cons_zero, List.getElem_cons_succ, Act.put, List.setIfInBounds_toArray, List.set_cons_zero, List.set_cons_succ]
    refine wpAnyH_take (i := 6) (v := ?_) rfl (by kernel_rfl) (by kernel_rfl) (by kernel_rfl) (fun _ _ _ h => h) (Or.inl ⟨by rfl, ?_⟩) (by assumption) ?_
    rotate_left 1
    · intro w' hSw
      try dsimp only at hSw
      go_simp
      try with_reducible rfl
    try simp only [List.getElem_toArray, List.getElem_cons_zero, List.getElem_cons_succ, Act.put, List.setIfInBounds_toArray, List.set_cons_zero, List.set_cons_succ]
    refine wpAnyH_take (i := 7) (v := ?_) rfl (by kernel_rfl) (by kernel_rfl) (by kernel_rfl) (fun _ _ _ h => h) (Or.inl ⟨by rfl, ?_⟩) (by assumption) ?_
    rotate_left 1
    · intro w' hSw
      try dsimp only at hSw
      go_simp
      try with_reducible rfl
    try simp only [List.getElem_toArray, List.getElem_cons_zero, List.getElem_cons_succ, Act.put, List.setIfInBounds_toArray, List.set_cons_zero, List.set_cons_succ]
    refine wpAnyH_take (i := 8) (v := undef) rfl (by kernel_rfl) (by kernel_rfl) (by kernel_rfl) (fun _ _ _ h => h) (Or.inr ⟨rfl, rfl⟩) (by assumption) ?_
    try simp only [List.getElem_toArray, List.getElem_cons_zero, List.getElem_cons_succ, Act.put, List.setIfInBounds_toArray, List.set_cons_zero, List.set_cons_succ]
    refine wpAnyH_take (i := 9) (v := undef) rfl (by kernel_rfl) (by kernel_rfl) (by kernel_rfl) (fun _ _ _ h => h) (Or.inr ⟨rfl, rfl⟩) (by assumption) ?_
    try simp only [List.getElem_toArray, List.getElem_cons_zero, List.getElem_cons_succ, Act.put, List.setIfInBounds_toArray, List.set_cons_zero, List.set_cons_succ]
    refine wpAnyH_take (i := 10) (v := undef) rfl (by kernel_rfl) (by kernel_rfl) (by kernel_rfl) (fun _ _ _ h => h) (Or.inr ⟨rfl, rfl⟩) (by assumption) ?_
    try simp only [List.getElem_toArray, List.getElem_cons_zero, List.getElem_cons_succ, Act.put, List.setIfInBounds_toArray, List.set_cons_zero, List.set_cons_succ]
    refine wpAnyH_take (i := 11) (v := ?_) rfl (by kernel_rfl) (by kernel_rfl) (by kernel_rfl) (fun _ _ _ h => h) (Or.inl ⟨by rfl, ?_⟩) (by assumption) ?_
    rotate_left 1
    · intro w' hSw
      try dsimp only at hSw
      go_simp
      try with_reducible rfl
    try simp only [List.getElem_toArray, List.getElem_cons_zero, List.getElem_cons_succ, Act.put, List.setIfInBounds_toArray, List.set_cons_zero, List.set_cons_succ]
    refine wpAnyH_take (i := 12) (v := ?_) rfl (by kernel_rfl) (by kernel_rfl) (by kernel_rfl) (fun _ _ _ h => h) (Or.inl ⟨by rfl, ?_⟩) (by assumption) ?_
    rotate_left 1
    · intro w' hSw
      try dsimp only at hSw
      go_simp
      try with_reducible rfl
    try simp only [List.getElem_toArray, List.getElem_cons_zero, List.getElem_cons_succ, Act.put, List.setIfInBounds_toArray, List.set_cons_zero, List.set_cons_succ]
    refine wpAnyH_take (i := 13) (v := undef) rfl (by kernel_rfl) (by kernel_rfl) (by kernel_rfl) (fun _ _ _ h => h) (Or.inr ⟨rfl, rfl⟩) (by assumption) ?_
    try simp only [List.getElem_toArray, List.getElem_cons_zero, List.getElem_cons_succ, Act.put, List.setIfInBounds_toArray, List.set_cons_zero, List.set_cons_succ]
    refine wpAnyH_take (i := 14) (v := undef) rfl (by kernel_rfl) (by kernel_rfl) (by kernel_rfl) (fun _ _ _ h => h) (Or.inr ⟨rfl, rfl⟩) (by assumption) ?_
    try simp only [List.getElem_toArray, List.getElem_cons_zero, List.getElem_cons_succ, Act.put, List.setIfInBounds_toArray, List.set_cons_zero, List.set_cons_succ]
    refine wpAnyH_take (i := 15) (v := ?_) rfl (by kernel_rfl) (by kernel_rfl) (by kernel_rfl) (fun _ _ _ h => h) (Or.inl ⟨by rfl, ?_⟩) (by assumption) ?_
    rotate_left 1
    · intro w' hSw
      try dsimp only at hSw
      go_simp
      try with_reducible rfl
    try simp only [List.getElem_toArray, List.getElem_cons_zero, List.getElem_cons_succ, Act.put, List.setIfInBounds_toArray, List.set_cons_zero, List.set_cons_succ]
    refine wpAnyH_take (i := 16) (v := ?_) rfl (by kernel_rfl) (by kernel_rfl) (by kernel_rfl) (fun _ _ _ h => h) (Or.inl ⟨by rfl, ?_⟩) (by assumption) ?_
    rotate_left 1
    · intro w' hSw
      try dsimp only at hSw
      go_simp
      try with_reducible rfl
    try simp only [List.getElem_toArray, List.getElem_cons_zero, List.getElem_cons_succ, Act.put, List.setIfInBounds_toArray, List.set_cons_zero, List.set_cons_succ]
    refine wpAnyH_take (i := 17) (v := undef) rfl (by kernel_rfl) (by kernel_rfl) (by kernel_rfl) (fun _ _ _ h => h) (Or.inr ⟨rfl, rfl⟩) (by assumption) ?_
    try simp only [List.getElem_toArray, List.getElem_cons_zero, List.getElem_cons_succ, Act.put, List.setIfInBounds_toArray, List.set_cons_zero, List.set_cons_succ]
    refine wpAnyH_take (i := 18) (v := undef) rfl (by kernel_rfl) (by kernel_rfl) (by kernel_rfl) (fun _ _ _ h => h) (Or.inr ⟨rfl, rfl⟩) (by assumption) ?_
    try simp only [List.getElem_toArray, List.getElem_cons_zero, List.getElem_cons_succ, Act.put, List.setIfInBounds_toArray, List.set_cons_zero, List.set_cons_succ]
    refine wpAnyH_take (i := 19) (v := undef) rfl (by kernel_rfl) (by kernel_rfl) (by kernel_rfl) (fun _ _ _ h => h) (Or.inr ⟨rfl, rfl⟩) (by assumption) ?_
    try simp only [List.getElem_toArray, List.getElem_cons_zero, List.getElem_cons_succ, Act.put, List.setIfInBounds_toArray, List.set_cons_zero, List.set_cons_succ]
    refine wpAnyH_take (i := 20) (v := undef) rfl (by kernel_rfl) (by kernel_rfl) (by kernel_rfl) (fun _ _ _ h => h) (Or.inr ⟨rfl, rfl⟩) (by assumption) ?_
    try simp only [List.getElem_toArray, List.getElem_cons_zero, List.getElem_cons_succ, Act.put, List.setIfInBounds_toArray, List.set_cons_zero, List.set_cons_succ]
    refine wpAnyH_take (i := 21) (v := undef) rfl (by kernel_rfl) (by kernel_rfl) (by kernel_rfl) (fun _ _ _ h => h) (Or.inr ⟨rfl, rfl⟩) (by assumption) ?_
    try simp only [List.getElem_toArray, List.getElem_cons_zero, List.getElem_cons_succ, Act.put, List.setIfInBounds_toArray, List.set_cons_zero, List.set_cons_succ]
    refine wpAnyH_take (i := 22) (v := undef) rfl (by kernel_rfl) (by kernel_rfl) (by kernel_rfl) (fun _ _ _ h => h) (Or.inr ⟨rfl, rfl⟩) (by assumption) ?_
    try simp only [List.getElem_toArray, List.getElem_cons_zero, List.getElem_cons_succ, Act.put, List.setIfInBounds_toArray, List.set_cons_zero, List.set_cons_succ]
    refine wpAnyH_take (i := 23) (v := undef) rfl (by kernel_rfl) (by kernel_rfl) (by kernel_rfl) (fun _ _ _ h => h) (Or.inr ⟨rfl, rfl⟩) (by assumption) ?_
    try simp only [List.getElem_toArray, List.getElem_cons_zero, List.getElem_cons_succ, Act.put, List.setIfInBounds_toArray, List.set_cons_zero, List.set_cons_succ]
    refine wpAnyH_take (i := 24) (v := undef) rfl (by kernel_rfl) (by kernel_rfl) (by kernel_rfl) (fun _ _ _ h => h) (Or.inr ⟨rfl, rfl⟩) (by assumption) ?_
    try simp only [List.getElem_toArray, List.getElem_cons_zero, List.getElem_cons_succ, Act.put, List.setIfInBounds_toArray, List.set_cons_zero, List.set_cons_succ]
    refine wpAnyH_take (i := 25) (v := ?_) rfl (by kernel_rfl) (by kernel_rfl) (by kernel_rfl) (fun _ _ _ h => h) (Or.inl ⟨by rfl, ?_⟩) (by assumption) ?_
    rotate_left 1
    · intro w' hSw
      try dsimp only at hSw
      go_simp
      try with_reducible rfl
    try simp only [List.getElem_toArray, List.getElem_cons_zero, List.getElem_cons_succ, Act.put, List.setIfInBounds_toArray, List.set_cons_zero, List.set_cons_succ]
    refine wpAnyH_done (by kernel_rfl) ?_ _
    refine NoPanic.normal ?_
    have K5 := Lib.hid (HOW.out.trans hot.out)
    clear hot
    go_wp2_with fail
    refine (rates_any _).mono ?_
    rintro _ w6 ⟨rfl, k6⟩
    have K6 := Lib.hid (K5.out.trans k6)
    clear k6
    go_wp2_with fail
    go_ret
    exact ⟨rfl, K6.out⟩
  rw [hc] at HCK
  by_cases hn : now < 0
  · clear HRT HIS HNEW HNEW2 hc
    refine wp_region_noPanic ?_
    refine wp_region_held_drew (S := (fun w' => Only (fun _ => False) W2 w' ∧ w'.cell? ⟨w.heap.size, 0, none⟩ = some (.int .i64 D) ∧ w'.cell? ⟨w.heap.size, 1, none⟩ = some (.int .i64 F) ∧ w'.cell? ⟨w.heap.size, 2, none⟩ = some (.int .i64 T) ∧ w'.cell? ⟨w.heap.size, 3, none⟩ = some (.int .i64 G1) ∧ w'.cell? ⟨w.heap.size, 4, none⟩ = some (.int .i64 M1) ∧ w'.cell? ⟨w.heap.size, 5, none⟩ = some (.int .i64 B1) ∧ w'.cell? ⟨w.heap.size, 6, none⟩ = some (.slice a3 s1.length q3) ∧ w'.cell? ⟨w.heap.size, 7, none⟩ = some (.int .i64 G2) ∧ w'.cell? ⟨w.heap.size, 8, none⟩ = some (.int .i64 M2) ∧ w'.cell? ⟨w.heap.size, 9, none⟩ = some (.int .i64 B2) ∧ w'.cell? ⟨w.heap.size, 10, none⟩ = some (.slice a4 s2.length q4) ∧ w'.cell? ⟨w.heap.size + 1, 0, none⟩ = some (.int .i64 now) ∧ w'.cell? ⟨w.heap.size + 1, 1, none⟩ = some (.int .i64 pos) ∧ w'.cell? ⟨w.heap.size + 1, 2, none⟩ = some (.int .i64 u))) (by kernel_rfl) (HS.out _ (Only.refl _ _).drew) (fun hHeld => ?_)
    refine wpAnyH_ready (rs := [0]) (by kernel_rfl) (by simp) ?_
    refine AllReadyH.cons rfl (fun K hK => ?_) AllReadyH.nil
    try simp only [List.getElem_toArray, List.getElem_cons_zero]
    go_simp
    go_at_call 23
    (with_reducible refine (rates_any _).mono ?_)
    rintro _ wn ⟨rfl, ho⟩
    have hot := Lib.hid ((Only.refl (fun _ => False) W2).drew.trans ho)
    clear ho
    try dsimp only
    refine hK.out _ _ (HS.out _ hot.out) (fun hHeld2 => ?_)
    clear hK K
    try simp only [List.getElem_toArray, List.getElem_cons_zero, Act.put, List.setIfInBounds_toArray, List.set_cons_zero, List.set_cons_succ]
    refine wpAnyH_take (i := 1) (v := ?_) rfl (by kernel_rfl) (by kernel_rfl) (by kernel_rfl) (fun _ _ _ h => h) (Or.inl ⟨by rfl, ?_⟩) (by assumption) ?_
    rotate_left 1
    · intro w' hSw
      try dsimp only at hSw
      go_simp
      try with_reducible rfl
    try simp only [List.getElem_toArray, List.getElem_cons_zero, List.getElem_cons_succ, Act.put, List.setIfInBounds_toArray, List.set_cons_zero, List.set_cons_succ]
    refine wpAnyH_take (i := 2) (v := ?_) rfl (by kernel_rfl) (by kernel_rfl) (by kernel_rfl) (fun _ _ _ h => h) (Or.inl ⟨by rfl, ?_⟩) (by assumption) ?_
    rotate_left 1
    · intro w' hSw
      try dsimp only at hSw
      go_simp
      try with_reducible rfl
    try simp only [List.getElem_toArray, List.getElem_cons_zero, List.getElem_cons_succ, Act.put, List.setIfInBounds_toArray, List.set_cons_zero, List.set_cons_succ]
    refine wpAnyH_take (i := 3) (v := ?_) rfl (by kernel_rfl) (by kernel_rfl) (by kernel_rfl) (fun _ _ _ h => h) (Or.inl ⟨by rfl, ?_⟩) (by assumption) ?_
    rotate_left 1
    · intro w' hSw
      try dsimp only at hSw
      go_simp
      try with_reducible rfl
    try simp only [List.getElem_toArray, List.getElem_cons_zero, List.getElem_cons_succ, Act.put, List.setIfInBounds_toArray, List.set_cons_zero, List.set_cons_succ]
    refine wpAnyH_ready (rs := [4]) (by kernel_rfl) (by simp) ?_
    refine AllReadyH.cons rfl (fun K hK => ?_) AllReadyH.nil
    try simp only [List.getElem_toArray, List.getElem_cons_zero, List.getElem_cons_succ]
    go_simp
    go_at_call 26
    (with_reducible refine (HCK.out _ hot.out).mono ?_)
    rintro _ wm ⟨rfl, ho⟩
    have hot := Lib.hid (hot.out.trans ho)
    clear ho
    try dsimp only
    refine hK.out _ _ (HS.out _ hot.out) (fun hHeld3 => ?_)
    clear hK K
    try simp only [List.getElem_toArray, List.getElem_cons_zero, List.getElem_cons_succ, Act.put, List.setIfInBounds_toArray, List.set_cons_zero, List.set_cons_succ]
    refine wpAnyH_take (i := 5) (v := ?_) rfl (by kernel_rfl) (by kernel_rfl) (by kernel_rfl) (fun _ _ _ h => h) (Or.inl ⟨by rfl, ?_⟩) (by assumption) ?_
    rotate_left 1
    · intro w' hSw
      try dsimp only at hSw
      go_simp
      try with_reducible rfl
    try simp only [List.getElem_toArray, List.getElem_cons_zero, List.getElem_cons_succ, Act.put, List.setIfInBounds_toArray, List.set_cons_zero, List.set_cons_succ]
    refine wpAnyH_take (i := 6) (v := ?_) rfl (by kernel_rfl) (by kernel_rfl) (by kernel_rfl) (fun _ _ _ h => h) (Or.inl ⟨by rfl, ?_⟩) (by assumption) ?_
    rotate_left 1
    · intro w' hSw
      try dsimp only at hSw
      go_simp
      try with_reducible rfl
    try simp only [List.getElem_toArray, List.getElem_cons_zero, List.getElem_cons_succ, Act.put, List.setIfInBounds_toArray, List.set_cons_zero, List.set_cons_succ]
    refine wpAnyH_take (i := 7) (v := ?_) rfl (by kernel_rfl) (by kernel_rfl) (by kernel_rfl) (fun _ _ _ h => h) (Or.inl ⟨by rfl, ?_⟩) (by assumption) ?_
    rotate_left 1
    · intro w' hSw
      try dsimp only at hSw
      go_simp
      try with_reducible rfl
    try simp only [List.getElem_toArray, List.getElem_cons_zero, List.getElem_cons_succ, Act.put, List.setIfInBounds_toArray, List.set_cons_zero, List.set_cons_succ]
    refine wpAnyH_take (i := 8) (v := ?_) rfl (by kernel_rfl) (by kernel_rfl) (by kernel_rfl) (fun _ _ _ h => h) (Or.inl ⟨by rfl, ?_⟩) (by assumption) ?_
    rotate_left 1
    · intro w' hSw
      try dsimp only at hSw
      go_simp
      try with_reducible rfl
    try simp only [List.getElem_toArray, List.getElem_cons_zero, List.getElem_cons_succ, Act.put, List.setIfInBounds_toArray, List.set_cons_zero, List.set_cons_succ]
    refine wpAnyH_take (i := 9) (v := ?_) rfl (by kernel_rfl) (by kernel_rfl) (by kernel_rfl) (fun _ _ _ h => h) (Or.inl ⟨by rfl, ?_⟩) (by assumption) ?_
    rotate_left 1
    · intro w' hSw
      try dsimp only at hSw
      go_simp
      try with_reducible rfl
    try simp only [List.getElem_toArray, List.getElem_cons_zero, List.getElem_cons_succ, Act.put, List.setIfInBounds_toArray, List.set_cons_zero, List.set_cons_succ]
    refine wpAnyH_take (i := 10) (v := ?_) rfl (by kernel_rfl) (by kernel_rfl) (by kernel_rfl) (fun _ _ _ h => h) (Or.inl ⟨by rfl, ?_⟩) (by assumption) ?_
    rotate_left 1
    · intro w' hSw
      try dsimp only at hSw
      go_simp
      try with_reducible rfl
    try simp only [List.getElem_toArray, List.getElem_cons_zero, List.getElem_cons_succ, Act.put, List.setIfInBounds_toArray, List.set_cons_zero, List.set_cons_succ]
    refine wpAnyH_take (i := 11) (v := ?_) rfl (by kernel_rfl) (by kernel_rfl) (by kernel_rfl) (fun _ _ _ h => h) (Or.inl ⟨by rfl, ?_⟩) (by assumption) ?_
    rotate_left 1
    · intro w' hSw
      try dsimp only at hSw
      go_simp
      try with_reducible rfl
    try simp only [List.getElem_toArray, List.getElem_cons_zero, List.getElem_cons_succ, Act.put, List.setIfInBounds_toArray, List.set_cons_zero, List.set_cons_succ]
    refine wpAnyH_take (i := 12) (v := ?_) rfl (by kernel_rfl) (by kernel_rfl) (by kernel_rfl) (fun _ _ _ h => h) (Or.inl ⟨by rfl, ?_⟩) (by assumption) ?_
    rotate_left 1
    · intro w' hSw
      try dsimp only at hSw
      go_simp
      try with_reducible rfl
    try simp only [List.getElem_toArray, List.getElem_cons_zero, List.getElem_cons_succ, Act.put, List.setIfInBounds_toArray, List.set_cons_zero, List.set_cons_succ]
    refine wpAnyH_take (i := 13) (v := undef) rfl (by kernel_rfl) (by kernel_rfl) (by kernel_rfl) (fun _ _ _ h => h) (Or.inr ⟨rfl, rfl⟩) (by assumption) ?_
    try simp only [List.getElem_toArray, List.getElem_cons_zero, List.getElem_cons_succ, Act.put, List.setIfInBounds_toArray, List.set_cons_zero, List.set_cons_succ]
    refine wpAnyH_take (i := 14) (v := undef) rfl (by kernel_rfl) (by kernel_rfl) (by kernel_rfl) (fun _ _ _ h => h) (Or.inr ⟨rfl, rfl⟩) (by assumption) ?_
    try simp only [List.getElem_toArray, List.getElem_cons_zero, List.getElem_cons_succ, Act.put, List.setIfInBounds_toArray, List.set_cons_zero, List.set_cons_succ]
    refine wpAnyH_take (i := 15) (v := ?_) rfl (by kernel_rfl) (by kernel_rfl) (by kernel_rfl) (fun _ _ _ h => h) (Or.inl ⟨by rfl, ?_⟩) (by assumption) ?_
    rotate_left 1
    · intro w' hSw
      try dsimp only at hSw
      go_simp
      try with_reducible rfl
    try simp only [List.getElem_toArray, List.getElem_cons_zero, List.getElem_cons_succ, Act.put, List.setIfInBounds_toArray, List.set_cons_zero, List.set_cons_succ]
    refine wpAnyH_take (i := 16) (v := ?_) rfl (by kernel_rfl) (by kernel_rfl) (by kernel_rfl) (fun _ _ _ h => h) (Or.inl ⟨by rfl, ?_⟩) (by assumption) ?_
    rotate_left 1
    · intro w' hSw
      try dsimp only at hSw
      go_simp
      try with_reducible rfl
    try simp only [List.getElem_toArray, List.getElem_cons_zero, List.getElem_cons_succ, Act.put, List.setIfInBounds_toArray, List.set_cons_zero, List.set_cons_succ]
    refine wpAnyH_take (i := 17) (v := undef) rfl (by kernel_rfl) (by kernel_rfl) (by kernel_rfl) (fun _ _ _ h => h) (Or.inr ⟨rfl, rfl⟩) (by assumption) ?_
    try simp only [List.getElem_toArray, List.getElem_cons_zero, List.getElem_cons_succ, Act.put, List.setIfInBounds_toArray, List.set_cons_zero, List.set_cons_succ]
    refine wpAnyH_take (i := 18) (v := undef) rfl (by kernel_rfl) (by kernel_rfl) (by kernel_rfl) (fun _ _ _ h => h) (Or.inr ⟨rfl, rfl⟩) (by assumption) ?_
    try simp only [List.getElem_toArray, List.getElem_cons_zero, List.getElem_cons_succ, Act.put, List.setIfInBounds_toArray, List.set_cons_zero, List.set_cons_succ]
    refine wpAnyH_take (i := 19) (v := undef) rfl (by kernel_rfl) (by kernel_rfl) (by kernel_rfl) (fun _ _ _ h => h) (Or.inr ⟨rfl, rfl⟩) (by assumption) ?_
    try simp only [List.getElem_toArray, List.getElem_cons_zero, List.getElem_cons_succ, Act.put, List.setIfInBounds_toArray, List.set_cons_zero, List.set_cons_succ]
    refine wpAnyH_take (i := 20) (v := undef) rfl (by kernel_rfl) (by kernel_rfl) (by kernel_rfl) (fun _ _ _ h => h) (Or.inr ⟨rfl, rfl⟩) (by assumption) ?_
    try simp only [List.getElem_toArray, List.getElem_cons_zero, List.getElem_cons_succ, Act.put, List.setIfInBounds_toArray, List.set_cons_zero, List.set_cons_succ]
    refine wpAnyH_take (i := 21) (v := undef) rfl (by kernel_rfl) (by kernel_rfl) (by kernel_rfl) (fun _ _ _ h => h) (Or.inr ⟨rfl, rfl⟩) (by assumption) ?_
    try simp only [List.getElem_toArray, List.getElem_cons_zero, List.getElem_cons_succ, Act.put, List.setIfInBounds_toArray, List.set_cons_zero, List.set_cons_succ]
    refine wpAnyH_take (i := 22) (v := undef) rfl (by kernel_rfl) (by kernel_rfl) (by kernel_rfl) (fun _ _ _ h => h) (Or.inr ⟨rfl, rfl⟩) (by assumption) ?_
    try simp only [List.getElem_toArray, List.getElem_cons_zero, List.getElem_cons_succ, Act.put, List.setIfInBounds_toArray, List.set_cons_zero, List.set_cons_succ]
    refine wpAnyH_take (i := 23) (v := undef) rfl (by kernel_rfl) (by kernel_rfl) (by kernel_rfl) (fun _ _ _ h => h) (Or.inr ⟨rfl, rfl⟩) (by assumption) ?_
    try simp only [List.getElem_toArray, List.getElem_cons_zero, List.getElem_cons_succ, Act.put, List.setIfInBounds_toArray, List.set_cons_zero, List.set_cons_succ]
    refine wpAnyH_take (i := 24) (v := undef) rfl (by kernel_rfl) (by kernel_rfl) (by kernel_rfl) (fun _ _ _ h => h) (Or.inr ⟨rfl, rfl⟩) (by assumption) ?_
    try simp only [List.getElem_toArray, List.getElem_cons_zero, List.getElem_cons_succ, Act.put, List.setIfInBounds_toArray, List.set_cons_zero, List.set_cons_succ]
    refine wpAnyH_take (i := 25) (v := ?_) rfl (by kernel_rfl) (by kernel_rfl) (by kernel_rfl) (fun _ _ _ h => h) (Or.inl ⟨by rfl, ?_⟩) (by assumption) ?_
    rotate_left 1
    · intro w' hSw
      try dsimp only at hSw
      go_simp
      try with_reducible rfl
    try simp only [List.getElem_toArray, List.getElem_cons_zero, List.getElem_cons_succ, Act.put, List.setIfInBounds_toArray, List.set_cons_zero, List.set_cons_succ]
    refine wpAnyH_done (by kernel_rfl) ?_ _
    refine NoPanic.normal ?_
    have K5 := Lib.hid (HOW.out.trans hot.out)
    clear hot
    go_wp2_with fail
    refine (rates_any _).mono ?_
    rintro _ w6 ⟨rfl, k6⟩
    have K6 := Lib.hid (K5.out.trans k6)
    clear k6
    go_wp2_with fail
    go_ret
    exact ⟨rfl, K6.out⟩
  by_cases hl : later < 0
  · clear HRT HIS HNEW HNEW2 hc
    refine wp_region_noPanic ?_
    refine wp_region_held_drew (S := (fun w' => Only (fun _ => False) W2 w' ∧ w'.cell? ⟨w.heap.size, 0, none⟩ = some (.int .i64 D) ∧ w'.cell? ⟨w.heap.size, 1, none⟩ = some (.int .i64 F) ∧ w'.cell? ⟨w.heap.size, 2, none⟩ = some (.int .i64 T) ∧ w'.cell? ⟨w.heap.size, 3, none⟩ = some (.int .i64 G1) ∧ w'.cell? ⟨w.heap.size, 4, none⟩ = some (.int .i64 M1) ∧ w'.cell? ⟨w.heap.size, 5, none⟩ = some (.int .i64 B1) ∧ w'.cell? ⟨w.heap.size, 6, none⟩ = some (.slice a3 s1.length q3) ∧ w'.cell? ⟨w.heap.size, 7, none⟩ = some (.int .i64 G2) ∧ w'.cell? ⟨w.heap.size, 8, none⟩ = some (.int .i64 M2) ∧ w'.cell? ⟨w.heap.size, 9, none⟩ = some (.int .i64 B2) ∧ w'.cell? ⟨w.heap.size, 10, none⟩ = some (.slice a4 s2.length q4) ∧ w'.cell? ⟨w.heap.size + 1, 0, none⟩ = some (.int .i64 now) ∧ w'.cell? ⟨w.heap.size + 1, 1, none⟩ = some (.int .i64 pos) ∧ w'.cell? ⟨w.heap.size + 1, 2, none⟩ = some (.int .i64 u))) (by kernel_rfl) (HS.out _ (Only.refl _ _).drew) (fun hHeld => ?_)
    refine wpAnyH_ready (rs := [0]) (by kernel_rfl) (by simp) ?_
    refine AllReadyH.cons rfl (fun K hK => ?_) AllReadyH.nil
    try simp only [List.getElem_toArray, List.getElem_cons_zero]
    go_simp
    go_at_call 23
    (with_reducible refine (rates_any _).mono ?_)
    rintro _ wn ⟨rfl, ho⟩
    have hot := Lib.hid ((Only.refl (fun _ => False) W2).drew.trans ho)
    clear ho
    try dsimp only
    refine hK.out _ _ (HS.out _ hot.out) (fun hHeld2 => ?_)
    clear hK K
    try simp only [List.getElem_toArray, List.getElem_cons_zero, Act.put, List.setIfInBounds_toArray, List.set_cons_zero, List.set_cons_succ]
    refine wpAnyH_take (i := 1) (v := ?_) rfl (by kernel_rfl) (by kernel_rfl) (by kernel_rfl) (fun _ _ _ h => h) (Or.inl ⟨by rfl, ?_⟩) (by assumption) ?_
    rotate_left 1
    · intro w' hSw
      try dsimp only at hSw
      go_simp
      try with_reducible rfl
    try simp only [List.getElem_toArray, List.getElem_cons_zero, List.getElem_cons_succ, Act.put, List.setIfInBounds_toArray, List.set_cons_zero, List.set_cons_succ]
    refine wpAnyH_take (i := 2) (v := ?_) rfl (by kernel_rfl) (by kernel_rfl) (by kernel_rfl) (fun _ _ _ h => h) (Or.inl ⟨by rfl, ?_⟩) (by assumption) ?_
    rotate_left 1
    · intro w' hSw
      try dsimp only at hSw
      go_simp
      try with_reducible rfl
    try simp only [List.getElem_toArray, List.getElem_cons_zero, List.getElem_cons_succ, Act.put, List.setIfInBounds_toArray, List.set_cons_zero, List.set_cons_succ]
    refine wpAnyH_take (i := 3) (v := ?_) rfl (by kernel_rfl) (by kernel_rfl) (by kernel_rfl) (fun _ _ _ h => h) (Or.inl ⟨by rfl, ?_⟩) (by assumption) ?_
    rotate_left 1
    · intro w' hSw
      try dsimp only at hSw
      go_simp
      try with_reducible rfl
    try simp only [List.getElem_toArray, List.getElem_cons_zero, List.getElem_cons_succ, Act.put, List.setIfInBounds_toArray, List.set_cons_zero, List.set_cons_succ]
    refine wpAnyH_ready (rs := [4]) (by kernel_rfl) (by simp) ?_
    refine AllReadyH.cons rfl (fun K hK => ?_) AllReadyH.nil
    try simp only [List.getElem_toArray, List.getElem_cons_zero, List.getElem_cons_succ]
    go_simp
    go_at_call 26
    (with_reducible refine (HCK.out _ hot.out).mono ?_)
    rintro _ wm ⟨rfl, ho⟩
    have hot := Lib.hid (hot.out.trans ho)
    clear ho
    try dsimp only
    refine hK.out _ _ (HS.out _ hot.out) (fun hHeld3 => ?_)
    clear hK K
    try simp only [List.getElem_toArray, List.getElem_cons_zero, List.getElem_cons_succ, Act.put, List.setIfInBounds_toArray, List.set_cons_zero, List.set_cons_succ]
    refine wpAnyH_take (i := 5) (v := ?_) rfl (by kernel_rfl) (by kernel_rfl) (by kernel_rfl) (fun _ _ _ h => h) (Or.inl ⟨by rfl, ?_⟩) (by assumption) ?_
    rotate_left 1
    · intro w' hSw
      try dsimp only at hSw
      go_simp
      try with_reducible rfl
    try simp only [List.getElem_toArray, List.getElem_cons_zero, List.getElem_cons_succ, Act.put, List.setIfInBounds_toArray, List.set_cons_zero, List.set_cons_succ]
    refine wpAnyH_take (i := 6) (v := ?_) rfl (by kernel_rfl) (by kernel_rfl) (by kernel_rfl) (fun _ _ _ h => h) (Or.inl ⟨by rfl, ?_⟩) (by assumption) ?_
    rotate_left 1
    · intro w' hSw
      try dsimp only at hSw
      go_simp
      try with_reducible rfl
    try simp only [List.getElem_toArray, List.getElem_cons_zero, List.getElem_cons_succ, Act.put, List.setIfInBounds_toArray, List.set_cons_zero, List.set_cons_succ]
    refine wpAnyH_take (i := 7) (v := ?_) rfl (by kernel_rfl) (by kernel_rfl) (by kernel_rfl) (fun _ _ _ h => h) (Or.inl ⟨by rfl, ?_⟩) (by assumption) ?_
    rotate_left 1
    · intro w' hSw
      try dsimp only at hSw
      go_simp
      try with_reducible rfl
    try simp only [List.getElem_toArray, List.getElem_cons_zero, List.getElem_cons_succ, Act.put, List.setIfInBounds_toArray, List.set_cons_zero, List.set_cons_succ]
    refine wpAnyH_take (i := 8) (v := ?_) rfl (by kernel_rfl) (by kernel_rfl) (by kernel_rfl) (fun _ _ _ h => h) (Or.inl ⟨by rfl, ?_⟩) (by assumption) ?_
    rotate_left 1
    · intro w' hSw
      try dsimp only at hSw
      go_simp
      try with_reducible rfl
    try simp only [List.getElem_toArray, List.getElem_cons_zero, List.getElem_cons_succ, Act.put, List.setIfInBounds_toArray, List.set_cons_zero, List.set_cons_succ]
    refine wpAnyH_take (i := 9) (v := ?_) rfl (by kernel_rfl) (by kernel_rfl) (by kernel_rfl) (fun _ _ _ h => h) (Or.inl ⟨by rfl, ?_⟩) (by assumption) ?_
    rotate_left 1
    · intro w' hSw
      try dsimp only at hSw
      go_simp
      try with_reducible rfl
    try simp only [List.getElem_toArray, List.getElem_cons_zero, List.getElem_cons_succ, Act.put, List.setIfInBounds_toArray, List.set_cons_zero, List.set_cons_succ]
    refine wpAnyH_take (i := 10) (v := ?_) rfl (by kernel_rfl) (by kernel_rfl) (by kernel_rfl) (fun _ _ _ h => h) (Or.inl ⟨by rfl, ?_⟩) (by assumption) ?_
    rotate_left 1
    · intro w' hSw
      try dsimp only at hSw
      go_simp
      try with_reducible rfl
    try simp only [List.getElem_toArray, List.getElem_cons_zero, List.getElem_cons_succ, Act.put, List.setIfInBounds_toArray, List.set_cons_zero, List.set_cons_succ]
    refine wpAnyH_take (i := 11) (v := ?_) rfl (by kernel_rfl) (by kernel_rfl) (by kernel_rfl) (fun _ _ _ h => h) (Or.inl ⟨by rfl, ?_⟩) (by assumption) ?_
    rotate_left 1
    · intro w' hSw
      try dsimp only at hSw
      go_simp
      try with_reducible rfl
    try simp only [List.getElem_toArray, List.getElem_cons_zero, List.getElem_cons_succ, Act.put, List.setIfInBounds_toArray, List.set_cons_zero, List.set_cons_succ]
    refine wpAnyH_take (i := 12) (v := ?_) rfl (by kernel_rfl) (by kernel_rfl) (by kernel_rfl) (fun _ _ _ h => h) (Or.inl ⟨by rfl, ?_⟩) (by assumption) ?_
    rotate_left 1
    · intro w' hSw
      try dsimp only at hSw
      go_simp
      try with_reducible rfl
    try simp only [List.getElem_toArray, List.getElem_cons_zero, List.getElem_cons_succ, Act.put, List.setIfInBounds_toArray, List.set_cons_zero, List.set_cons_succ]
    refine wpAnyH_take (i := 13) (v := ?_) rfl (by kernel_rfl) (by kernel_rfl) (by kernel_rfl) (fun _ _ _ h => h) (Or.inl ⟨by rfl, ?_⟩) (by assumption) ?_
    rotate_left 1
    · intro w' hSw
      try dsimp only at hSw
      go_simp
      try with_reducible rfl
    try simp only [List.getElem_toArray, List.getElem_cons_zero, List.getElem_cons_succ, Act.put, List.setIfInBounds_toArray, List.set_cons_zero, List.set_cons_succ]
    refine wpAnyH_take (i := 14) (v := ?_) rfl (by kernel_rfl) (by kernel_rfl) (by kernel_rfl) (fun _ _ _ h => h) (Or.inl ⟨by rfl, ?_⟩) (by assumption) ?_
    rotate_left 1
    · intro w' hSw
      try dsimp only at hSw
      go_simp
      try with_reducible rfl
    try simp only [List.getElem_toArray, List.getElem_cons_zero, List.getElem_cons_succ, Act.put, List.setIfInBounds_toArray, List.set_cons_zero, List.set_cons_succ]
    refine wpAnyH_take (i := 15) (v := ?_) rfl (by kernel_rfl) (by kernel_rfl) (by kernel_rfl) (fun _ _ _ h => h) (Or.inl ⟨by rfl, ?_⟩) (by assumption) ?_
    rotate_left 1
    · intro w' hSw
      try dsimp only at hSw
      go_simp
      try with_reducible rfl
    try simp only [List.getElem_toArray, List.getElem_cons_zero, List.getElem_cons_succ, Act.put, List.setIfInBounds_toArray, List.set_cons_zero, List.set_cons_succ]
    refine wpAnyH_take (i := 16) (v := ?_) rfl (by kernel_rfl) (by kernel_rfl) (by kernel_rfl) (fun _ _ _ h => h) (Or.inl ⟨by rfl, ?_⟩) (by assumption) ?_
    rotate_left 1
    · intro w' hSw
      try dsimp only at hSw
      go_simp
      try with_reducible rfl
    try simp only [List.getElem_toArray, List.getElem_cons_zero, List.getElem_cons_succ, Act.put, List.setIfInBounds_toArray, List.set_cons_zero, List.set_cons_succ]
    refine wpAnyH_take (i := 17) (v := undef) rfl (by kernel_rfl) (by kernel_rfl) (by kernel_rfl) (fun _ _ _ h => h) (Or.inr ⟨rfl, rfl⟩) (by assumption) ?_
    try simp only [List.getElem_toArray, List.getElem_cons_zero, List.getElem_cons_succ, Act.put, List.setIfInBounds_toArray, List.set_cons_zero, List.set_cons_succ]
    refine wpAnyH_take (i := 18) (v := undef) rfl (by kernel_rfl) (by kernel_rfl) (by kernel_rfl) (fun _ _ _ h => h) (Or.inr ⟨rfl, rfl⟩) (by assumption) ?_
    try simp only [List.getElem_toArray, List.getElem_cons_zero, List.getElem_cons_succ, Act.put, List.setIfInBounds_toArray, List.set_cons_zero, List.set_cons_succ]
    refine wpAnyH_take (i := 19) (v := undef) rfl (by kernel_rfl) (by kernel_rfl) (by kernel_rfl) (fun _ _ _ h => h) (Or.inr ⟨rfl, rfl⟩) (by assumption) ?_
    try simp only [List.getElem_toArray, List.getElem_cons_zero, List.getElem_cons_succ, Act.put, List.setIfInBounds_toArray, List.set_cons_zero, List.set_cons_succ]
    refine wpAnyH_take (i := 20) (v := undef) rfl (by kernel_rfl) (by kernel_rfl) (by kernel_rfl) (fun _ _ _ h => h) (Or.inr ⟨rfl, rfl⟩) (by assumption) ?_
    try simp only [List.getElem_toArray, List.getElem_cons_zero, List.getElem_cons_succ, Act.put, List.setIfInBounds_toArray, List.set_cons_zero, List.set_cons_succ]
    refine wpAnyH_take (i := 21) (v := undef) rfl (by kernel_rfl) (by kernel_rfl) (by kernel_rfl) (fun _ _ _ h => h) (Or.inr ⟨rfl, rfl⟩) (by assumption) ?_
    try simp only [List.getElem_toArray, List.getElem_cons_zero, List.getElem_cons_succ, Act.put, List.setIfInBounds_toArray, List.set_cons_zero, List.set_cons_succ]
    refine wpAnyH_take (i := 22) (v := undef) rfl (by kernel_rfl) (by kernel_rfl) (by kernel_rfl) (fun _ _ _ h => h) (Or.inr ⟨rfl, rfl⟩) (by assumption) ?_
    try simp only [List.getElem_toArray, List.getElem_cons_zero, List.getElem_cons_succ, Act.put, List.setIfInBounds_toArray, List.set_cons_zero, List.set_cons_succ]
    refine wpAnyH_take (i := 23) (v := undef) rfl (by kernel_rfl) (by kernel_rfl) (by kernel_rfl) (fun _ _ _ h => h) (Or.inr ⟨rfl, rfl⟩) (by assumption) ?_
    try simp only [List.getElem_toArray, List.getElem_cons_zero, List.getElem_cons_succ, Act.put, List.setIfInBounds_toArray, List.set_cons_zero, List.set_cons_succ]
    refine wpAnyH_take (i := 24) (v := undef) rfl (by kernel_rfl) (by kernel_rfl) (by kernel_rfl) (fun _ _ _ h => h) (Or.inr ⟨rfl, rfl⟩) (by assumption) ?_
    try simp only [List.getElem_toArray, List.getElem_cons_zero, List.getElem_cons_succ, Act.put, List.setIfInBounds_toArray, List.set_cons_zero, List.set_cons_succ]
    refine wpAnyH_take (i := 25) (v := ?_) rfl (by kernel_rfl) (by kernel_rfl) (by kernel_rfl) (fun _ _ _ h => h) (Or.inl ⟨by rfl, ?_⟩) (by assumption) ?_
    rotate_left 1
    · intro w' hSw
      try dsimp only at hSw
      go_simp
      try with_reducible rfl
    try simp only [List.getElem_toArray, List.getElem_cons_zero, List.getElem_cons_succ, Act.put, List.setIfInBounds_toArray, List.set_cons_zero, List.set_cons_succ]
    refine wpAnyH_done (by kernel_rfl) ?_ _
    refine NoPanic.normal ?_
    have K5 := Lib.hid (HOW.out.trans hot.out)
    clear hot
    go_wp2_with fail
    refine (rates_any _).mono ?_
    rintro _ w6 ⟨rfl, k6⟩
    have K6 := Lib.hid (K5.out.trans k6)
    clear k6
    go_wp2_with fail
    go_ret
    exact ⟨rfl, K6.out⟩
  have hD : D = 0 ∨ DayP D F T := (pchk_ok hc).2.elim (fun e => .inl e.1) (fun e => .inr e.2.1)
  have HI1 := Lib.hid (HIS.out now (by omega) HXY.out.1 hD)
  have HI2 := Lib.hid (HIS.out later (by omega) HXY.out.2 hD)
  have HRN := Lib.hid (HRT.out now HXY.out.1)
  have HRL := Lib.hid (HRT.out later HXY.out.2)
  have HST : Hid (isO D F T now = isO D F T later → raL D F T G1 M1 B1 G2 M2 B2 s1 s2 later pos u = raL D F T G1 M1 B1 G2 M2 B2 s1 s2 now pos u ∧ raK D F T G1 M1 B1 G2 M2 B2 s1 s2 later pos u = raK D F T G1 M1 B1 G2 M2 B2 s1 s2 now pos u ∧ raP D F T G1 M1 B1 G2 M2 B2 s1 s2 later pos u = raP D F T G1 M1 B1 G2 M2 B2 s1 s2 now pos u ∧ raE D F T G1 M1 B1 G2 M2 B2 s1 s2 later pos u = raE D F T G1 M1 B1 G2 M2 B2 s1 s2 now pos u) := Lib.hid (fun e => ra_steady pos u (by omega) (by omega) e)
  have HPN := Lib.hid (ra_pos D F T G1 M1 B1 G2 M2 B2 s1 s2 now pos u)
  have HLN := Lib.hid (ra_len D F T G1 M1 B1 G2 M2 B2 s1 s2 now pos u)
  clear hc hD HIS HRT
  generalize isO D F T now = o1 at *
  generalize isO D F T later = o2 at *
  have dn : decide (now < 0) = false := decide_eq_false hn
  have dl : decide (later < 0) = false := decide_eq_false hl
  clear hn hl
  have HBX : Hid (∀ w', Only (fun _ => False) W2 w' → Only (fun _ => False) w w') := Lib.hid (fun w' ho => HOW.out.trans ho)
  by_cases hbo : o1 = o2
  rotate_left
  · cases o1 <;> cases o2
    all_goals try (exfalso; exact hbo rfl)
    all_goals clear hbo HST HRN HRL HPN HLN HNEW HNEW2
    all_goals
      go_region_held3 (fun w' => Only (fun _ => False) W2 w' ∧ w'.cell? ⟨w.heap.size, 0, none⟩ = some (.int .i64 D) ∧ w'.cell? ⟨w.heap.size, 1, none⟩ = some (.int .i64 F) ∧ w'.cell? ⟨w.heap.size, 2, none⟩ = some (.int .i64 T) ∧ w'.cell? ⟨w.heap.size, 3, none⟩ = some (.int .i64 G1) ∧ w'.cell? ⟨w.heap.size, 4, none⟩ = some (.int .i64 M1) ∧ w'.cell? ⟨w.heap.size, 5, none⟩ = some (.int .i64 B1) ∧ w'.cell? ⟨w.heap.size, 6, none⟩ = some (.slice a3 s1.length q3) ∧ w'.cell? ⟨w.heap.size, 7, none⟩ = some (.int .i64 G2) ∧ w'.cell? ⟨w.heap.size, 8, none⟩ = some (.int .i64 M2) ∧ w'.cell? ⟨w.heap.size, 9, none⟩ = some (.int .i64 B2) ∧ w'.cell? ⟨w.heap.size, 10, none⟩ = some (.slice a4 s2.length q4) ∧ w'.cell? ⟨w.heap.size + 1, 0, none⟩ = some (.int .i64 now) ∧ w'.cell? ⟨w.heap.size + 1, 1, none⟩ = some (.int .i64 pos) ∧ w'.cell? ⟨w.heap.size + 1, 2, none⟩ = some (.int .i64 u))
        ((refine HS.out _ ?_; first | with_reducible exact Only.refl _ _ | with_reducible exact (Only.refl _ _).drew | with_reducible exact ((Only.refl _ _).drew).trans ho | with_reducible exact hot.out))
        (first | (go_at_call 23; (with_reducible refine (rates_any _).mono ?_); rintro _ wn ⟨rfl, ho⟩; have hot := Lib.hid (show Only (fun _ => False) W2 wn from by go_split_ands; exact Only.trans (by assumption) ho)) | (go_at_call 26; (with_reducible refine (HCK.out _ (by go_split_ands; assumption)).mono ?_); rintro _ wn ⟨rfl, ho⟩; have hot := Lib.hid (show Only (fun _ => False) W2 wn from by go_split_ands; exact Only.trans (by assumption) ho)) | (go_at_call 27; (with_reducible refine (HI1.out _).mono ?_); rintro _ wn ⟨rfl, ho⟩; have hot := Lib.hid (show Only (fun _ => False) W2 wn from by go_split_ands; exact Only.trans (by assumption) ho)) | (go_at_call 27; (with_reducible refine (HI2.out _).mono ?_); rintro _ wn ⟨rfl, ho⟩; have hot := Lib.hid (show Only (fun _ => False) W2 wn from by go_split_ands; exact Only.trans (by assumption) ho)))
      all_goals
        have K5 := Lib.hid (HOW.out.trans hot.out)
        clear hot
        go_wp2_with fail
        refine (rates_any _).mono ?_
        rintro _ w6 ⟨rfl, k6⟩
        have K6 := Lib.hid (K5.out.trans k6)
        clear k6
        go_wp2_with fail
        go_ret
        exact ⟨rfl, K6.out⟩
  subst hbo
  obtain ⟨e1, e2, e3, e4⟩ := HST.out rfl
  rw [e1, e2, e3, e4] at HRL
  clear e1 e2 e3 e4 HST
  have hb : (o1 != o1) = false := by simp
  generalize raL D F T G1 M1 B1 G2 M2 B2 s1 s2 now pos u = L at *
  generalize raK D F T G1 M1 B1 G2 M2 B2 s1 s2 now pos u = rk at *
  generalize raP D F T G1 M1 B1 G2 M2 B2 s1 s2 now pos u = rp at *
  generalize raE D F T G1 M1 B1 G2 M2 B2 s1 s2 now pos u = re at *
  generalize costB L = cb at *
  go_region_held3 (fun w' => Only (fun _ => False) W2 w' ∧ w'.cell? ⟨w.heap.size, 0, none⟩ = some (.int .i64 D) ∧ w'.cell? ⟨w.heap.size, 1, none⟩ = some (.int .i64 F) ∧ w'.cell? ⟨w.heap.size, 2, none⟩ = some (.int .i64 T) ∧ w'.cell? ⟨w.heap.size, 3, none⟩ = some (.int .i64 G1) ∧ w'.cell? ⟨w.heap.size, 4, none⟩ = some (.int .i64 M1) ∧ w'.cell? ⟨w.heap.size, 5, none⟩ = some (.int .i64 B1) ∧ w'.cell? ⟨w.heap.size, 6, none⟩ = some (.slice a3 s1.length q3) ∧ w'.cell? ⟨w.heap.size, 7, none⟩ = some (.int .i64 G2) ∧ w'.cell? ⟨w.heap.size, 8, none⟩ = some (.int .i64 M2) ∧ w'.cell? ⟨w.heap.size, 9, none⟩ = some (.int .i64 B2) ∧ w'.cell? ⟨w.heap.size, 10, none⟩ = some (.slice a4 s2.length q4) ∧ w'.cell? ⟨w.heap.size + 1, 0, none⟩ = some (.int .i64 now) ∧ w'.cell? ⟨w.heap.size + 1, 1, none⟩ = some (.int .i64 pos) ∧ w'.cell? ⟨w.heap.size + 1, 2, none⟩ = some (.int .i64 u))
    ((refine HS.out _ ?_; first | with_reducible exact Only.refl _ _ | with_reducible exact (Only.refl _ _).drew | with_reducible exact ((Only.refl _ _).drew).trans ho | with_reducible exact hot.out))
    (first | (go_at_call 23; (with_reducible refine (rates_any _).mono ?_); rintro _ wn ⟨rfl, ho⟩; have hot := Lib.hid (show Only (fun _ => False) W2 wn from by go_split_ands; exact Only.trans (by assumption) ho)) | (go_at_call 26; (with_reducible refine (HCK.out _ (by go_split_ands; assumption)).mono ?_); rintro _ wn ⟨rfl, ho⟩; have hot := Lib.hid (show Only (fun _ => False) W2 wn from by go_split_ands; exact Only.trans (by assumption) ho)) | (go_at_call 27; (with_reducible refine (HI1.out _).mono ?_); rintro _ wn ⟨rfl, ho⟩; have hot := Lib.hid (show Only (fun _ => False) W2 wn from by go_split_ands; exact Only.trans (by assumption) ho)) | (go_at_call 27; (with_reducible refine (HI2.out _).mono ?_); rintro _ wn ⟨rfl, ho⟩; have hot := Lib.hid (show Only (fun _ => False) W2 wn from by go_split_ands; exact Only.trans (by assumption) ho)))
  all_goals
    rename World => W3
    have K3 := hot
    obtain ⟨_, p0, p1, p2, p3, p4, p5, p6, p7, p8, p9, p10, x0, x1, x2⟩ := HS.out _ K3.out
    clear hot
    go_wp2_with fail
    clear p0 p1 p2 p3 p4 p5 p6 p7 p8 p9 p10 x0 x1 x2
    go_region_held3 (fun w' => Only (fun _ => False) W2 w' ∧ w'.cell? ⟨w.heap.size, 0, none⟩ = some (.int .i64 D) ∧ w'.cell? ⟨w.heap.size, 1, none⟩ = some (.int .i64 F) ∧ w'.cell? ⟨w.heap.size, 2, none⟩ = some (.int .i64 T) ∧ w'.cell? ⟨w.heap.size, 3, none⟩ = some (.int .i64 G1) ∧ w'.cell? ⟨w.heap.size, 4, none⟩ = some (.int .i64 M1) ∧ w'.cell? ⟨w.heap.size, 5, none⟩ = some (.int .i64 B1) ∧ w'.cell? ⟨w.heap.size, 6, none⟩ = some (.slice a3 s1.length q3) ∧ w'.cell? ⟨w.heap.size, 7, none⟩ = some (.int .i64 G2) ∧ w'.cell? ⟨w.heap.size, 8, none⟩ = some (.int .i64 M2) ∧ w'.cell? ⟨w.heap.size, 9, none⟩ = some (.int .i64 B2) ∧ w'.cell? ⟨w.heap.size, 10, none⟩ = some (.slice a4 s2.length q4) ∧ w'.cell? ⟨w.heap.size + 1, 0, none⟩ = some (.int .i64 now) ∧ w'.cell? ⟨w.heap.size + 1, 1, none⟩ = some (.int .i64 pos) ∧ w'.cell? ⟨w.heap.size + 1, 2, none⟩ = some (.int .i64 u))
      ((refine HS.out _ ?_; first | with_reducible exact K3.out | with_reducible exact K3.out.drew | with_reducible exact K3.out.alloc _ | with_reducible exact (K3.out.alloc _).drew | with_reducible exact (K3.out.drew).alloc _ | with_reducible exact (K3.out.drew).trans ho | with_reducible exact hot.out.alloc _ | with_reducible exact hot.out | exact puts_only _ [.slice al L.length cl, .int .i64 rk, .int .i64 cb, .int .i64 rp] 0 W2 _ hot.out (.inr (Nat.le_trans K3.out.size (by first | exact Nat.le_refl _ | assumption)))))
      (first | (go_at_call 16; (with_reducible refine (HTO.out _).mono ?_); rintro _ wn ⟨rfl, ho⟩; have hot := Lib.hid (show Only (fun _ => False) W2 wn from by go_split_ands; exact Only.trans (by assumption) ho); (first | (with_reducible have hw3 := Lib.hid ((Only.refl (fun _ => False) W3).drew.trans ho)) | (with_reducible have hw3 := Lib.hid (((Only.refl (fun _ => False) W3).alloc _).drew.trans ho)) | (with_reducible have hw3 := Lib.hid (((Only.refl (fun _ => False) W3).drew.alloc _).trans ho)) | (with_reducible have hw3 := Lib.hid ((Only.refl (fun _ => False) W3).trans ho)) | (with_reducible have hw3 := Lib.hid (((Only.refl (fun _ => False) W3).alloc _).trans ho))); have hsz := hw3.out.size; (try (with_reducible have hbx := HNEW.out _ _ ho)); (try (with_reducible have hbx := HNEW2.out _ _ ho))) | (go_at_call 17; (with_reducible refine (HRN.out _ (by go_split_ands; assumption)).mono ?_); rintro _ wn ⟨al, cl, rfl, hrd, ho⟩; have hot := Lib.hid (show Only (fun _ => False) W2 wn from by go_split_ands; exact Only.trans (by assumption) ho); (try (with_reducible have hbx := HNEW.out _ _ ho)); (try (with_reducible have hbx := HNEW2.out _ _ ho)); (try (with_reducible have hbx := hbx.only ho (fun f => f))); (first | (with_reducible have hw3 := Lib.hid (hw3.out.trans ho)) | (with_reducible have hw3 := Lib.hid ((hw3.out.alloc _).trans ho))); (try (obtain ⟨⟨z0, z1, z2, z3⟩, y0, y1, y2, y3⟩ := hbx.all))))
    all_goals
      first
      | (obtain ⟨W4, hb2, hW⟩ := rbox_put hbx hw3.out (by first | exact Nat.le_refl _ | assumption) cl rk cb rp hrd HPN.out
         rw [← hW])
      | (obtain ⟨W4, hb2, hW⟩ := rbox_new hw3.out cl rk cb rp 34 hrd
         rw [← hW])
      clear hW
      have K4 := Lib.hid (K3.out.trans hb2.2.2.2)
      have HB4 := Lib.hid hb2
      try clear hbx z0 z1 z2 z3 y0 y1 y2 y3
      clear ho hot hw3 hsz hrd hb2
      obtain ⟨_, p0, p1, p2, p3, p4, p5, p6, p7, p8, p9, p10, x0, x1, x2⟩ := HS.out _ K4.out
      go_wp2_with fail
      clear p0 p1 p2 p3 p4 p5 p6 p7 p8 p9 p10 x0 x1 x2
      go_region_held3 (fun w' => Only (fun _ => False) W2 w' ∧ w'.cell? ⟨w.heap.size, 0, none⟩ = some (.int .i64 D) ∧ w'.cell? ⟨w.heap.size, 1, none⟩ = some (.int .i64 F) ∧ w'.cell? ⟨w.heap.size, 2, none⟩ = some (.int .i64 T) ∧ w'.cell? ⟨w.heap.size, 3, none⟩ = some (.int .i64 G1) ∧ w'.cell? ⟨w.heap.size, 4, none⟩ = some (.int .i64 M1) ∧ w'.cell? ⟨w.heap.size, 5, none⟩ = some (.int .i64 B1) ∧ w'.cell? ⟨w.heap.size, 6, none⟩ = some (.slice a3 s1.length q3) ∧ w'.cell? ⟨w.heap.size, 7, none⟩ = some (.int .i64 G2) ∧ w'.cell? ⟨w.heap.size, 8, none⟩ = some (.int .i64 M2) ∧ w'.cell? ⟨w.heap.size, 9, none⟩ = some (.int .i64 B2) ∧ w'.cell? ⟨w.heap.size, 10, none⟩ = some (.slice a4 s2.length q4) ∧ w'.cell? ⟨w.heap.size + 1, 0, none⟩ = some (.int .i64 now) ∧ w'.cell? ⟨w.heap.size + 1, 1, none⟩ = some (.int .i64 pos) ∧ w'.cell? ⟨w.heap.size + 1, 2, none⟩ = some (.int .i64 u))
        ((refine HS.out _ ?_; first | with_reducible exact K4.out | with_reducible exact K4.out.drew | with_reducible exact K4.out.alloc _ | with_reducible exact (K4.out.alloc _).drew | with_reducible exact (K4.out.drew).alloc _ | with_reducible exact (K4.out.drew).trans ho | with_reducible exact hot.out.alloc _ | with_reducible exact hot.out | exact puts_only _ [.slice al L.length cl, .int .i64 rk, .int .i64 cb, .int .i64 rp] 0 W2 _ hot.out (.inr (Nat.le_trans K4.out.size (by first | exact Nat.le_refl _ | assumption)))))
        (first | (go_at_call 16; (with_reducible refine (HTO.out _).mono ?_); rintro _ wn ⟨rfl, ho⟩; have hot := Lib.hid (show Only (fun _ => False) W2 wn from by go_split_ands; exact Only.trans (by assumption) ho); (first | (with_reducible have hw3 := Lib.hid ((Only.refl (fun _ => False) W4).drew.trans ho)) | (with_reducible have hw3 := Lib.hid (((Only.refl (fun _ => False) W4).alloc _).drew.trans ho)) | (with_reducible have hw3 := Lib.hid (((Only.refl (fun _ => False) W4).drew.alloc _).trans ho)) | (with_reducible have hw3 := Lib.hid ((Only.refl (fun _ => False) W4).trans ho)) | (with_reducible have hw3 := Lib.hid (((Only.refl (fun _ => False) W4).alloc _).trans ho))); have hsz := hw3.out.size; (try (with_reducible have hbx := HNEW.out _ _ ho)); (try (with_reducible have hbx := HNEW2.out _ _ ho))) | (go_at_call 17; (with_reducible refine (HRL.out _ (by go_split_ands; assumption)).mono ?_); rintro _ wn ⟨al, cl, rfl, hrd, ho⟩; have hot := Lib.hid (show Only (fun _ => False) W2 wn from by go_split_ands; exact Only.trans (by assumption) ho); (try (with_reducible have hbx := HNEW.out _ _ ho)); (try (with_reducible have hbx := HNEW2.out _ _ ho)); (try (with_reducible have hbx := hbx.only ho (fun f => f))); (first | (with_reducible have hw3 := Lib.hid (hw3.out.trans ho)) | (with_reducible have hw3 := Lib.hid ((hw3.out.alloc _).trans ho))); (try (obtain ⟨⟨z0, z1, z2, z3⟩, y0, y1, y2, y3⟩ := hbx.all))))
      all_goals
        first
        | (obtain ⟨W6, hb2, hW⟩ := rbox_put hbx hw3.out (by first | exact Nat.le_refl _ | assumption) cl rk cb rp hrd HPN.out
           rw [← hW])
        | (obtain ⟨W6, hb2, hW⟩ := rbox_new hw3.out cl rk cb rp 34 hrd
           rw [← hW])
        clear hW
        have K6 := Lib.hid (K4.out.trans hb2.2.2.2)
        have HB6 := Lib.hid hb2
        have HB5 := Lib.hid (HB4.out.only hb2.2.2.2)
        try clear hbx z0 z1 z2 z3 y0 y1 y2 y3
        clear ho hot hw3 hsz hrd hb2
        obtain ⟨r0, r1, r2, r3⟩ := HB5.out.all
        obtain ⟨v0, v1, v2, v3⟩ := HB6.out.all
        have b1 : (re == re) = true := by simp
        have b2 : (cb == cb) = true := by simp
        have b3 : (rk == rk) = true := by simp
        go_wp2_with fail
        have hr5 := HB5.out.2.1
        have hr6 := HB6.out.2.1
        refine (lsame_yes _ _ _ _ _ L _ hr5 hr6 HLN.out.1).mono ?_
        rintro _ w6 ⟨rfl, k6⟩
        have K7 := Lib.hid (HBX.out _ (K6.out.trans k6))
        clear k6
        go_wp2_with fail
        go_ret
        exact ⟨rfl, K7.out⟩
theorem rsteady_walk (D F T G1 M1 B1 G2 M2 B2 : Int) (a1 a2 : Option Addr) (n1 n2 c1 c2 : Nat) (t1 t2 : List Tr) (now pos u cr later : Int) (w : World) (h1 : TiersR w a1 n1 c1 t1) (h2 : TiersR w a2 n2 c2 t2) (hx : InI now) (hy : InI later) :
    Calls Try.prog 7 #[.agg #[.int .i64 D, .int .i64 F, .int .i64 T, .int .i64 G1, .int .i64 M1, .int .i64 B1, .slice a1 n1 c1, .int .i64 G2, .int .i64 M2, .int .i64 B2, .slice a2 n2 c2], .agg #[.int .i64 now, .int .i64 pos, .int .i64 u, .int .i64 cr], .int .i64 later] w fun e w' => e = .returned (.bool true) ∧ Below w.heap.size w w' :=
  (rsteady_any D F T G1 M1 B1 G2 M2 B2 a1 a2 n1 n2 c1 c2 t1 t2 now pos u cr later w h1 h2 (by unfold InI at hx; omega) (by unfold InI at hy; omega)).mono fun _ _ ⟨h1, h2⟩ => ⟨h1, h2.none⟩
end Go.Proofs.Ytonacdjaimokeaa.tirw
