/- Grants: the document's Settle; what is held together, the program's and the document's. -/
import Derived.Test.YtonacdjaimokeaaGrD
import Derived.Test.YtonacdjaimokeaaRatRr
namespace Go.Proofs.Ytonacdjaimokeaa.tirw
open Go.RowKit mem tirm intm bigm bigw
set_option linter.unusedVariables false

set_option maxRecDepth 100000 in
set_option maxHeartbeats 2000000 in
theorem rsettle_any (D F T G1 M1 B1 G2 M2 B2 : Int) (a1 a2 : Option Addr) (n1 n2 c1 c2 : Nat) (t1 t2 : List Tr) (g un am now pos u : Int) (fl : Bool) (w : World) (h1 : ReadsT w a1 n1 t1) (h2 : ReadsT w a2 n2 t2) (hx : now ≤ 9223372036854775807) (ham : am ≤ 9223372036854775807) :
    Calls Try.prog 50 #[.agg #[.int .i64 g, .int .i64 un, .int .i64 am, .bool fl], .agg #[.int .i64 D, .int .i64 F, .int .i64 T, .int .i64 G1, .int .i64 M1, .int .i64 B1, .slice a1 n1 c1, .int .i64 G2, .int .i64 M2, .int .i64 B2, .slice a2 n2 c2], .int .i64 now, .int .i64 pos, .int .i64 u] w (SetAt (stE D F T G1 M1 B1 G2 M2 B2 t1 t2 g un am now pos u) (raL D F T G1 M1 B1 G2 M2 B2 t1 t2 now pos u) (raK D F T G1 M1 B1 G2 M2 B2 t1 t2 now pos u) (costB (raL D F T G1 M1 B1 G2 M2 B2 t1 t2 now pos u)) (raP D F T G1 M1 B1 G2 M2 B2 t1 t2 now pos u) (am - costB (raL D F T G1 M1 B1 G2 M2 B2 t1 t2 now pos u)) w) := by
  have HRT := Lib.hid (fun w' (ho : Only (fun _ => False) w w') => rrate_any D F T G1 M1 B1 G2 M2 B2 a1 a2 n1 n2 c1 c2 t1 t2 now pos u w' (h1.only ho (fun _ _ f => f)) (h2.only ho (fun _ _ f => f)) hx)
  have HPO := Lib.hid (ra_pos D F T G1 M1 B1 G2 M2 B2 t1 t2 now pos u)
  obtain ⟨W0, hW0⟩ : ∃ W0, W0 = ((w.alloc (.cells #[.int .i64 g, .int .i64 un, .int .i64 am, .bool fl] 75)).alloc (.cells #[.int .i64 D, .int .i64 F, .int .i64 T, .int .i64 G1, .int .i64 M1, .int .i64 B1, .slice a1 n1 c1, .int .i64 G2, .int .i64 M2, .int .i64 B2, .slice a2 n2 c2] 26)).alloc (.cells #[.slice none 0 0, .int .i64 0, .int .i64 0, .int .i64 0] 38) := ⟨_, rfl⟩
  have HO0 : Hid (Only (fun _ => False) w W0 ∧ W0.heap.size = w.heap.size + 3) := Lib.hid (by rw [hW0]; exact ⟨(((Only.refl _ w).alloc _).alloc _).alloc _, by simp⟩)
  have HGB : Hid (BoxV W0 w.heap.size [.int .i64 g, .int .i64 un, .int .i64 am, .bool fl]) := Lib.hid (by rw [hW0]; exact (BoxV.new w [.int .i64 g, .int .i64 un, .int .i64 am, .bool fl] _ _ rfl).only (((Only.refl (fun _ => False) _).alloc _).alloc _) (fun f => f))
  have HPA : Hid (PlanAt W0 (w.heap.size + 1) D F T G1 M1 B1 G2 M2 B2 a1 a2 n1 n2 c1 c2) := Lib.hid (by
    rw [hW0]
    have h := PlanAt.new (w := w.alloc (.cells #[.int .i64 g, .int .i64 un, .int .i64 am, .bool fl] 75)) D F T G1 M1 B1 G2 M2 B2 a1 a2 n1 n2 c1 c2 26
    have e : (w.alloc (.cells #[.int .i64 g, .int .i64 un, .int .i64 am, .bool fl] 75)).heap.size = w.heap.size + 1 := by simp
    rw [e] at h
    exact h.only ((Only.refl (fun _ => False) _).alloc _) (fun f => f))
  have HZ : Hid (Zr4 W0 (w.heap.size + 2)) := Lib.hid (by
    rw [hW0]
    have h := Zr4.new ((w.alloc (.cells #[.int .i64 g, .int .i64 un, .int .i64 am, .bool fl] 75)).alloc (.cells #[.int .i64 D, .int .i64 F, .int .i64 T, .int .i64 G1, .int .i64 M1, .int .i64 B1, .slice a1 n1 c1, .int .i64 G2, .int .i64 M2, .int .i64 B2, .slice a2 n2 c2] 26)) 38
    have e : ((w.alloc (.cells #[.int .i64 g, .int .i64 un, .int .i64 am, .bool fl] 75)).alloc (.cells #[.int .i64 D, .int .i64 F, .int .i64 T, .int .i64 G1, .int .i64 M1, .int .i64 B1, .slice a1 n1 c1, .int .i64 G2, .int .i64 M2, .int .i64 B2, .slice a2 n2 c2] 26)).heap.size = w.heap.size + 1 + 1 := by simp
    rw [e] at h
    exact h)
  clear h1 h2 hx
  have HRE : Hid (RatNo D F T G1 M1 B1 G2 M2 B2 t1 t2 now pos u ∧ raE D F T G1 M1 B1 G2 M2 B2 t1 t2 now pos u = 1 ∨ ¬ RatNo D F T G1 M1 B1 G2 M2 B2 t1 t2 now pos u ∧ raE D F T G1 M1 B1 G2 M2 B2 t1 t2 now pos u = 0 ∧ 0 ≤ costB (raL D F T G1 M1 B1 G2 M2 B2 t1 t2 now pos u)) := Lib.hid (by
    by_cases h : RatNo D F T G1 M1 B1 G2 M2 B2 t1 t2 now pos u
    · exact .inl ⟨h, (ra_no h).2.2.2⟩
    · exact .inr ⟨h, (ra_side h).2.2.2.2.2.1, (ra_facts h).2.2.1⟩)
  obtain ⟨Q, hQ⟩ : ∃ Q, SetAt (stE D F T G1 M1 B1 G2 M2 B2 t1 t2 g un am now pos u) (raL D F T G1 M1 B1 G2 M2 B2 t1 t2 now pos u) (raK D F T G1 M1 B1 G2 M2 B2 t1 t2 now pos u) (costB (raL D F T G1 M1 B1 G2 M2 B2 t1 t2 now pos u)) (raP D F T G1 M1 B1 G2 M2 B2 t1 t2 now pos u) (am - costB (raL D F T G1 M1 B1 G2 M2 B2 t1 t2 now pos u)) w = Q := ⟨_, rfl⟩
  rw [hQ]
  unfold stE at hQ
  have HQ := Lib.hid hQ
  clear hQ
  generalize raL D F T G1 M1 B1 G2 M2 B2 t1 t2 now pos u = L at *
  generalize raK D F T G1 M1 B1 G2 M2 B2 t1 t2 now pos u = rk at *
  generalize raP D F T G1 M1 B1 G2 M2 B2 t1 t2 now pos u = rp at *
  generalize raE D F T G1 M1 B1 G2 M2 B2 t1 t2 now pos u = re at *
  obtain ⟨cb, hcb⟩ : ∃ c, costB L = c := ⟨_, rfl⟩
  rw [hcb] at HRT HRE HQ
  clear hcb
  go_enter Try.func50, Try.ntmps50
  obtain ⟨p0, p1, p2, p3, p4, p5, p6, p7, p8, p9, p10⟩ := HPA.out
  rw [hW0] at p0 p1 p2 p3 p4 p5 p6 p7 p8 p9 p10
  go_wp2_with fail
  rw [← hW0]
  clear hW0 p0 p1 p2 p3 p4 p5 p6 p7 p8 p9 p10
  refine (HRT.out _ HO0.out.1).mono ?_
  rintro _ w1 ⟨al, cl, rfl, hrd, k1⟩
  obtain ⟨W2, hb2, hW2⟩ := rbox_new k1 cl rk cb rp 38 hrd
  have K2 := Lib.hid hb2.2.2.2
  have KW := Lib.hid (HO0.out.1.trans hb2.2.2.2)
  have HB2 := Lib.hid hb2
  have HSZ : Hid (w.heap.size + 3 ≤ w1.heap.size) := Lib.hid (by have := k1.size; have := HO0.out.2; omega)
  have hZ2 := HZ.out.only K2.out (fun f => f)
  have HZ2 := Lib.hid hZ2
  obtain ⟨r0, r1, r2, r3⟩ := hb2.all
  have hG := HGB.out.only K2.out (fun f => f)
  have g0 := (hG 0 _ rfl).1
  have g1 := (hG 1 _ rfl).1
  have g2 := (hG 2 _ rfl).1
  obtain ⟨p0, p1, p2, p3, p4, p5, p6, p7, p8, p9, p10⟩ := HPA.out.only K2.out (fun f => f)
  obtain ⟨⟨z0, z1, z2, z3⟩, y0, y1, y2, y3⟩ := hZ2.all
  have HEZ := Lib.hid (hZ2.box.put [.slice none 0 0, .int .i64 0, .int .i64 0, .int .i64 0] rfl)
  have HPZ := Lib.hid (puts_only (w.heap.size + 2) [.slice none 0 0, .int .i64 0, .int .i64 0, .int .i64 0] 0 W2 W2 (Only.refl (fun x => x = w.heap.size + 2) _) (.inl rfl))
  rw [hW2] at r0 r1 r2 r3 g0 g1 g2 p0 p1 p2 p3 p4 p5 p6 p7 p8 p9 p10 z0 z1 z2 z3 y0 y1 y2 y3
  have HW2 := Lib.hid hW2
  clear hrd k1 hb2 hG hZ2 hW2
  rcases HRE.out with ⟨hno, e⟩ | ⟨hno, e, hc0⟩
  · subst e
    have HQQ : Hid (Q = fun e w' => e = .returned (.tuple #[.agg #[.slice none 0 0, .int .i64 0, .int .i64 0, .int .i64 0], .int .i64 0, .int .i64 1]) ∧ Only (fun _ => False) w w') := Lib.hid (by
      rw [← HQ.out, if_pos (.inl hno)]
      funext e w'
      unfold SetAt
      rw [if_neg (by decide)])
    clear hno
    go_wp2_with fail
    rw [← HW2.out]
    refine bodyPost_ret (v := .tuple #[.agg #[.slice none 0 0, .int .i64 0, .int .i64 0, .int .i64 0], .int .i64 0, .int .i64 1]) (by
      have c0 := (HEZ.out 0 _ rfl).1; have c1 := (HEZ.out 1 _ rfl).1; have c2 := (HEZ.out 2 _ rfl).1; have c3 := (HEZ.out 3 _ rfl).1
      simp only [puts] at c0 c1 c2 c3
      simp [results, Try.results50, go_sem, c0, c1, c2, c3]) rfl (by rw [HQQ.out]; exact ⟨rfl, KW.out.then HPZ.out (fun q hq e => by have e' : q = w.heap.size + 2 := e; omega)⟩)
  subst e
  have hQ := HQ.out
  by_cases hg : g = G1
  rotate_left
  · have HQQ : Hid (Q = fun e w' => e = .returned (.tuple #[.agg #[.slice none 0 0, .int .i64 0, .int .i64 0, .int .i64 0], .int .i64 0, .int .i64 1]) ∧ Only (fun _ => False) w w') := Lib.hid (by
      rw [← HQ.out, if_pos (.inr (.inl hg))]
      funext e w'
      unfold SetAt
      rw [if_neg (by decide)])
    obtain ⟨x1, x2⟩ := neI hg
    clear hno hQ hg
    go_wp2_with fail
    rw [← HW2.out]
    refine bodyPost_ret (v := .tuple #[.agg #[.slice none 0 0, .int .i64 0, .int .i64 0, .int .i64 0], .int .i64 0, .int .i64 1]) (by
      have c0 := (HEZ.out 0 _ rfl).1; have c1 := (HEZ.out 1 _ rfl).1; have c2 := (HEZ.out 2 _ rfl).1; have c3 := (HEZ.out 3 _ rfl).1
      simp only [puts] at c0 c1 c2 c3
      simp [results, Try.results50, go_sem, c0, c1, c2, c3]) rfl (by rw [HQQ.out]; exact ⟨rfl, KW.out.then HPZ.out (fun q hq e => by have e' : q = w.heap.size + 2 := e; omega)⟩)
  subst hg
  by_cases hun : un < 0
  · have HQQ : Hid (Q = fun e w' => e = .returned (.tuple #[.agg #[.slice none 0 0, .int .i64 0, .int .i64 0, .int .i64 0], .int .i64 0, .int .i64 1]) ∧ Only (fun _ => False) w w') := Lib.hid (by
      rw [← HQ.out, if_pos (.inr (.inr (.inl hun)))]
      funext e w'
      unfold SetAt
      rw [if_neg (by decide)])
    have x1 : (g != g) = false := by simp
    clear hno hQ
    go_wp2_with fail
    rw [← HW2.out]
    refine bodyPost_ret (v := .tuple #[.agg #[.slice none 0 0, .int .i64 0, .int .i64 0, .int .i64 0], .int .i64 0, .int .i64 1]) (by
      have c0 := (HEZ.out 0 _ rfl).1; have c1 := (HEZ.out 1 _ rfl).1; have c2 := (HEZ.out 2 _ rfl).1; have c3 := (HEZ.out 3 _ rfl).1
      simp only [puts] at c0 c1 c2 c3
      simp [results, Try.results50, go_sem, c0, c1, c2, c3]) rfl (by rw [HQQ.out]; exact ⟨rfl, KW.out.then HPZ.out (fun q hq e => by have e' : q = w.heap.size + 2 := e; omega)⟩)
  by_cases hab : am < 0
  · have HQQ : Hid (Q = fun e w' => e = .returned (.tuple #[.agg #[.slice none 0 0, .int .i64 0, .int .i64 0, .int .i64 0], .int .i64 0, .int .i64 1]) ∧ Only (fun _ => False) w w') := Lib.hid (by
      rw [← HQ.out, if_pos (.inr (.inr (.inr hab)))]
      funext e w'
      unfold SetAt
      rw [if_neg (by decide)])
    have x1 : (g != g) = false := by simp
    clear hno hQ
    go_wp2_with fail
    rw [← HW2.out]
    refine bodyPost_ret (v := .tuple #[.agg #[.slice none 0 0, .int .i64 0, .int .i64 0, .int .i64 0], .int .i64 0, .int .i64 1]) (by
      have c0 := (HEZ.out 0 _ rfl).1; have c1 := (HEZ.out 1 _ rfl).1; have c2 := (HEZ.out 2 _ rfl).1; have c3 := (HEZ.out 3 _ rfl).1
      simp only [puts] at c0 c1 c2 c3
      simp [results, Try.results50, go_sem, c0, c1, c2, c3]) rfl (by rw [HQQ.out]; exact ⟨rfl, KW.out.then HPZ.out (fun q hq e => by have e' : q = w.heap.size + 2 := e; omega)⟩)
  rw [if_neg (fun e => e.elim hno (fun e => e.elim (fun e => e rfl) (fun e => e.elim hun hab)))] at hQ
  have x1 : (g != g) = false := by simp
  by_cases hus : un < u
  · have HQQ : Hid (Q = fun e w' => e = .returned (.tuple #[.agg #[.slice none 0 0, .int .i64 0, .int .i64 0, .int .i64 0], .int .i64 0, .int .i64 19]) ∧ Only (fun _ => False) w w') := Lib.hid (by
      rw [← hQ, if_pos hus]
      funext e w'
      unfold SetAt
      rw [if_neg (by decide)])
    clear hno hQ
    go_wp2_with fail
    rw [← HW2.out]
    refine bodyPost_ret (v := .tuple #[.agg #[.slice none 0 0, .int .i64 0, .int .i64 0, .int .i64 0], .int .i64 0, .int .i64 19]) (by
      have c0 := (HEZ.out 0 _ rfl).1; have c1 := (HEZ.out 1 _ rfl).1; have c2 := (HEZ.out 2 _ rfl).1; have c3 := (HEZ.out 3 _ rfl).1
      simp only [puts] at c0 c1 c2 c3
      simp [results, Try.results50, go_sem, c0, c1, c2, c3]) rfl (by rw [HQQ.out]; exact ⟨rfl, KW.out.then HPZ.out (fun q hq e => by have e' : q = w.heap.size + 2 := e; omega)⟩)
  rw [if_neg hus] at hQ
  by_cases hco : am < cb
  · have HQQ : Hid (Q = fun e w' => e = .returned (.tuple #[.agg #[.slice none 0 0, .int .i64 0, .int .i64 0, .int .i64 0], .int .i64 0, .int .i64 20]) ∧ Only (fun _ => False) w w') := Lib.hid (by
      rw [← hQ, if_pos hco]
      funext e w'
      unfold SetAt
      rw [if_neg (by decide)])
    clear hno hQ
    go_wp2_with fail
    rw [← HW2.out]
    refine bodyPost_ret (v := .tuple #[.agg #[.slice none 0 0, .int .i64 0, .int .i64 0, .int .i64 0], .int .i64 0, .int .i64 20]) (by
      have c0 := (HEZ.out 0 _ rfl).1; have c1 := (HEZ.out 1 _ rfl).1; have c2 := (HEZ.out 2 _ rfl).1; have c3 := (HEZ.out 3 _ rfl).1
      simp only [puts] at c0 c1 c2 c3
      simp [results, Try.results50, go_sem, c0, c1, c2, c3]) rfl (by rw [HQQ.out]; exact ⟨rfl, KW.out.then HPZ.out (fun q hq e => by have e' : q = w.heap.size + 2 := e; omega)⟩)
  rw [if_neg hco] at hQ
  have HQQ : Hid (Q = fun e w' => ∃ a cap, e = .returned (.tuple #[.agg #[.slice a L.length cap, .int .i64 rk, .int .i64 cb, .int .i64 rp], .int .i64 (am - cb), .int .i64 0]) ∧ ReadsN w' a L.length L ∧ Only (fun _ => False) w w') := Lib.hid (by
    rw [← hQ]
    funext e w'
    unfold SetAt
    rw [if_pos rfl])
  have s1 : wrap64 (am - cb) = am - cb := by rw [wrap64_eq]; omega
  have s2 : IntKind.i64.wrap (am - cb) = am - cb := by rw [wrap_i64]; omega
  clear hno hQ
  go_wp2_with fail
  rw [← HW2.out]
  have HS : Hid (∀ w', Only (fun x => x = w.heap.size + 2) W2 w' → Only (fun x => x = w.heap.size + 2) W2 w' ∧ w'.cell? ⟨w1.heap.size, 0, none⟩ = some (.slice al L.length cl) ∧ w'.cell? ⟨w1.heap.size, 1, none⟩ = some (.int .i64 rk) ∧ w'.cell? ⟨w1.heap.size, 2, none⟩ = some (.int .i64 cb) ∧ w'.cell? ⟨w1.heap.size, 3, none⟩ = some (.int .i64 rp) ∧ w'.cell? ⟨w.heap.size, 2, none⟩ = some (.int .i64 am)) := Lib.hid (fun w' ho => by
    have h1 := HB2.out.1.only ho (fun e => by have e' : w1.heap.size = w.heap.size + 2 := e; have := HSZ.out; omega)
    have h2 := (HGB.out.only K2.out (fun f => f)).only ho (fun e => by have e' : w.heap.size = w.heap.size + 2 := e; omega)
    exact ⟨ho, (h1 0 _ rfl).1, (h1 1 _ rfl).1, (h1 2 _ rfl).1, (h1 3 _ rfl).1, (h2 2 _ rfl).1⟩)
  have HEX := Lib.hid (HZ2.out.box.put [.slice al L.length cl, .int .i64 rk, .int .i64 cb, .int .i64 rp] rfl)
  have HPX := Lib.hid (puts_only (w.heap.size + 2) [.slice al L.length cl, .int .i64 rk, .int .i64 cb, .int .i64 rp] 0 W2 W2 (Only.refl (fun x => x = w.heap.size + 2) _) (.inl rfl))
  clear r0 r1 r2 r3 g0 g1 g2 p0 p1 p2 p3 p4 p5 p6 p7 p8 p9 p10
  rw [← HW2.out] at z0 z1 z2 z3 y0 y1 y2 y3
  refine wp_region_noPanic ?_
  refine wp_region_held_drew (S := (fun w' => Only (fun x => x = w.heap.size + 2) W2 w' ∧ w'.cell? ⟨w1.heap.size, 0, none⟩ = some (.slice al L.length cl) ∧ w'.cell? ⟨w1.heap.size, 1, none⟩ = some (.int .i64 rk) ∧ w'.cell? ⟨w1.heap.size, 2, none⟩ = some (.int .i64 cb) ∧ w'.cell? ⟨w1.heap.size, 3, none⟩ = some (.int .i64 rp) ∧ w'.cell? ⟨w.heap.size, 2, none⟩ = some (.int .i64 am))) (by kernel_rfl) (HS.out _ (Only.refl _ _).drew) (fun hHeld => ?_)
  refine wpAnyH_take (i := 0) (v := ?_) rfl (by kernel_rfl) (by kernel_rfl) (by kernel_rfl) (fun _ _ _ h => h) (Or.inl ⟨by rfl, ?_⟩) (by assumption) ?_
  rotate_left 1
  · intro w' hSw
    try dsimp only at hSw
    go_simp
    try with_reducible rfl
  try simp only [List.getElem_toArray, List.getElem_cons_zero, Act.put, List.setIfInBounds_toArray, List.set_cons_zero, List.set_cons_succ]
  refine wpAnyH_take (i := 1) (v := ?_) rfl (by kernel_rfl) (by kernel_rfl) (by kernel_rfl) (fun _ _ _ h => h) (Or.inl ⟨by rfl, ?_⟩) (by assumption) ?_
  rotate_left 1
  · intro w' hSw
    try dsimp only at hSw
    go_simp
    try with_reducible rfl
  try simp only [List.getElem_toArray, List.getElem_cons_zero, List.getElem_cons_succ, Act.put, List.setIfInBounds_toArray, List.set_cons_zero, List.set_cons_succ]
  refine wpAnyH_take (i := 2) (v := ?_) rfl (by kernel_rfl) (by kernel_rfl) (by kernel_rfl) (fun _ _ _ h => h) (Or.inl ⟨by rfl, ?_⟩) (by assumption) ?_
  rotate_left 1
  · intro w' hSw
    try dsimp only at hSw
    go_simp
    try with_reducible rfl
  try simp only [List.getElem_toArray, List.getElem_cons_zero, List.getElem_cons_succ, Act.put, List.setIfInBounds_toArray, List.set_cons_zero, List.set_cons_succ]
  refine wpAnyH_take (i := 3) (v := ?_) rfl (by kernel_rfl) (by kernel_rfl) (by kernel_rfl) (fun _ _ _ h => h) (Or.inl ⟨by rfl, ?_⟩) (by assumption) ?_
  rotate_left 1
  · intro w' hSw
    try dsimp only at hSw
    go_simp
    try with_reducible rfl
  try simp only [List.getElem_toArray, List.getElem_cons_zero, List.getElem_cons_succ, Act.put, List.setIfInBounds_toArray, List.set_cons_zero, List.set_cons_succ]
  refine wpAnyH_take (i := 4) (v := ?_) rfl (by kernel_rfl) (by kernel_rfl) (by kernel_rfl) (fun _ _ _ h => h) (Or.inl ⟨by rfl, ?_⟩) (by assumption) ?_
  rotate_left 1
  · intro w' hSw
    try dsimp only at hSw
    go_simp
    try with_reducible rfl
  try simp only [List.getElem_toArray, List.getElem_cons_zero, List.getElem_cons_succ, Act.put, List.setIfInBounds_toArray, List.set_cons_zero, List.set_cons_succ]
  refine wpAnyH_take (i := 5) (v := ?_) rfl (by kernel_rfl) (by kernel_rfl) (by kernel_rfl) (fun _ _ _ h => h) (Or.inl ⟨by rfl, ?_⟩) (by assumption) ?_
  rotate_left 1
  · intro w' hSw
    try dsimp only at hSw
    go_simp
    try with_reducible rfl
  try simp only [List.getElem_toArray, List.getElem_cons_zero, List.getElem_cons_succ, Act.put, List.setIfInBounds_toArray, List.set_cons_zero, List.set_cons_succ]
  refine wpAnyH_ready (rs := [6]) (by kernel_rfl) (by simp) ?_
  refine AllReadyH.cons rfl (fun K hK => ?_) AllReadyH.nil
  try simp only [List.getElem_toArray, List.getElem_cons_zero, List.getElem_cons_succ]
  go_simp
  refine hK.out _ _ (HS.out _ ?_) (fun hHeld2 => ?_)
  · exact HPX.out.drew
  clear hK K
  try simp only [List.getElem_toArray, List.getElem_cons_zero, List.getElem_cons_succ, Act.put, List.setIfInBounds_toArray, List.set_cons_zero, List.set_cons_succ]
  refine wpAnyH_take (i := 7) (v := ?_) rfl (by kernel_rfl) (by kernel_rfl) (by kernel_rfl) (fun _ _ _ h => h) (Or.inl ⟨by rfl, ?_⟩) (by assumption) ?_
  rotate_left 1
  · intro w' hSw
    try dsimp only at hSw
    go_simp
    try with_reducible rfl
  try simp only [List.getElem_toArray, List.getElem_cons_zero, List.getElem_cons_succ, Act.put, List.setIfInBounds_toArray, List.set_cons_zero, List.set_cons_succ]
  refine wpAnyH_take (i := 8) (v := ?_) rfl (by kernel_rfl) (by kernel_rfl) (by kernel_rfl) (fun _ _ _ h => h) (Or.inl ⟨by rfl, ?_⟩) (by assumption) ?_
  rotate_left 1
  · intro w' hSw
    try dsimp only at hSw
    go_simp
    try with_reducible rfl
  try simp only [List.getElem_toArray, List.getElem_cons_zero, List.getElem_cons_succ, Act.put, List.setIfInBounds_toArray, List.set_cons_zero, List.set_cons_succ]
  refine wpAnyH_done (by kernel_rfl) ?_ _
  refine NoPanic.normal ?_
  go_wp2_with fail
  refine bodyPost_ret (v := .tuple #[.agg #[.slice al L.length cl, .int .i64 rk, .int .i64 cb, .int .i64 rp], .int .i64 (am - cb), .int .i64 0]) (by
    have c0 := (HEX.out 0 _ rfl).1; have c1 := (HEX.out 1 _ rfl).1; have c2 := (HEX.out 2 _ rfl).1; have c3 := (HEX.out 3 _ rfl).1
    simp only [puts] at c0 c1 c2 c3
    simp [results, Try.results50, go_sem, c0, c1, c2, c3]) rfl (by
    rw [HQQ.out]
    exact ⟨al, cl, rfl, (rated_apart HZ2.out.2.1 HZ2.out.1 (Only.refl _ _) HB2.out.2.1 HPO.out HPX.out).only ((Only.refl (fun _ => False) _).drew) (fun _ _ f => f), (KW.out.then HPX.out (fun q hq e => by have e' : q = w.heap.size + 2 := e; omega)).drew⟩)

/-- a settling's answer, in one form -/
theorem set_uni {er k c p l : Int} {L : List Ln} {w w' : World} {e : Ending} (h : SetAt er L k c p l w e w') : ∃ a cap, e = .returned (.tuple #[.agg #[.slice a (if er = 0 then L else []).length cap, .int .i64 (if er = 0 then k else 0), .int .i64 (if er = 0 then c else 0), .int .i64 (if er = 0 then p else 0)], .int .i64 (if er = 0 then l else 0), .int .i64 er]) ∧ ReadsN w' a (if er = 0 then L else []).length (if er = 0 then L else []) ∧ Only (fun _ => False) w w' := by
  unfold SetAt at h
  by_cases he : er = 0
  · rw [if_pos he] at h
    obtain ⟨a, cap, h1, h2, h3⟩ := h
    simp only [if_pos he]
    subst he
    exact ⟨a, cap, h1, h2, h3⟩
  · rw [if_neg he] at h
    simp only [if_neg he]
    exact ⟨none, 0, h.1, ⟨rfl, .inl rfl⟩, h.2⟩

instance : Inhabited Gr := ⟨Gr0⟩
/-- grants in memory -/
def ReadsG (w : World) (a : Option Addr) (len : Nat) (gs : List Gr) : Prop :=
  gs.length = len ∧ (len = 0 ∨ ∃ b off, a = some ⟨b, off, none⟩ ∧ ∀ i, i < len → w.cell? ⟨b, off + i * 4, none⟩ = some (.int .i64 (gs.getD i default).g) ∧ w.cell? ⟨b, off + i * 4 + 1, none⟩ = some (.int .i64 (gs.getD i default).u) ∧ w.cell? ⟨b, off + i * 4 + 2, none⟩ = some (.int .i64 (gs.getD i default).a) ∧ w.cell? ⟨b, off + i * 4 + 3, none⟩ = some (.bool (gs.getD i default).f))
theorem ReadsG.only {S : Nat → Prop} {w w' : World} {a : Option Addr} {len : Nat} {gs : List Gr} (h : ReadsG w a len gs) (ho : Only S w w') (hs : ∀ x, a = some x → ¬ S x.block) : ReadsG w' a len gs := by
  obtain ⟨hl, hc⟩ := h
  refine ⟨hl, ?_⟩
  rcases hc with h0 | ⟨b, off, ha, hcell⟩
  · exact .inl h0
  · have hn : ¬ S b := hs _ ha
    refine .inr ⟨b, off, ha, fun i hi => ?_⟩
    obtain ⟨c0, c1, c2, c3⟩ := hcell i hi
    exact ⟨ho.cell' c0 hn, ho.cell' c1 hn, ho.cell' c2 hn, ho.cell' c3 hn⟩
theorem getG_mem (ls : List Gr) (k : Nat) (h : k < ls.length) : ls.getD k default ∈ ls := by
  have : ls.getD k default = ls[k] := by simp [List.getD, h]
  rw [this]; exact List.getElem_mem h
theorem range_mapG {β : Type} (f : Gr → β) (ls : List Gr) : (List.range ls.length).map (fun j => f (ls.getD j default)) = ls.map f := by
  apply List.ext_getElem
  · simp
  · intro i h1 h2
    simp at h1
    simp [List.getD, h1]
theorem mapG_take_succ (ls : List Gr) (k : Nat) (h : k < ls.length) : (ls.take (k + 1)).map Gr.a = (ls.take k).map Gr.a ++ [(ls.getD k default).a] := by
  rw [List.take_succ_eq_append_getElem h, List.map_append]
  simp [List.getD, h]
set_option maxRecDepth 100000 in
set_option maxHeartbeats 1000000 in
theorem held_any (a : Option Addr) (len cap : Nat) (gs : List Gr) (w : World) (h : ReadsG w a len gs) (hin : ∀ x ∈ gs, InI x.a) (hlen : len ≤ 1000) :
    Calls Try.prog 47 #[.slice a len cap] w fun e w' => e = .returned (.int .i64 (intOr (gs.map Gr.a).sum)) ∧ Only (fun _ => False) w w' := by
  have hmk := run_make_row' (P := Try.prog) 58 3 (.int .i64 0) 8 Try.underlying58 info_i64 rfl .i64 .i64 len (by omega) (by omega)
  have H := Lib.hid h
  have HIN := Lib.hid hin
  have HL : Hid (gs.length = len) := Lib.hid h.1
  have HM := Lib.hid (made_row w len)
  obtain ⟨P, hP⟩ : ∃ P, intOr (gs.map Gr.a).sum = P := ⟨_, rfl⟩
  rw [hP]
  have HPP := Lib.hid hP
  clear h hin hP
  go_enter Try.func47, Try.ntmps47
  go_wp2_with fail
  clear hmk
  go_loopw [13] (fun i wr => ∃ k : Nat, k ≤ len ∧ i = .int .i64 k ∧ Hid (RowI wr w.heap.size len (mixf (fun j => (gs.getD j default).a) (fun _ => 0) k)) ∧ Hid (Only (fun _ => False) w wr)) (fun i _ => len - (intOf i).toNat)
  case atStart => exact ⟨0, by omega, rfl, Lib.hid HM.out.start, Lib.hid ((Only.refl _ w).alloc _)⟩
  case round =>
    obtain ⟨k, hk, rfl, HRW, HO⟩ := hrel
    by_cases h8 : k < len
    · obtain ⟨b, off, rfl, hcell⟩ := H.out.2.resolve_left (by omega)
      obtain ⟨hc0, hc1, hc2, hc3⟩ := hcell k h8
      have c0 := HO.out.cell' hc0 (fun f => f)
      have c1 := HO.out.cell' hc1 (fun f => f)
      have c2 := HO.out.cell' hc2 (fun f => f)
      have c3 := HO.out.cell' hc3 (fun f => f)
      clear hcell hc0 hc1 hc2 hc3
      have HN := Lib.hid (fun o => (HRW.out.only (S := fun _ => False) ((Only.refl _ wr).alloc o) (fun f => f)).next h8)
      have HW := Lib.hid (fun o v => (HO.out.alloc o).setCell (p := ⟨w.heap.size, k, none⟩) (.inr (Nat.le_refl _)) v)
      have HC := Lib.hid (fun o => (HRW.out.only (S := fun _ => False) ((Only.refl _ wr).alloc o) (fun f => f)) k h8)
      generalize gs.getD k default = x at *
      obtain ⟨xg, xu, xa, xf⟩ := x
      dsimp only at c0 c1 c2 c3 HN
      have q := HC.out (.cells #[.int .i64 xg, .int .i64 xu, .int .i64 xa, .bool xf] 72)
      obtain ⟨q0, z0⟩ := q
      go_wp2_with fail
      go_roundw
      case rel => exact ⟨k + 1, by omega, by go_num, Lib.hid (HN.out _), Lib.hid (HW.out _ _)⟩
      case measure => simp [intOf]; omega
    · obtain rfl : k = len := by omega
      have hr := HRW.out.whole.reads (by unfold maxLen; omega) (fun j hj => HIN.out _ (getG_mem gs j (by rw [HL.out]; exact hj)))
      have e : (List.range k).map (fun j => (gs.getD j default).a) = gs.map Gr.a := by rw [← HL.out]; exact range_mapG Gr.a gs
      rw [e] at hr
      have HR := Lib.hid hr
      clear hr e
      go_wp2_with fail
      refine (asum_any _ _ _ (gs.map Gr.a) _ HR.out).mono ?_
      rintro _ _ ⟨rfl, rfl⟩
      rw [HPP.out]
      generalize isInt (gs.map Gr.a).sum = q2 at *
      go_wp2_with fail
      go_ret
      exact ⟨rfl, HO.out⟩
set_option maxRecDepth 100000 in
set_option maxHeartbeats 1000000 in
theorem rheld_any (a : Option Addr) (len cap : Nat) (gs : List Gr) (w : World) (h : ReadsG w a len gs) (hin : ∀ x ∈ gs, InI x.a) (hlen : len ≤ 1000) :
    Calls Try.prog 48 #[.slice a len cap] w fun e w' => e = .returned (.int .i64 (intOr (gs.map Gr.a).sum)) ∧ Only (fun _ => False) w w' := by
  obtain ⟨i0, hi, hz0, hz1, hz2⟩ := info_parts info_i64
  have H := Lib.hid h
  have HIN := Lib.hid hin
  have HL : Hid (gs.length = len) := Lib.hid h.1
  obtain ⟨P, hP⟩ : ∃ P, intOr (gs.map Gr.a).sum = P := ⟨_, rfl⟩
  rw [hP]
  have HPP := Lib.hid hP
  clear h hin hP
  go_enter Try.func48, Try.ntmps48
  go_wp2_with fail
  go_loopw [3, 4] (fun nv i wr => ∃ (k : Nat) (v : Value) (xs : List Int), k ≤ len ∧ i = .int .i64 k ∧ v = nv ∧ xs.length = k ∧ Hid (xs = (gs.take k).map Gr.a) ∧ Hid (OwnI wr v xs) ∧ Hid (∀ q, v.ownBlock = some q → w.heap.size ≤ q) ∧ Hid (Only (fun _ => False) w wr)) (fun _ i _ => len - (intOf i).toNat)
  case atStart => exact ⟨0, _, [], by omega, rfl, rfl, rfl, Lib.hid rfl, Lib.hid (OwnI.nil _), Lib.hid (fun q e => by cases e), Lib.hid (Only.refl _ _)⟩
  case round =>
    obtain ⟨k, v, xs, hk, rfl, rfl, hxl, HX, HOW, HBK, HO⟩ := hrel
    have HXL := Lib.hid hxl
    clear hxl
    by_cases h8 : k < len
    · obtain ⟨b, off, rfl, hcell⟩ := H.out.2.resolve_left (by omega)
      obtain ⟨_, _, hc1, _⟩ := hcell k h8
      have c1 := HO.out.cell' hc1 (fun f => f)
      have HXN : Hid (xs ++ [(gs.getD k default).a] = (gs.take (k + 1)).map Gr.a) := Lib.hid (by rw [HX.out, mapG_take_succ gs k (by rw [HL.out]; exact h8)])
      clear hcell hc1
      generalize (gs.getD k default).a = x at *
      have HOW2 : Hid ((wr.alloc (.cells #[.int .i64 x] 3)).ownsRow 0 3 1 v xs.length (iv xs)) := Lib.hid (owns_only (S := fun _ => False) ((Only.refl _ wr).alloc _) HOW.out (fun _ _ f => f))
      go_wp2_with (at_builtin; refine append_mine rfl _ _ 58 rfl 3 i0 _ 1 8 Try.underlying58 hi hz0 hz1 hz2 rfl (by decide) _ xs.length _ rfl HOW2.out ⟨wr.heap.size, 0, none⟩ 1 1 (iv [x]) rfl ?c1 ?c2 ?c3 ?c4 ?c5 ?_)
      case c1 => rfl
      case c2 => exact news_int rfl _
      case c3 => exact iv_one [x]
      case c4 => have := HXL.out; unfold maxLen; omega
      case c5 => have := HXL.out; omega
      intro v2 w2 hown hgrow hkk
      have HON : Hid (OwnI w2 v2 (xs ++ [x])) := Lib.hid (by unfold OwnI; rw [List.length_append, iv_append]; exact hown)
      have HBK2 : Hid (∀ q, v2.ownBlock = some q → w.heap.size ≤ q) := Lib.hid (fun q hq => by
        rcases hkk q hq with e | e
        · exact HBK.out q e
        · have := HO.out.size
          omega)
      have HO2 : Hid (Only (fun _ => False) w w2) := Lib.hid ((HO.out.alloc _).then (Only.of_grown hgrow) (fun q hq e => by have := HBK.out q e; omega))
      clear hown hgrow hkk HOW2
      go_wp2_with fail
      go_roundw
      case rel => exact ⟨k + 1, v2, xs ++ [x], by omega, by go_num, rfl, by rw [List.length_append, HXL.out]; rfl, HXN, HON, HBK2, HO2⟩
      case measure => simp [intOf]; omega
    · obtain rfl : k = len := by omega
      have hx := HX.out
      rw [List.take_of_length_le (by rw [HL.out]; omega)] at hx
      have hxi : ∀ c ∈ xs, InI c := by
        rw [hx]
        intro c hc
        obtain ⟨y, hy, rfl⟩ := List.mem_map.1 hc
        exact HIN.out y hy
      obtain ⟨av, cv, rfl, hrd⟩ := OwnI.reads HOW.out hxi (by have := HXL.out; omega)
      have HRS := Lib.hid (rsum_any av xs.length cv xs wr hrd)
      rw [hx, ← hx] at HRS
      have HSM : Hid (xs.sum = (gs.map Gr.a).sum) := Lib.hid (by rw [hx])
      rw [HSM.out, HPP.out] at HRS
      clear hx hxi hrd HX HOW HBK
      generalize isInt (gs.map Gr.a).sum = q2 at *
      generalize xs.length = q3 at *
      go_wp2_with fail
      refine HRS.out.mono ?_
      rintro _ w2 ⟨rfl, h2⟩
      have H2 := Lib.hid (HO.out.trans h2)
      clear h2
      go_wp2_with fail
      go_ret
      exact ⟨rfl, H2.out⟩
end Go.Proofs.Ytonacdjaimokeaa.tirw
