/- Grants: what was used of one, and what is left: the program's Settle. -/
import Derived.Test.YtghajamcjcflaaaRatX
import Derived.Test.YtghajamcjcflaaaGrB
namespace Go.Proofs.Ytghajamcjcflaaa.tirw
open Go.RowKit mem tirm intm bigm bigw
set_option linter.unusedVariables false

/-- it isn't settled: the error -/
def stE (D F T G1 M1 B1 G2 M2 B2 : Int) (t1 t2 : List Tr) (g un am now pos u : Int) : Int :=
  if RatNo D F T G1 M1 B1 G2 M2 B2 t1 t2 now pos u ∨ g ≠ G1 ∨ un < 0 ∨ am < 0 then 1 else if un < u then 19 else if am < costB (raL D F T G1 M1 B1 G2 M2 B2 t1 t2 now pos u) then 20 else 0
def SetAt (er : Int) (L : List Ln) (k c p l : Int) (w : World) (e : Ending) (w' : World) : Prop :=
  if er = 0 then ∃ a cap, e = .returned (.tuple #[.agg #[.slice a L.length cap, .int .i64 k, .int .i64 c, .int .i64 p], .int .i64 l, .int .i64 0]) ∧ ReadsN w' a L.length L ∧ Only (fun _ => False) w w'
  else e = .returned (.tuple #[.agg #[.slice none 0 0, .int .i64 0, .int .i64 0, .int .i64 0], .int .i64 0, .int .i64 er]) ∧ Only (fun _ => False) w w'
set_option maxRecDepth 100000 in
set_option maxHeartbeats 2000000 in
theorem settle_any (D F T G1 M1 B1 G2 M2 B2 : Int) (a1 a2 : Option Addr) (n1 n2 c1 c2 : Nat) (t1 t2 : List Tr) (g un am now pos u : Int) (fl : Bool) (w : World) (h1 : ReadsT w a1 n1 t1) (h2 : ReadsT w a2 n2 t2) (hx : now ≤ 9223372036854775807) (ham : am ≤ 9223372036854775807) :
    Calls Try.prog 40 #[.agg #[.int .i64 g, .int .i64 un, .int .i64 am, .bool fl], .agg #[.int .i64 D, .int .i64 F, .int .i64 T, .int .i64 G1, .int .i64 M1, .int .i64 B1, .slice a1 n1 c1, .int .i64 G2, .int .i64 M2, .int .i64 B2, .slice a2 n2 c2], .int .i64 now, .int .i64 pos, .int .i64 u] w (SetAt (stE D F T G1 M1 B1 G2 M2 B2 t1 t2 g un am now pos u) (raL D F T G1 M1 B1 G2 M2 B2 t1 t2 now pos u) (raK D F T G1 M1 B1 G2 M2 B2 t1 t2 now pos u) (costB (raL D F T G1 M1 B1 G2 M2 B2 t1 t2 now pos u)) (raP D F T G1 M1 B1 G2 M2 B2 t1 t2 now pos u) (am - costB (raL D F T G1 M1 B1 G2 M2 B2 t1 t2 now pos u)) w) := by
  have HRT := Lib.hid (fun w' (ho : Only (fun _ => False) w w') => rate_any D F T G1 M1 B1 G2 M2 B2 a1 a2 n1 n2 c1 c2 t1 t2 now pos u w' (h1.only ho (fun _ _ f => f)) (h2.only ho (fun _ _ f => f)) hx)
  have HPO := Lib.hid (ra_pos D F T G1 M1 B1 G2 M2 B2 t1 t2 now pos u)
  obtain ⟨W0, hW0⟩ : ∃ W0, W0 = ((w.alloc (.cells #[.int .i64 g, .int .i64 un, .int .i64 am, .bool fl] 50)).alloc (.cells #[.int .i64 D, .int .i64 F, .int .i64 T, .int .i64 G1, .int .i64 M1, .int .i64 B1, .slice a1 n1 c1, .int .i64 G2, .int .i64 M2, .int .i64 B2, .slice a2 n2 c2] 39)).alloc (.cells #[.slice none 0 0, .int .i64 0, .int .i64 0, .int .i64 0] 66) := ⟨_, rfl⟩
  have HO0 : Hid (Only (fun _ => False) w W0 ∧ W0.heap.size = w.heap.size + 3) := Lib.hid (by rw [hW0]; exact ⟨(((Only.refl _ w).alloc _).alloc _).alloc _, by simp⟩)
  have HGB : Hid (BoxV W0 w.heap.size [.int .i64 g, .int .i64 un, .int .i64 am, .bool fl]) := Lib.hid (by rw [hW0]; exact (BoxV.new w [.int .i64 g, .int .i64 un, .int .i64 am, .bool fl] _ _ rfl).only (((Only.refl (fun _ => False) _).alloc _).alloc _) (fun f => f))
  have HPA : Hid (PlanAt W0 (w.heap.size + 1) D F T G1 M1 B1 G2 M2 B2 a1 a2 n1 n2 c1 c2) := Lib.hid (by
    rw [hW0]
    have h := PlanAt.new (w := w.alloc (.cells #[.int .i64 g, .int .i64 un, .int .i64 am, .bool fl] 50)) D F T G1 M1 B1 G2 M2 B2 a1 a2 n1 n2 c1 c2 39
    have e : (w.alloc (.cells #[.int .i64 g, .int .i64 un, .int .i64 am, .bool fl] 50)).heap.size = w.heap.size + 1 := by simp
    rw [e] at h
    exact h.only ((Only.refl (fun _ => False) _).alloc _) (fun f => f))
  have HZ : Hid (Zr4 W0 (w.heap.size + 2)) := Lib.hid (by
    rw [hW0]
    have h := Zr4.new ((w.alloc (.cells #[.int .i64 g, .int .i64 un, .int .i64 am, .bool fl] 50)).alloc (.cells #[.int .i64 D, .int .i64 F, .int .i64 T, .int .i64 G1, .int .i64 M1, .int .i64 B1, .slice a1 n1 c1, .int .i64 G2, .int .i64 M2, .int .i64 B2, .slice a2 n2 c2] 39)) 66
    have e : ((w.alloc (.cells #[.int .i64 g, .int .i64 un, .int .i64 am, .bool fl] 50)).alloc (.cells #[.int .i64 D, .int .i64 F, .int .i64 T, .int .i64 G1, .int .i64 M1, .int .i64 B1, .slice a1 n1 c1, .int .i64 G2, .int .i64 M2, .int .i64 B2, .slice a2 n2 c2] 39)).heap.size = w.heap.size + 1 + 1 := by simp
    rw [e] at h
    exact h)
  clear h1 h2 hx
  have HRE : Hid (RatNo D F T G1 M1 B1 G2 M2 B2 t1 t2 now pos u ∧ raE D F T G1 M1 B1 G2 M2 B2 t1 t2 now pos u = 1 ∨ ¬ RatNo D F T G1 M1 B1 G2 M2 B2 t1 t2 now pos u ∧ raE D F T G1 M1 B1 G2 M2 B2 t1 t2 now pos u = 0 ∧ 0 ≤ costB (raL D F T G1 M1 B1 G2 M2 B2 t1 t2 now pos u)) := Lib.hid (by
    by_cases h : RatNo D F T G1 M1 B1 G2 M2 B2 t1 t2 now pos u
    · exact .inl ⟨h, (ra_no h).2.2.2⟩
    · exact .inr ⟨h, (ra_side h).2.2.2.2.2.1, (ra_facts h).2.2.1⟩)
  obtain ⟨Q, hQ⟩ : ∃ Q, SetAt (stE D F T G1 M1 B1 G2 M2 B2 t1 t2 g un am now pos u) (raL D F T G1 M1 B1 G2 M2 B2 t1 t2 now pos u) (raK D F T G1 M1 B1 G2 M2 B2 t1 t2 now pos u) (costB (raL D F T G1 M1 B1 G2 M2 B2 t1 t2 now pos u)) (raP D F T G1 M1 B1 G2 M2 B2 t1 t2 now pos u) (am - costB (raL D F T G1 M1 B1 G2 M2 B2 t1 t2 now pos u)) w = Q := ⟨_, rfl⟩
  rw [hQ]
  unfold stE at hQ
  have HQ := Lib.hid hQ
  clear hQ
  generalize raL D F T G1 M1 B1 G2 M2 B2 t1 t2 now pos u = L at *
  generalize raK D F T G1 M1 B1 G2 M2 B2 t1 t2 now pos u = rk at *
  generalize raP D F T G1 M1 B1 G2 M2 B2 t1 t2 now pos u = rp at *
  generalize raE D F T G1 M1 B1 G2 M2 B2 t1 t2 now pos u = re at *
  obtain ⟨cb, hcb⟩ : ∃ c, costB L = c := ⟨_, rfl⟩
  rw [hcb] at HRT HRE HQ
  clear hcb
  go_enter Try.func40, Try.ntmps40
  obtain ⟨p0, p1, p2, p3, p4, p5, p6, p7, p8, p9, p10⟩ := HPA.out
  rw [hW0] at p0 p1 p2 p3 p4 p5 p6 p7 p8 p9 p10
  go_wp2_with fail
  rw [← hW0]
  clear hW0 p0 p1 p2 p3 p4 p5 p6 p7 p8 p9 p10
  refine (HRT.out _ HO0.out.1).mono ?_
  rintro _ w1 ⟨al, cl, rfl, hrd, k1⟩
  obtain ⟨W2, hb2, hW2⟩ := rbox_new k1 cl rk cb rp 66 hrd
  have K2 := Lib.hid hb2.2.2.2
  have KW := Lib.hid (HO0.out.1.trans hb2.2.2.2)
  have HB2 := Lib.hid hb2
  have HSZ : Hid (w.heap.size + 3 ≤ w1.heap.size) := Lib.hid (by have := k1.size; have := HO0.out.2; omega)
  have hZ2 := HZ.out.only K2.out (fun f => f)
  have HZ2 := Lib.hid hZ2
  obtain ⟨r0, r1, r2, r3⟩ := hb2.all
  have hG := HGB.out.only K2.out (fun f => f)
  have g0 := (hG 0 _ rfl).1
  have g1 := (hG 1 _ rfl).1
  have g2 := (hG 2 _ rfl).1
  obtain ⟨p0, p1, p2, p3, p4, p5, p6, p7, p8, p9, p10⟩ := HPA.out.only K2.out (fun f => f)
  obtain ⟨⟨z0, z1, z2, z3⟩, y0, y1, y2, y3⟩ := hZ2.all
  have HEZ := Lib.hid (hZ2.box.put [.slice none 0 0, .int .i64 0, .int .i64 0, .int .i64 0] rfl)
  have HPZ := Lib.hid (puts_only (w.heap.size + 2) [.slice none 0 0, .int .i64 0, .int .i64 0, .int .i64 0] 0 W2 W2 (Only.refl (fun x => x = w.heap.size + 2) _) (.inl rfl))
  rw [hW2] at r0 r1 r2 r3 g0 g1 g2 p0 p1 p2 p3 p4 p5 p6 p7 p8 p9 p10 z0 z1 z2 z3 y0 y1 y2 y3
  have HW2 := Lib.hid hW2
  clear hrd k1 hb2 hG hZ2 hW2
  rcases HRE.out with ⟨hno, e⟩ | ⟨hno, e, hc0⟩
  · subst e
    have HQQ : Hid (Q = fun e w' => e = .returned (.tuple #[.agg #[.slice none 0 0, .int .i64 0, .int .i64 0, .int .i64 0], .int .i64 0, .int .i64 1]) ∧ Only (fun _ => False) w w') := Lib.hid (by
      rw [← HQ.out, if_pos (.inl hno)]
      funext e w'
      unfold SetAt
      rw [if_neg (by decide)])
    clear hno
    go_wp2_with fail
    rw [← HW2.out]
    refine bodyPost_ret (v := .tuple #[.agg #[.slice none 0 0, .int .i64 0, .int .i64 0, .int .i64 0], .int .i64 0, .int .i64 1]) (by
      have c0 := (HEZ.out 0 _ rfl).1; have c1 := (HEZ.out 1 _ rfl).1; have c2 := (HEZ.out 2 _ rfl).1; have c3 := (HEZ.out 3 _ rfl).1
      simp only [puts] at c0 c1 c2 c3
      simp [results, Try.results40, go_sem, c0, c1, c2, c3]) rfl (by rw [HQQ.out]; exact ⟨rfl, KW.out.then HPZ.out (fun q hq e => by have e' : q = w.heap.size + 2 := e; omega)⟩)
  subst e
  have hQ := HQ.out
  by_cases hg : g = G1
  rotate_left
  · have HQQ : Hid (Q = fun e w' => e = .returned (.tuple #[.agg #[.slice none 0 0, .int .i64 0, .int .i64 0, .int .i64 0], .int .i64 0, .int .i64 1]) ∧ Only (fun _ => False) w w') := Lib.hid (by
      rw [← HQ.out, if_pos (.inr (.inl hg))]
      funext e w'
      unfold SetAt
      rw [if_neg (by decide)])
    obtain ⟨x1, x2⟩ := neI hg
    clear hno hQ hg
    go_wp2_with fail
    rw [← HW2.out]
    refine bodyPost_ret (v := .tuple #[.agg #[.slice none 0 0, .int .i64 0, .int .i64 0, .int .i64 0], .int .i64 0, .int .i64 1]) (by
      have c0 := (HEZ.out 0 _ rfl).1; have c1 := (HEZ.out 1 _ rfl).1; have c2 := (HEZ.out 2 _ rfl).1; have c3 := (HEZ.out 3 _ rfl).1
      simp only [puts] at c0 c1 c2 c3
      simp [results, Try.results40, go_sem, c0, c1, c2, c3]) rfl (by rw [HQQ.out]; exact ⟨rfl, KW.out.then HPZ.out (fun q hq e => by have e' : q = w.heap.size + 2 := e; omega)⟩)
  subst hg
  by_cases hun : un < 0
  · have HQQ : Hid (Q = fun e w' => e = .returned (.tuple #[.agg #[.slice none 0 0, .int .i64 0, .int .i64 0, .int .i64 0], .int .i64 0, .int .i64 1]) ∧ Only (fun _ => False) w w') := Lib.hid (by
      rw [← HQ.out, if_pos (.inr (.inr (.inl hun)))]
      funext e w'
      unfold SetAt
      rw [if_neg (by decide)])
    have x1 : (g != g) = false := by simp
    clear hno hQ
    go_wp2_with fail
    rw [← HW2.out]
    refine bodyPost_ret (v := .tuple #[.agg #[.slice none 0 0, .int .i64 0, .int .i64 0, .int .i64 0], .int .i64 0, .int .i64 1]) (by
      have c0 := (HEZ.out 0 _ rfl).1; have c1 := (HEZ.out 1 _ rfl).1; have c2 := (HEZ.out 2 _ rfl).1; have c3 := (HEZ.out 3 _ rfl).1
      simp only [puts] at c0 c1 c2 c3
      simp [results, Try.results40, go_sem, c0, c1, c2, c3]) rfl (by rw [HQQ.out]; exact ⟨rfl, KW.out.then HPZ.out (fun q hq e => by have e' : q = w.heap.size + 2 := e; omega)⟩)
  by_cases hab : am < 0
  · have HQQ : Hid (Q = fun e w' => e = .returned (.tuple #[.agg #[.slice none 0 0, .int .i64 0, .int .i64 0, .int .i64 0], .int .i64 0, .int .i64 1]) ∧ Only (fun _ => False) w w') := Lib.hid (by
      rw [← HQ.out, if_pos (.inr (.inr (.inr hab)))]
      funext e w'
      unfold SetAt
      rw [if_neg (by decide)])
    have x1 : (g != g) = false := by simp
    clear hno hQ
    go_wp2_with fail
    rw [← HW2.out]
    refine bodyPost_ret (v := .tuple #[.agg #[.slice none 0 0, .int .i64 0, .int .i64 0, .int .i64 0], .int .i64 0, .int .i64 1]) (by
      have c0 := (HEZ.out 0 _ rfl).1; have c1 := (HEZ.out 1 _ rfl).1; have c2 := (HEZ.out 2 _ rfl).1; have c3 := (HEZ.out 3 _ rfl).1
      simp only [puts] at c0 c1 c2 c3
      simp [results, Try.results40, go_sem, c0, c1, c2, c3]) rfl (by rw [HQQ.out]; exact ⟨rfl, KW.out.then HPZ.out (fun q hq e => by have e' : q = w.heap.size + 2 := e; omega)⟩)
  rw [if_neg (fun e => e.elim hno (fun e => e.elim (fun e => e rfl) (fun e => e.elim hun hab)))] at hQ
  have x1 : (g != g) = false := by simp
  by_cases hus : un < u
  · have HQQ : Hid (Q = fun e w' => e = .returned (.tuple #[.agg #[.slice none 0 0, .int .i64 0, .int .i64 0, .int .i64 0], .int .i64 0, .int .i64 19]) ∧ Only (fun _ => False) w w') := Lib.hid (by
      rw [← hQ, if_pos hus]
      funext e w'
      unfold SetAt
      rw [if_neg (by decide)])
    clear hno hQ
    go_wp2_with fail
    rw [← HW2.out]
    refine bodyPost_ret (v := .tuple #[.agg #[.slice none 0 0, .int .i64 0, .int .i64 0, .int .i64 0], .int .i64 0, .int .i64 19]) (by
      have c0 := (HEZ.out 0 _ rfl).1; have c1 := (HEZ.out 1 _ rfl).1; have c2 := (HEZ.out 2 _ rfl).1; have c3 := (HEZ.out 3 _ rfl).1
      simp only [puts] at c0 c1 c2 c3
      simp [results, Try.results40, go_sem, c0, c1, c2, c3]) rfl (by rw [HQQ.out]; exact ⟨rfl, KW.out.then HPZ.out (fun q hq e => by have e' : q = w.heap.size + 2 := e; omega)⟩)
  rw [if_neg hus] at hQ
  by_cases hco : am < cb
  · have HQQ : Hid (Q = fun e w' => e = .returned (.tuple #[.agg #[.slice none 0 0, .int .i64 0, .int .i64 0, .int .i64 0], .int .i64 0, .int .i64 20]) ∧ Only (fun _ => False) w w') := Lib.hid (by
      rw [← hQ, if_pos hco]
      funext e w'
      unfold SetAt
      rw [if_neg (by decide)])
    clear hno hQ
    go_wp2_with fail
    rw [← HW2.out]
    refine bodyPost_ret (v := .tuple #[.agg #[.slice none 0 0, .int .i64 0, .int .i64 0, .int .i64 0], .int .i64 0, .int .i64 20]) (by
      have c0 := (HEZ.out 0 _ rfl).1; have c1 := (HEZ.out 1 _ rfl).1; have c2 := (HEZ.out 2 _ rfl).1; have c3 := (HEZ.out 3 _ rfl).1
      simp only [puts] at c0 c1 c2 c3
      simp [results, Try.results40, go_sem, c0, c1, c2, c3]) rfl (by rw [HQQ.out]; exact ⟨rfl, KW.out.then HPZ.out (fun q hq e => by have e' : q = w.heap.size + 2 := e; omega)⟩)
  rw [if_neg hco] at hQ
  have HQQ : Hid (Q = fun e w' => ∃ a cap, e = .returned (.tuple #[.agg #[.slice a L.length cap, .int .i64 rk, .int .i64 cb, .int .i64 rp], .int .i64 (am - cb), .int .i64 0]) ∧ ReadsN w' a L.length L ∧ Only (fun _ => False) w w') := Lib.hid (by
    rw [← hQ]
    funext e w'
    unfold SetAt
    rw [if_pos rfl])
  have s1 : wrap64 (am - cb) = am - cb := by rw [wrap64_eq]; omega
  have s2 : IntKind.i64.wrap (am - cb) = am - cb := by rw [wrap_i64]; omega
  clear hno hQ
  go_wp2_with fail
  rw [← HW2.out]
  have HS : Hid (∀ w', Only (fun x => x = w.heap.size + 2) W2 w' → Only (fun x => x = w.heap.size + 2) W2 w' ∧ w'.cell? ⟨w1.heap.size, 0, none⟩ = some (.slice al L.length cl) ∧ w'.cell? ⟨w1.heap.size, 1, none⟩ = some (.int .i64 rk) ∧ w'.cell? ⟨w1.heap.size, 2, none⟩ = some (.int .i64 cb) ∧ w'.cell? ⟨w1.heap.size, 3, none⟩ = some (.int .i64 rp) ∧ w'.cell? ⟨w.heap.size, 2, none⟩ = some (.int .i64 am)) := Lib.hid (fun w' ho => by
    have h1 := HB2.out.1.only ho (fun e => by have e' : w1.heap.size = w.heap.size + 2 := e; have := HSZ.out; omega)
    have h2 := (HGB.out.only K2.out (fun f => f)).only ho (fun e => by have e' : w.heap.size = w.heap.size + 2 := e; omega)
    exact ⟨ho, (h1 0 _ rfl).1, (h1 1 _ rfl).1, (h1 2 _ rfl).1, (h1 3 _ rfl).1, (h2 2 _ rfl).1⟩)
  have HEX := Lib.hid (HZ2.out.box.put [.slice al L.length cl, .int .i64 rk, .int .i64 cb, .int .i64 rp] rfl)
  have HPX := Lib.hid (puts_only (w.heap.size + 2) [.slice al L.length cl, .int .i64 rk, .int .i64 cb, .int .i64 rp] 0 W2 W2 (Only.refl (fun x => x = w.heap.size + 2) _) (.inl rfl))
  clear r0 r1 r2 r3 g0 g1 g2 p0 p1 p2 p3 p4 p5 p6 p7 p8 p9 p10
  rw [← HW2.out] at z0 z1 z2 z3 y0 y1 y2 y3
  refine wp_region_noPanic ?_
  refine wp_region_held_drew (S := (fun w' => Only (fun x => x = w.heap.size + 2) W2 w' ∧ w'.cell? ⟨w1.heap.size, 0, none⟩ = some (.slice al L.length cl) ∧ w'.cell? ⟨w1.heap.size, 1, none⟩ = some (.int .i64 rk) ∧ w'.cell? ⟨w1.heap.size, 2, none⟩ = some (.int .i64 cb) ∧ w'.cell? ⟨w1.heap.size, 3, none⟩ = some (.int .i64 rp) ∧ w'.cell? ⟨w.heap.size, 2, none⟩ = some (.int .i64 am))) (by kernel_rfl) (HS.out _ (Only.refl _ _).drew) (fun hHeld => ?_)
  refine wpAnyH_take (i := 0) (v := ?_) rfl (by kernel_rfl) (by kernel_rfl) (by kernel_rfl) (fun _ _ _ h => h) (Or.inl ⟨by rfl, ?_⟩) (by assumption) ?_
  rotate_left 1
  · intro w' hSw
    try dsimp only at hSw
    go_simp
    try with_reducible rfl
  try simp only [List.getElem_toArray, List.getElem_cons_zero, Act.put, List.setIfInBounds_toArray, List.set_cons_zero, List.set_cons_succ]
  refine wpAnyH_take (i := 1) (v := ?_) rfl (by kernel_rfl) (by kernel_rfl) (by kernel_rfl) (fun _ _ _ h => h) (Or.inl ⟨by rfl, ?_⟩) (by assumption) ?_
  rotate_left 1
  · intro w' hSw
    try dsimp only at hSw
    go_simp
    try with_reducible rfl
  try simp only [List.getElem_toArray, List.getElem_cons_zero, List.getElem_cons_succ, Act.put, List.setIfInBounds_toArray, List.set_cons_zero, List.set_cons_succ]
  refine wpAnyH_take (i := 2) (v := ?_) rfl (by kernel_rfl) (by kernel_rfl) (by kernel_rfl) (fun _ _ _ h => h) (Or.inl ⟨by rfl, ?_⟩) (by assumption) ?_
  rotate_left 1
  · intro w' hSw
    try dsimp only at hSw
    go_simp
    try with_reducible rfl
  try simp only [List.getElem_toArray, List.getElem_cons_zero, List.getElem_cons_succ, Act.put, List.setIfInBounds_toArray, List.set_cons_zero, List.set_cons_succ]
  refine wpAnyH_take (i := 3) (v := ?_) rfl (by kernel_rfl) (by kernel_rfl) (by kernel_rfl) (fun _ _ _ h => h) (Or.inl ⟨by rfl, ?_⟩) (by assumption) ?_
  rotate_left 1
  · intro w' hSw
    try dsimp only at hSw
    go_simp
    try with_reducible rfl
  try simp only [List.getElem_toArray, List.getElem_cons_zero, List.getElem_cons_succ, Act.put, List.setIfInBounds_toArray, List.set_cons_zero, List.set_cons_succ]
  refine wpAnyH_take (i := 4) (v := ?_) rfl (by kernel_rfl) (by kernel_rfl) (by kernel_rfl) (fun _ _ _ h => h) (Or.inl ⟨by rfl, ?_⟩) (by assumption) ?_
  rotate_left 1
  · intro w' hSw
    try dsimp only at hSw
    go_simp
    try with_reducible rfl
  try simp only [List.getElem_toArray, List.getElem_cons_zero, List.getElem_cons_succ, Act.put, List.setIfInBounds_toArray, List.set_cons_zero, List.set_cons_succ]
  refine wpAnyH_take (i := 5) (v := ?_) rfl (by kernel_rfl) (by kernel_rfl) (by kernel_rfl) (fun _ _ _ h => h) (Or.inl ⟨by rfl, ?_⟩) (by assumption) ?_
  rotate_left 1
  · intro w' hSw
    try dsimp only at hSw
    go_simp
    try with_reducible rfl
  try simp only [List.getElem_toArray, List.getElem_cons_zero, List.getElem_cons_succ, Act.put, List.setIfInBounds_toArray, List.set_cons_zero, List.set_cons_succ]
  refine wpAnyH_ready (rs := [6]) (by kernel_rfl) (by simp) ?_
  refine AllReadyH.cons rfl (fun K hK => ?_) AllReadyH.nil
  try simp only [List.getElem_toArray, List.getElem_cons_zero, List.getElem_cons_succ]
  go_simp
  refine hK.out _ _ (HS.out _ ?_) (fun hHeld2 => ?_)
  · exact HPX.out.drew
  clear hK K
  try simp only [List.getElem_toArray, List.getElem_cons_zero, List.getElem_cons_succ, Act.put, List.setIfInBounds_toArray, List.set_cons_zero, List.set_cons_succ]
  refine wpAnyH_take (i := 7) (v := ?_) rfl (by kernel_rfl) (by kernel_rfl) (by kernel_rfl) (fun _ _ _ h => h) (Or.inl ⟨by rfl, ?_⟩) (by assumption) ?_
  rotate_left 1
  · intro w' hSw
    try dsimp only at hSw
    go_simp
    try with_reducible rfl
  try simp only [List.getElem_toArray, List.getElem_cons_zero, List.getElem_cons_succ, Act.put, List.setIfInBounds_toArray, List.set_cons_zero, List.set_cons_succ]
  refine wpAnyH_take (i := 8) (v := ?_) rfl (by kernel_rfl) (by kernel_rfl) (by kernel_rfl) (fun _ _ _ h => h) (Or.inl ⟨by rfl, ?_⟩) (by assumption) ?_
  rotate_left 1
  · intro w' hSw
    try dsimp only at hSw
    go_simp
    try with_reducible rfl
  try simp only [List.getElem_toArray, List.getElem_cons_zero, List.getElem_cons_succ, Act.put, List.setIfInBounds_toArray, List.set_cons_zero, List.set_cons_succ]
  refine wpAnyH_done (by kernel_rfl) ?_ _
  refine NoPanic.normal ?_
  go_wp2_with fail
  refine bodyPost_ret (v := .tuple #[.agg #[.slice al L.length cl, .int .i64 rk, .int .i64 cb, .int .i64 rp], .int .i64 (am - cb), .int .i64 0]) (by
    have c0 := (HEX.out 0 _ rfl).1; have c1 := (HEX.out 1 _ rfl).1; have c2 := (HEX.out 2 _ rfl).1; have c3 := (HEX.out 3 _ rfl).1
    simp only [puts] at c0 c1 c2 c3
    simp [results, Try.results40, go_sem, c0, c1, c2, c3]) rfl (by
    rw [HQQ.out]
    exact ⟨al, cl, rfl, (rated_apart HZ2.out.2.1 HZ2.out.1 (Only.refl _ _) HB2.out.2.1 HPO.out HPX.out).only ((Only.refl (fun _ => False) _).drew) (fun _ _ f => f), (KW.out.then HPX.out (fun q hq e => by have e' : q = w.heap.size + 2 := e; omega)).drew⟩)
end Go.Proofs.Ytghajamcjcflaaa.tirw
