/- Lines: what they cost: the document's. -/
import Derived.Test.YtonacdjaimokeaaTirI
namespace Go.Proofs.Ytonacdjaimokeaa.tirw
open Go.RowKit mem tirm intm bigm bigw
set_option linter.unusedVariables false

theorem swap_exit {Q : Exit → Act → World → Prop} {e : Exit} {a : Act} {w w' : World} (h : w' = w) (k : Q e a w') : Q e a w := by subst h; exact k
def zeros11 : Array Value := #[.int .u64 0, .int .u64 0, .int .u64 0, .int .u64 0, .int .u64 0, .int .u64 0, .int .u64 0, .int .u64 0, .int .u64 0, .int .u64 0, .bool false]
/-- a number's box -/
def BoxS (w : World) (g : Nat) (z : Int) : Prop := ∀ j v, (lits z)[j]? = some v → w.cell? ⟨g, j, none⟩ = some v ∧ w.frozen? ⟨g, j, none⟩ = false
theorem BoxS.only {w w' : World} {g : Nat} {z : Int} (h : BoxS w g z) (ho : Only (fun _ => False) w w') : BoxS w' g z := fun j v hj => by
  obtain ⟨h1, h2⟩ := h j v hj
  exact ⟨ho.cell' h1 (fun f => f), (ho.frozen (p := ⟨g, j, none⟩) (World.block_lt_of_cell? w _ h1) (fun f => f)).trans h2⟩
theorem BoxS.new (w : World) (z : Int) (g : Nat) (hg : g = w.heap.size) : BoxS (w.alloc (.cells (lits z).toArray 114)) g z := fun j v hj => by
  subst hg
  exact ⟨alloc_new _ _ _ _ _ _ rfl (by rw [List.getElem?_toArray]; exact hj), alloc_froz _ _ _ _ _ rfl⟩
theorem BoxS.put {w : World} {g : Nat} {z : Int} (h : BoxS w g z) (y : Int) : BoxS (puts g 0 (lits y) w) g y := by
  have hex : ∀ j, j < 11 → ∃ u, (lits z)[j]? = some u := fun j hj => ⟨(lits z)[j]'hj, List.getElem?_eq_getElem _⟩
  intro j v hj
  refine ⟨puts_cell g (lits y) 0 w ?_ j v (.inr ⟨Nat.zero_le _, by rw [Nat.sub_zero]; exact hj⟩), ?_⟩
  · intro i hi
    obtain ⟨u, hu⟩ := hex i (by rw [Nat.zero_add] at hi; exact hi)
    exact ⟨u, (h i u hu).1⟩
  · rw [puts_frozen]
    have hlt : j < 11 := by
      rcases Nat.lt_or_ge j 11 with g | g
      · exact g
      · rw [List.getElem?_eq_none (show (lits y).length ≤ j from g)] at hj; cases hj
    obtain ⟨u, hu⟩ := hex j hlt
    exact (h j u hu).2
/-- the facts of a box, one by one -/
def Box22 (w : World) (g : Nat) (z : Int) : Prop :=
  (w.cell? ⟨g, 0, none⟩ = some (.int .u64 (limb z.natAbs 0 : Int)) ∧ w.cell? ⟨g, 1, none⟩ = some (.int .u64 (limb z.natAbs 1 : Int)) ∧ w.cell? ⟨g, 2, none⟩ = some (.int .u64 (limb z.natAbs 2 : Int)) ∧ w.cell? ⟨g, 3, none⟩ = some (.int .u64 (limb z.natAbs 3 : Int)) ∧ w.cell? ⟨g, 4, none⟩ = some (.int .u64 (limb z.natAbs 4 : Int)) ∧ w.cell? ⟨g, 5, none⟩ = some (.int .u64 (limb z.natAbs 5 : Int)) ∧ w.cell? ⟨g, 6, none⟩ = some (.int .u64 (limb z.natAbs 6 : Int)) ∧ w.cell? ⟨g, 7, none⟩ = some (.int .u64 (limb z.natAbs 7 : Int)) ∧ w.cell? ⟨g, 8, none⟩ = some (.int .u64 (limb z.natAbs 8 : Int)) ∧ w.cell? ⟨g, 9, none⟩ = some (.int .u64 (limb z.natAbs 9 : Int)) ∧ w.cell? ⟨g, 10, none⟩ = some (.bool (decide (z < 0)))) ∧
  (w.frozen? ⟨g, 0, none⟩ = false ∧ w.frozen? ⟨g, 1, none⟩ = false ∧ w.frozen? ⟨g, 2, none⟩ = false ∧ w.frozen? ⟨g, 3, none⟩ = false ∧ w.frozen? ⟨g, 4, none⟩ = false ∧ w.frozen? ⟨g, 5, none⟩ = false ∧ w.frozen? ⟨g, 6, none⟩ = false ∧ w.frozen? ⟨g, 7, none⟩ = false ∧ w.frozen? ⟨g, 8, none⟩ = false ∧ w.frozen? ⟨g, 9, none⟩ = false ∧ w.frozen? ⟨g, 10, none⟩ = false)
theorem BoxS.all {w : World} {g : Nat} {z : Int} (h : BoxS w g z) : Box22 w g z :=
  ⟨⟨(h 0 _ rfl).1, (h 1 _ rfl).1, (h 2 _ rfl).1, (h 3 _ rfl).1, (h 4 _ rfl).1, (h 5 _ rfl).1, (h 6 _ rfl).1, (h 7 _ rfl).1, (h 8 _ rfl).1, (h 9 _ rfl).1, (h 10 _ rfl).1⟩,
   ⟨(h 0 _ rfl).2, (h 1 _ rfl).2, (h 2 _ rfl).2, (h 3 _ rfl).2, (h 4 _ rfl).2, (h 5 _ rfl).2, (h 6 _ rfl).2, (h 7 _ rfl).2, (h 8 _ rfl).2, (h 9 _ rfl).2, (h 10 _ rfl).2⟩⟩
theorem head_box {w wr : World} {z : Int} (h : HeadS w wr z) : BoxS wr w.heap.size z := h.1
theorem heads_put2 {w wr w2 : World} {z : Int} (y : Int) (h : HeadS w wr z) (ho : Only (fun _ => False) wr w2) : ∃ W, HeadS w W y ∧ W = ((((((((((w2.setCell ⟨w.heap.size, 0, none⟩ (.int .u64 (limb y.natAbs 0 : Int))).setCell ⟨w.heap.size, 1, none⟩ (.int .u64 (limb y.natAbs 1 : Int))).setCell ⟨w.heap.size, 2, none⟩ (.int .u64 (limb y.natAbs 2 : Int))).setCell ⟨w.heap.size, 3, none⟩ (.int .u64 (limb y.natAbs 3 : Int))).setCell ⟨w.heap.size, 4, none⟩ (.int .u64 (limb y.natAbs 4 : Int))).setCell ⟨w.heap.size, 5, none⟩ (.int .u64 (limb y.natAbs 5 : Int))).setCell ⟨w.heap.size, 6, none⟩ (.int .u64 (limb y.natAbs 6 : Int))).setCell ⟨w.heap.size, 7, none⟩ (.int .u64 (limb y.natAbs 7 : Int))).setCell ⟨w.heap.size, 8, none⟩ (.int .u64 (limb y.natAbs 8 : Int))).setCell ⟨w.heap.size, 9, none⟩ (.int .u64 (limb y.natAbs 9 : Int))).setCell ⟨w.heap.size, 10, none⟩ (.bool (decide (y < 0))) :=
  ⟨_, heads_put h ho, rfl⟩
theorem costB_take (ls : List Ln) (k : Nat) (h : k < ls.length) : costB (ls.take (k + 1)) = costB (ls.take k) + (ls.getD k default).b * (ls.getD k default).p := by
  rw [costB_map, costB_map, List.take_succ_eq_append_getElem h, List.map_append, List.sum_append]
  simp [List.getD, h]

theorem box_put {wr wn : World} {g : Nat} {z : Int} (m : Int) (hbx : BoxS wn g z) (ho : Only (fun _ => False) wr wn) (hg : wr.heap.size ≤ g) : ∃ W, BoxS W g m ∧ Only (fun _ => False) wr W ∧ W = ((((((((((wn.setCell ⟨g, 0, none⟩ (.int .u64 (limb m.natAbs 0 : Int))).setCell ⟨g, 1, none⟩ (.int .u64 (limb m.natAbs 1 : Int))).setCell ⟨g, 2, none⟩ (.int .u64 (limb m.natAbs 2 : Int))).setCell ⟨g, 3, none⟩ (.int .u64 (limb m.natAbs 3 : Int))).setCell ⟨g, 4, none⟩ (.int .u64 (limb m.natAbs 4 : Int))).setCell ⟨g, 5, none⟩ (.int .u64 (limb m.natAbs 5 : Int))).setCell ⟨g, 6, none⟩ (.int .u64 (limb m.natAbs 6 : Int))).setCell ⟨g, 7, none⟩ (.int .u64 (limb m.natAbs 7 : Int))).setCell ⟨g, 8, none⟩ (.int .u64 (limb m.natAbs 8 : Int))).setCell ⟨g, 9, none⟩ (.int .u64 (limb m.natAbs 9 : Int))).setCell ⟨g, 10, none⟩ (.bool (decide (m < 0))) :=
  ⟨_, hbx.put m, puts_only g (lits m) 0 wr wn ho (.inr hg), rfl⟩
theorem box_new {wr wn : World} (m : Int) (ho : Only (fun _ => False) wr wn) : ∃ W, BoxS W wn.heap.size m ∧ Only (fun _ => False) wr W ∧ W = wn.alloc (.cells #[.int .u64 (limb m.natAbs 0 : Int), .int .u64 (limb m.natAbs 1 : Int), .int .u64 (limb m.natAbs 2 : Int), .int .u64 (limb m.natAbs 3 : Int), .int .u64 (limb m.natAbs 4 : Int), .int .u64 (limb m.natAbs 5 : Int), .int .u64 (limb m.natAbs 6 : Int), .int .u64 (limb m.natAbs 7 : Int), .int .u64 (limb m.natAbs 8 : Int), .int .u64 (limb m.natAbs 9 : Int), .bool (decide (m < 0))] 114) :=
  ⟨_, BoxS.new wn m _ rfl, ho.alloc _, rfl⟩

set_option maxRecDepth 100000 in
set_option maxHeartbeats 1000000 in
theorem rcost_any (a : Option Addr) (len cap : Nat) (ls : List Ln) (w : World) (h : ReadsN w a len ls) (hin : LnsI ls) (hlen : len ≤ 100000) :
    Calls Try.prog 25 #[.slice a len cap] w (CostAt ls w) := by
  have H := Lib.hid h
  have HIN := Lib.hid hin
  have HL : Hid (ls.length = len) := Lib.hid h.1
  clear h hin
  go_enter Try.func25, Try.ntmps25
  go_wp2_with fail
  refine (of_sb 0 (by omega) w).mono ?_
  rintro _ w1 ⟨rfl, h1⟩
  rw [sb_zero]
  have HO1 := Lib.hid h1
  have HH0 := Lib.hid (heads_start w1)
  clear h1
  go_wp2_with fail
  go_loopw [5] (fun i wr => ∃ (k : Nat) (z : Int), k ≤ len ∧ i = .int .i64 k ∧ z.natAbs ≤ k * 9223372036854775808 ∧ Hid (z = costB (ls.take k)) ∧ Hid (∀ j, j < k → isInt ((ls.getD j default).b * (ls.getD j default).p) = true) ∧ Hid (HeadS w1 wr z)) (fun i _ => len - (intOf i).toNat)
  case atStart => exact ⟨0, 0, by omega, rfl, by simp, Lib.hid rfl, Lib.hid (fun j hj => by omega), HH0⟩
  case round =>
    obtain ⟨k, z, hk, rfl, hz, HZ, HAL, HH⟩ := hrel
    have HZB := Lib.hid hz
    clear hz
    by_cases h8 : k < len
    · obtain ⟨b, off, rfl, hcell⟩ := H.out.2.resolve_left (by omega)
      obtain ⟨_, hc1, hc2⟩ := hcell k h8
      have c1 := (HO1.out.trans HH.out.2.1).cell' hc1 (fun f => f)
      have c2 := (HO1.out.trans HH.out.2.1).cell' hc2 (fun f => f)
      clear hcell hc1 hc2
      have HMEM := Lib.hid (getN_mem ls k (by rw [HL.out]; exact h8))
      have HCT := Lib.hid (costB_take ls k (by rw [HL.out]; exact h8))
      have HAL2 : Hid (isInt ((ls.getD k default).b * (ls.getD k default).p) = true → ∀ j, j < k + 1 → isInt ((ls.getD j default).b * (ls.getD j default).p) = true) := Lib.hid (fun he j hj => by
        by_cases e : j = k
        · subst e; exact he
        · exact HAL.out j (by omega))
      have HX := Lib.hid (HIN.out _ HMEM.out)
      have HNO := Lib.hid (fun e => cost_no HMEM.out e)
      generalize ls.getD k default = x at *
      obtain ⟨xt, xb, xp⟩ := x
      dsimp only at c1 c2 HAL2 HX HNO HCT
      have HOB := Lib.hid (fun w => of_sb xb HX.out.2.1 w)
      have HOP := Lib.hid (fun w => of_sb xp HX.out.2.2 w)
      have hbn : xb.natAbs ≤ 85070591730234615865843651857942052864 := by have := HX.out.2.1; unfold InI at this; omega
      have hpn : xp.natAbs ≤ 85070591730234615865843651857942052864 := by have := HX.out.2.2; unfold InI at this; omega
      have HTI := Lib.hid (fun w => times_any xb xp (lt5 hbn) (lt5 hpn) w)
      have hmn := mul_le HX.out.2.1 HX.out.2.2
      have HBI := Lib.hid (fun w => bint_any (xb * xp) (lt10 hmn) w)
      generalize xb * xp = m at *
      clear hbn hpn
      have HS : Hid (∀ w', Only (fun _ => False) wr w' → Only (fun _ => False) wr w' ∧ w'.cell? ⟨b, off + k * 3 + 1, none⟩ = some (.int .i64 xb) ∧ w'.cell? ⟨b, off + k * 3 + 2, none⟩ = some (.int .i64 xp)) := Lib.hid (fun w' ho => ⟨ho, ho.cell' c1 (fun f => f), ho.cell' c2 (fun f => f)⟩)
      have HNEW : Hid (∀ (W W' : World), Only (fun _ => False) ((W.alloc (.cells #[.int .u64 0, .int .u64 0, .int .u64 0, .int .u64 0, .int .u64 0, .int .u64 0, .int .u64 0, .int .u64 0, .int .u64 0, .int .u64 0, .bool false] 114)).drew) W' → BoxS W' W.heap.size 0) := Lib.hid (fun W W' ho => (BoxS.new W 0 _ rfl).only ((Only.refl (fun _ => False) _).drew.trans ho))
      have HNEW2 : Hid (∀ (W W' : World), Only (fun _ => False) (W.alloc (.cells #[.int .u64 0, .int .u64 0, .int .u64 0, .int .u64 0, .int .u64 0, .int .u64 0, .int .u64 0, .int .u64 0, .int .u64 0, .int .u64 0, .bool false] 114)) W' → BoxS W' W.heap.size 0) := Lib.hid (fun W W' ho => (BoxS.new W 0 _ rfl).only ho)
      go_wp2_with fail
      go_region_held3 (fun w' => Only (fun _ => False) wr w' ∧ w'.cell? ⟨b, off + k * 3 + 1, none⟩ = some (.int .i64 xb) ∧ w'.cell? ⟨b, off + k * 3 + 2, none⟩ = some (.int .i64 xp))
        ((refine HS.out _ ?_; first | with_reducible exact Only.refl _ _ | with_reducible exact (Only.refl _ _).drew | with_reducible exact (Only.refl _ _).alloc _ | with_reducible exact ((Only.refl _ _).alloc _).drew | with_reducible exact ((Only.refl _ _).drew).alloc _ | with_reducible exact ((Only.refl _ _).drew).trans ho | with_reducible exact hot.out.alloc _ | with_reducible exact hot.out | exact puts_only _ (lits m) 0 wr _ hot.out (.inr (by first | exact Nat.le_refl _ | assumption))))
        (first | (go_at_call 60; (with_reducible refine (HOB.out _).mono ?_); rintro _ wn ⟨rfl, ho⟩; have hot := Lib.hid (show Only (fun _ => False) wr wn from by go_split_ands; exact Only.trans (by assumption) ho); have hsz := hot.out.size; (try (with_reducible have hbx := HNEW.out _ _ ho)); (try (with_reducible have hbx := HNEW2.out _ _ ho)); (try (with_reducible have hbx := hbx.only ho))) | (go_at_call 60; (with_reducible refine (HOP.out _).mono ?_); rintro _ wn ⟨rfl, ho⟩; have hot := Lib.hid (show Only (fun _ => False) wr wn from by go_split_ands; exact Only.trans (by assumption) ho); have hsz := hot.out.size; (try (with_reducible have hbx := HNEW.out _ _ ho)); (try (with_reducible have hbx := HNEW2.out _ _ ho)); (try (with_reducible have hbx := hbx.only ho))) | (go_at_call 61; (with_reducible refine (HTI.out _).mono ?_); rintro _ wn ⟨rfl, ho⟩; have hot := Lib.hid (show Only (fun _ => False) wr wn from by go_split_ands; exact Only.trans (by assumption) ho); have hsz := hot.out.size; rw [sb_lit2]; (try (with_reducible have hbx := HNEW.out _ _ ho)); (try (with_reducible have hbx := HNEW2.out _ _ ho)); (try (with_reducible have hbx := hbx.only ho)); (try (obtain ⟨⟨z0, z1, z2, z3, z4, z5, z6, z7, z8, z9, z10⟩, y0, y1, y2, y3, y4, y5, y6, y7, y8, y9, y10⟩ := hbx.all))))
      all_goals
        first
        | (obtain ⟨W, hb, hoW, hW⟩ := box_put m hbx hot.out (by first | exact Nat.le_refl _ | assumption)
           rw [← hW])
        | (obtain ⟨W, hb, hoW, hW⟩ := box_new m hot.out
           rw [← hW])
        clear hW
        have HOW := Lib.hid hoW
        have HB := Lib.hid hb
        try clear hbx z0 z1 z2 z3 z4 z5 z6 z7 z8 z9 z10 y0 y1 y2 y3 y4 y5 y6 y7 y8 y9 y10
        clear ho hot hoW hb c1 c2
        obtain ⟨⟨d0, d1, d2, d3, d4, d5, d6, d7, d8, d9, d10⟩, _⟩ := HB.out.all
        go_wp2_with fail
        refine (HBI.out _).mono ?_
        rintro _ w8 ⟨rfl, h8'⟩
        have H8 := Lib.hid (HOW.out.trans h8')
        have HB8 := Lib.hid (HB.out.only h8')
        clear h8' d0 d1 d2 d3 d4 d5 d6 d7 d8 d9 d10
        cases hi : isInt m with
        | false =>
          have HR := Lib.hid (HNO.out hi)
          have HFO := Lib.hid (HO1.out.trans (HH.out.2.1.trans H8.out))
          generalize intOr m = mi at *
          clear hi
          go_wp2_with fail
          go_ret2
          exact ⟨by rw [HR.out.1, HR.out.2]; rfl, HFO.out⟩
        | true =>
          have HA := Lib.hid (HAL2.out hi)
          have hib := (isInt_iff m).1 hi
          have hmn2 : m.natAbs ≤ 9223372036854775808 := by omega
          have hzn : (z + m).natAbs ≤ (k + 1) * 9223372036854775808 := by have := HZB.out; omega
          have HZN : Hid (z + m = costB (ls.take (k + 1))) := Lib.hid (by rw [HCT.out, ← HZ.out])
          have HPL := Lib.hid (fun w => plus_any z m (lt9 (by have := HZB.out; omega)) (lt9 (by omega)) w)
          have HH8 : Hid (HeadS w1 w8 z) := Lib.hid ⟨(head_box HH.out).only H8.out, HH.out.2.1.trans H8.out, Nat.lt_of_lt_of_le HH.out.2.2 H8.out.size⟩
          have HKB := Lib.hid hzn
          generalize intOr m = mi at *
          clear hi hib hmn2 hzn hmn
          obtain ⟨⟨d0, d1, d2, d3, d4, d5, d6, d7, d8, d9, d10⟩, f0, f1, f2, f3, f4, f5, f6, f7, f8, f9, f10⟩ := (head_box HH8.out).all
          obtain ⟨⟨e0, e1, e2, e3, e4, e5, e6, e7, e8, e9, e10⟩, _⟩ := HB8.out.all
          go_wp2_with fail
          refine (HPL.out _).mono ?_
          rintro _ w9 ⟨rfl, h9⟩
          rw [sb_lit2]
          obtain ⟨W9, hd9, hW9⟩ := heads_put2 (z + m) HH8.out h9
          have HD9 := Lib.hid hd9
          clear hd9 d0 d1 d2 d3 d4 d5 d6 d7 d8 d9 d10 e0 e1 e2 e3 e4 e5 e6 e7 e8 e9 e10 f0 f1 f2 f3 f4 f5 f6 f7 f8 f9 f10
          obtain ⟨⟨z0, z1, z2, z3, z4, z5, z6, z7, z8, z9, z10⟩, y0, y1, y2, y3, y4, y5, y6, y7, y8, y9, y10⟩ := ((head_box HH8.out).only h9).all
          clear h9
          go_wp2_with fail
          go_roundw
          case rel => rw [← hW9]; exact ⟨k + 1, z + m, by omega, by go_num, HKB.out, HZN, HA, HD9⟩
          case measure => simp [intOf]; omega
    · obtain rfl : k = len := by omega
      have hall : ∀ x ∈ ls, isInt (x.b * x.p) = true := by
        intro x hx
        obtain ⟨j, hj, rfl⟩ := List.getElem_of_mem hx
        have := HAL.out j (by rw [← HL.out]; exact hj)
        simpa [List.getD, hj] using this
      have HCA := Lib.hid (cost_all hall)
      have HZ2 : Hid (z = costB ls) := Lib.hid (by have h5 := HZ.out; rwa [List.take_of_length_le (by rw [HL.out]; omega)] at h5)
      have HBI := Lib.hid (fun w => bint_any z (lt10 (by have := HZB.out; omega)) w)
      rw [HZ2.out, ← HCA.out.1, ← HCA.out.2] at HBI
      clear hall
      have HB := Lib.hid (head_box HH.out)
      obtain ⟨⟨d0, d1, d2, d3, d4, d5, d6, d7, d8, d9, d10⟩, _⟩ := HB.out.all
      have HF : Hid (∀ w', Only (fun _ => False) wr w' → CostAt ls w (.returned (.tuple #[.int .i64 (costN ls), .bool (costOk ls)])) w') := Lib.hid (fun w' ho => ⟨rfl, HO1.out.trans (HH.out.2.1.trans ho)⟩)
      have hz3 := HZ2.out
      rw [← hz3] at HBI
      clear hz3
      generalize costN ls = q1 at *
      generalize costOk ls = q2 at *
      go_wp2_with fail
      refine (HBI.out _).mono ?_
      rintro _ w2 ⟨rfl, h2⟩
      have HFF := Lib.hid (HF.out _ h2)
      clear h2 d0 d1 d2 d3 d4 d5 d6 d7 d8 d9 d10
      go_wp2_with fail
      go_ret2
      exact HFF.out
end Go.Proofs.Ytonacdjaimokeaa.tirw
