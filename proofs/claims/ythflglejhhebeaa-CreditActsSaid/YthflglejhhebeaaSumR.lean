/- The document's Sum and Same: what they answer. -/
import Derived.Test.YthflglejhhebeaaSumA
import Derived.Deep.RegionWith
namespace Go.Proofs.Ythflglejhhebeaa.bigw
open Go.RowKit mem bigm intm
set_option linter.unusedVariables false

/-- cells stored one behind the other -/
def puts (g : Nat) : Nat → List Value → World → World
  | _, [], w => w
  | o, v :: vs, w => puts g (o + 1) vs (w.setCell ⟨g, o, none⟩ v)

theorem puts_frozen (g : Nat) : ∀ (vs : List Value) (o : Nat) (w : World) (p : Addr), (puts g o vs w).frozen? p = w.frozen? p := by
  intro vs
  induction vs with
  | nil => intro o w p; rfl
  | cons v vs ih => intro o w p; exact (ih (o + 1) _ p).trans frozen_set

theorem puts_only {S : Nat → Prop} (g : Nat) : ∀ (vs : List Value) (o : Nat) (a w : World), Only S a w → (S g ∨ a.heap.size ≤ g) → Only S a (puts g o vs w) := by
  intro vs
  induction vs with
  | nil => intro o a w h _; exact h
  | cons v vs ih => intro o a w h hg; exact ih (o + 1) a _ (h.setCell (p := ⟨g, o, none⟩) hg v) hg

theorem puts_cell (g : Nat) : ∀ (vs : List Value) (o : Nat) (w : World), (∀ j, j < o + vs.length → ∃ u, w.cell? ⟨g, j, none⟩ = some u) →
    ∀ j v, (j < o ∧ w.cell? ⟨g, j, none⟩ = some v ∨ o ≤ j ∧ vs[j - o]? = some v) → (puts g o vs w).cell? ⟨g, j, none⟩ = some v := by
  intro vs
  induction vs with
  | nil =>
    intro o w h j v hj
    rcases hj with ⟨_, h1⟩ | ⟨_, h1⟩
    · exact h1
    · simp at h1
  | cons x vs ih =>
    intro o w h j v hj
    have hx : ∀ i, i < (o + 1) + vs.length → ∃ u, (w.setCell ⟨g, o, none⟩ x).cell? ⟨g, i, none⟩ = some u := by
      intro i hi
      obtain ⟨u, hu⟩ := h i (by simp; omega)
      by_cases e : i = o
      · subst e; exact ⟨x, cell_same hu⟩
      · exact ⟨u, by rw [cell_other (off_ne (by omega))]; exact hu⟩
    refine ih (o + 1) _ hx j v ?_
    obtain ⟨u, hu⟩ := h o (by simp)
    rcases hj with ⟨h1, h2⟩ | ⟨h1, h2⟩
    · exact .inl ⟨by omega, by rw [cell_other (off_ne (by omega))]; exact h2⟩
    · by_cases e : j = o
      · subst e
        refine .inl ⟨by omega, ?_⟩
        rw [cell_same hu]
        simpa using h2
      · refine .inr ⟨by omega, ?_⟩
        rw [show j - o = (j - (o + 1)) + 1 by omega] at h2
        simpa using h2

/-- the eleven cells of a number -/
def lits (z : Int) : List Value := [.int .u64 (limb z.natAbs 0 : Int), .int .u64 (limb z.natAbs 1 : Int), .int .u64 (limb z.natAbs 2 : Int), .int .u64 (limb z.natAbs 3 : Int), .int .u64 (limb z.natAbs 4 : Int), .int .u64 (limb z.natAbs 5 : Int), .int .u64 (limb z.natAbs 6 : Int), .int .u64 (limb z.natAbs 7 : Int), .int .u64 (limb z.natAbs 8 : Int), .int .u64 (limb z.natAbs 9 : Int), .bool (decide (z < 0))]

theorem sb_lit (z : Int) : sb z = .agg (lits z).toArray := by rfl
theorem sb_lit2 (z : Int) : sb z = .agg #[.int .u64 (limb z.natAbs 0 : Int), .int .u64 (limb z.natAbs 1 : Int), .int .u64 (limb z.natAbs 2 : Int), .int .u64 (limb z.natAbs 3 : Int), .int .u64 (limb z.natAbs 4 : Int), .int .u64 (limb z.natAbs 5 : Int), .int .u64 (limb z.natAbs 6 : Int), .int .u64 (limb z.natAbs 7 : Int), .int .u64 (limb z.natAbs 8 : Int), .int .u64 (limb z.natAbs 9 : Int), .bool (decide (z < 0))] := by rfl

/-- a number's box at the head of a loop -/
def HeadS (w wr : World) (z : Int) : Prop :=
  (∀ j v, (lits z)[j]? = some v → wr.cell? ⟨w.heap.size, j, none⟩ = some v ∧ wr.frozen? ⟨w.heap.size, j, none⟩ = false) ∧ Only (fun _ => False) w wr ∧ w.heap.size < wr.heap.size

theorem heads_put {w wr w2 : World} {z y : Int} (h : HeadS w wr z) (ho : Only (fun _ => False) wr w2) : HeadS w (puts w.heap.size 0 (lits y) w2) y := by
  have hw2 : ∀ j v, (lits z)[j]? = some v → w2.cell? ⟨w.heap.size, j, none⟩ = some v ∧ w2.frozen? ⟨w.heap.size, j, none⟩ = false := fun j v hj =>
    ⟨ho.cell' (h.1 j v hj).1 (fun f => f), (ho.frozen (p := ⟨w.heap.size, j, none⟩) h.2.2 (fun f => f)).trans (h.1 j v hj).2⟩
  have hex : ∀ j, j < 11 → ∃ u, (lits z)[j]? = some u := fun j hj => ⟨(lits z)[j]'hj, List.getElem?_eq_getElem _⟩
  have ho2 := puts_only (S := fun _ => False) w.heap.size (lits y) 0 w w2 (h.2.1.trans ho) (.inr (Nat.le_refl _))
  refine ⟨?_, ho2, ?_⟩
  · intro j v hj
    refine ⟨puts_cell w.heap.size (lits y) 0 w2 ?_ j v (.inr ⟨Nat.zero_le _, by rw [Nat.sub_zero]; exact hj⟩), ?_⟩
    · intro i hi
      obtain ⟨u, hu⟩ := hex i (by rw [Nat.zero_add] at hi; exact hi)
      exact ⟨u, (hw2 i u hu).1⟩
    · rw [puts_frozen]
      have hlt : j < 11 := by
        rcases Nat.lt_or_ge j 11 with g | g
        · exact g
        · rw [List.getElem?_eq_none (show (lits y).length ≤ j from g)] at hj; cases hj
      obtain ⟨u, hu⟩ := hex j hlt
      exact (hw2 j u hu).2
  · have := (puts_only (S := fun _ => True) w.heap.size (lits y) 0 w2 w2 (Only.refl _ _) (.inl trivial)).size
    have h3 := ho.size
    have h4 := h.2.2
    omega

theorem sb_zero : sb 0 = .agg #[.int .u64 0, .int .u64 0, .int .u64 0, .int .u64 0, .int .u64 0, .int .u64 0, .int .u64 0, .int .u64 0, .int .u64 0, .int .u64 0, .bool false] := by rfl

theorem heads_start (w : World) : HeadS w (w.alloc (.cells #[.int .u64 0, .int .u64 0, .int .u64 0, .int .u64 0, .int .u64 0, .int .u64 0, .int .u64 0, .int .u64 0, .int .u64 0, .int .u64 0, .bool false] 125)) 0 := by
  refine ⟨fun j v hj => ⟨?_, ?_⟩, (Only.refl _ _).alloc _, by rw [size_alloc]; omega⟩
  · have h := cell_new w (fun _ => 0) false 125 _ rfl j
    refine h.trans ?_
    rw [← hj, show bigC (fun _ => 0) false = (lits 0).toArray from rfl, List.getElem?_toArray]
  · exact frozen_new w _ _ _ j rfl

set_option maxRecDepth 100000 in
set_option maxHeartbeats 1000000 in
theorem rsum_any (a : Option Addr) (len cap : Nat) (l : List Int) (w : World) (h : ReadsI w a len l) :
    Calls Try.prog 62 #[.slice a len cap] w fun e w' => e = .returned (.tuple #[.int .i64 (intOr l.sum), .bool (isInt l.sum)]) ∧ Only (fun _ => False) w w' := by
  have H := Lib.hid h
  have hm := h.2.1
  unfold maxLen at hm
  clear h
  have HB : Hid (∀ k, k ≤ len → (l.take k).sum.natAbs ≤ 85070591730234615865843651857942052864) := Lib.hid (by
    intro k hk
    have := sum_le (l.take k) (fun c hc => H.out.2.2.1 c (List.mem_of_mem_take hc))
    have hl := H.out.1
    have h2 : (l.take k).length = k := by simp; omega
    rw [h2] at this
    omega)
  go_enter Try.func62, Try.ntmps62
  go_wp2_with fail
  go_loopw [5] (fun i wr => ∃ k : Nat, k ≤ len ∧ i = .int .i64 k ∧ Hid (HeadS w wr (l.take k).sum)) (fun i _ => len - (intOf i).toNat)
  case atStart => exact ⟨0, by omega, rfl, Lib.hid (heads_start w)⟩
  case round =>
    obtain ⟨k, hk, rfl, HH⟩ := hrel
    by_cases h8 : k < len
    · obtain ⟨b, off, rfl, hcell⟩ := H.out.2.2.2.resolve_left (by omega)
      have hcl := HH.out.2.1.cell' (hcell k h8) (fun f => f)
      have HS : Hid ((l.take (k + 1)).sum = (l.take k).sum + l.getD k 0) := Lib.hid (sum_take_succ l k (by rw [H.out.1]; exact h8))
      have HX := Lib.hid (in_getD l H.out.2.2.1 k)
      have HS0 := Lib.hid (HB.out k hk)
      clear hcell
      generalize l.getD k 0 = n at *
      generalize hS : (l.take k).sum = S at *
      generalize hS' : (l.take (k + 1)).sum = S' at *
      have c0 := (HH.out.1 0 (.int .u64 (limb S.natAbs 0 : Int)) rfl).1
      have c1 := (HH.out.1 1 (.int .u64 (limb S.natAbs 1 : Int)) rfl).1
      have c2 := (HH.out.1 2 (.int .u64 (limb S.natAbs 2 : Int)) rfl).1
      have c3 := (HH.out.1 3 (.int .u64 (limb S.natAbs 3 : Int)) rfl).1
      have c4 := (HH.out.1 4 (.int .u64 (limb S.natAbs 4 : Int)) rfl).1
      have c5 := (HH.out.1 5 (.int .u64 (limb S.natAbs 5 : Int)) rfl).1
      have c6 := (HH.out.1 6 (.int .u64 (limb S.natAbs 6 : Int)) rfl).1
      have c7 := (HH.out.1 7 (.int .u64 (limb S.natAbs 7 : Int)) rfl).1
      have c8 := (HH.out.1 8 (.int .u64 (limb S.natAbs 8 : Int)) rfl).1
      have c9 := (HH.out.1 9 (.int .u64 (limb S.natAbs 9 : Int)) rfl).1
      have c10 := (HH.out.1 10 (.bool (decide (S < 0))) rfl).1
      have z0 := (HH.out.1 0 _ rfl).2
      have z1 := (HH.out.1 1 _ rfl).2
      have z2 := (HH.out.1 2 _ rfl).2
      have z3 := (HH.out.1 3 _ rfl).2
      have z4 := (HH.out.1 4 _ rfl).2
      have z5 := (HH.out.1 5 _ rfl).2
      have z6 := (HH.out.1 6 _ rfl).2
      have z7 := (HH.out.1 7 _ rfl).2
      have z8 := (HH.out.1 8 _ rfl).2
      have z9 := (HH.out.1 9 _ rfl).2
      have z10 := (HH.out.1 10 _ rfl).2
      have HNN : Hid (n.natAbs ≤ 85070591730234615865843651857942052864) := Lib.hid (by have := HX.out; omega)
      go_wp2_with fail
      go_region_with (first | (go_at_call 73; refine (of_sb n HX.out _).mono ?_; rintro e1 w6 ⟨rfl, hO6⟩; have HH6 := hO6; have d0 := hO6.cell' c0 (fun f => f); have d1 := hO6.cell' c1 (fun f => f); have d2 := hO6.cell' c2 (fun f => f); have d3 := hO6.cell' c3 (fun f => f); have d4 := hO6.cell' c4 (fun f => f); have d5 := hO6.cell' c5 (fun f => f); have d6 := hO6.cell' c6 (fun f => f); have d7 := hO6.cell' c7 (fun f => f); have d8 := hO6.cell' c8 (fun f => f); have d9 := hO6.cell' c9 (fun f => f); have d10 := hO6.cell' c10 (fun f => f)) | (go_at_call 72; refine (plus_any S n (lt9 HS0.out) (lt9 HNN.out) _).mono ?_; rintro e2 w7 ⟨rfl, hO7⟩; rw [sb_lit2]; have HO67 := hO6.trans hO7; have x0 := hO7.cell' d0 (fun f => f); have x1 := hO7.cell' d1 (fun f => f); have x2 := hO7.cell' d2 (fun f => f); have x3 := hO7.cell' d3 (fun f => f); have x4 := hO7.cell' d4 (fun f => f); have x5 := hO7.cell' d5 (fun f => f); have x6 := hO7.cell' d6 (fun f => f); have x7 := hO7.cell' d7 (fun f => f); have x8 := hO7.cell' d8 (fun f => f); have x9 := hO7.cell' d9 (fun f => f); have x10 := hO7.cell' d10 (fun f => f); have y0 := (HO67.frozen (p := ⟨w.heap.size, 0, none⟩) HH.out.2.2 (fun f => f)).trans z0; have y1 := (HO67.frozen (p := ⟨w.heap.size, 1, none⟩) HH.out.2.2 (fun f => f)).trans z1; have y2 := (HO67.frozen (p := ⟨w.heap.size, 2, none⟩) HH.out.2.2 (fun f => f)).trans z2; have y3 := (HO67.frozen (p := ⟨w.heap.size, 3, none⟩) HH.out.2.2 (fun f => f)).trans z3; have y4 := (HO67.frozen (p := ⟨w.heap.size, 4, none⟩) HH.out.2.2 (fun f => f)).trans z4; have y5 := (HO67.frozen (p := ⟨w.heap.size, 5, none⟩) HH.out.2.2 (fun f => f)).trans z5; have y6 := (HO67.frozen (p := ⟨w.heap.size, 6, none⟩) HH.out.2.2 (fun f => f)).trans z6; have y7 := (HO67.frozen (p := ⟨w.heap.size, 7, none⟩) HH.out.2.2 (fun f => f)).trans z7; have y8 := (HO67.frozen (p := ⟨w.heap.size, 8, none⟩) HH.out.2.2 (fun f => f)).trans z8; have y9 := (HO67.frozen (p := ⟨w.heap.size, 9, none⟩) HH.out.2.2 (fun f => f)).trans z9; have y10 := (HO67.frozen (p := ⟨w.heap.size, 10, none⟩) HH.out.2.2 (fun f => f)).trans z10))
      all_goals
        have HN : Hid (HeadS w (puts w.heap.size 0 (lits (S + n)) w7) (l.take (k + 1)).sum) := Lib.hid (by rw [hS', HS.out]; exact heads_put HH.out (((Only.refl _ _).drew).trans HO67))
        clear c0 c1 c2 c3 c4 c5 c6 c7 c8 c9 c10 d0 d1 d2 d3 d4 d5 d6 d7 d8 d9 d10 z0 z1 z2 z3 z4 z5 z6 z7 z8 z9 z10 x0 x1 x2 x3 x4 x5 x6 x7 x8 x9 x10 y0 y1 y2 y3 y4 y5 y6 y7 y8 y9 y10 hcl HH6 hO6 hO7 HO67
        go_wp2_with fail
        go_roundw
        case rel => exact ⟨k + 1, by omega, by go_num, HN⟩
        case measure => simp [intOf]; omega
    · obtain rfl : k = len := by omega
      have hS : (l.take k).sum = l.sum := by rw [List.take_of_length_le (by rw [H.out.1]; omega)]
      have HS0 := Lib.hid (HB.out k hk)
      rw [hS] at HH HS0
      generalize hSS : l.sum = S at *
      have c0 := (HH.out.1 0 (.int .u64 (limb S.natAbs 0 : Int)) rfl).1
      have c1 := (HH.out.1 1 (.int .u64 (limb S.natAbs 1 : Int)) rfl).1
      have c2 := (HH.out.1 2 (.int .u64 (limb S.natAbs 2 : Int)) rfl).1
      have c3 := (HH.out.1 3 (.int .u64 (limb S.natAbs 3 : Int)) rfl).1
      have c4 := (HH.out.1 4 (.int .u64 (limb S.natAbs 4 : Int)) rfl).1
      have c5 := (HH.out.1 5 (.int .u64 (limb S.natAbs 5 : Int)) rfl).1
      have c6 := (HH.out.1 6 (.int .u64 (limb S.natAbs 6 : Int)) rfl).1
      have c7 := (HH.out.1 7 (.int .u64 (limb S.natAbs 7 : Int)) rfl).1
      have c8 := (HH.out.1 8 (.int .u64 (limb S.natAbs 8 : Int)) rfl).1
      have c9 := (HH.out.1 9 (.int .u64 (limb S.natAbs 9 : Int)) rfl).1
      have c10 := (HH.out.1 10 (.bool (decide (S < 0))) rfl).1
      go_wp2_with fail
      refine (bint_any S (lt10 HS0.out) _).mono ?_
      rintro e1 w1 ⟨rfl, hO⟩
      have HO := Lib.hid (HH.out.2.1.trans hO)
      clear hO c0 c1 c2 c3 c4 c5 c6 c7 c8 c9 c10
      go_wp2_with fail
      rw [hSS]
      go_ret2
      exact ⟨rfl, HO.out⟩

set_option maxRecDepth 100000 in
theorem same_any (a b : Option Addr) (n c d : Nat) (l : List Int) (w : World) (h1 : ReadsI w a n l) (h2 : ReadsI w b n l) :
    Calls Try.prog 41 #[.slice a n c, .slice b n d] w fun e w' => e = .returned (.bool true) ∧ Only (fun _ => False) w w' := by
  have hm := h1.2.1
  unfold maxLen at hm
  have H1 := Lib.hid h1
  have H2 := Lib.hid h2
  clear h1 h2
  go_enter Try.func41, Try.ntmps41
  go_wp2_with fail
  go_loopw [5] (fun i wr => ∃ k : Nat, k ≤ n ∧ i = .int .i64 k ∧ Hid (Only (fun _ => False) w wr)) (fun i _ => n - (intOf i).toNat)
  case atStart => exact ⟨0, by omega, rfl, Lib.hid (Only.refl _ _)⟩
  case round =>
    obtain ⟨k, hk, rfl, HO⟩ := hrel
    by_cases h8 : k < n
    · obtain ⟨b1, off1, rfl, hc1⟩ := H1.out.2.2.2.resolve_left (by omega)
      obtain ⟨b2, off2, rfl, hc2⟩ := H2.out.2.2.2.resolve_left (by omega)
      have e1 := HO.out.cell' (hc1 k h8) (fun f => f)
      have e2 := HO.out.cell' (hc2 k h8) (fun f => f)
      clear hc1 hc2
      generalize l.getD k 0 = x at *
      go_wp2_with fail
      go_region
      all_goals
        go_wp2_with fail
        go_roundw
        case rel => exact ⟨k + 1, by omega, by go_num, Lib.hid HO.out.drew⟩
        case measure => simp [intOf]; omega
    · obtain rfl : k = n := by omega
      go_wp2_with fail
      go_ret
      exact ⟨rfl, HO.out⟩
end Go.Proofs.Ythflglejhhebeaa.bigw
