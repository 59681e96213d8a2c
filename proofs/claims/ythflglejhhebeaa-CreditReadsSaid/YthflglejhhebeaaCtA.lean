/- The document's table while it is read. -/
import Derived.Test.YthflglejhhebeaaCsX
import Derived.Test.YthflglejhhebeaaCsY
import Derived.Test.YthflglejhhebeaaCsI
import Derived.Test.YthflglejhhebeaaRdS
namespace Go.Proofs.Ythflglejhhebeaa.cs
open Go.RowKit mem rwg codm codp rdr
set_option linter.unusedVariables false

theorem RR.e0 {w : World} {p : Nat} {l : List Nat} (h : RR w p (some l)) : w.cell? ⟨p, 1, none⟩ = some (.int .i64 0) := by
  obtain ⟨l9, e9, r9, r10, r11⟩ := h
  obtain ⟨rfl, -⟩ := r11
  exact r9.c1
theorem RR.e1 {w : World} {p : Nat} (h : RR w p none) : ∃ e : Int, w.cell? ⟨p, 1, none⟩ = some (.int .i64 e) ∧ (e == 0) = false := by
  obtain ⟨l9, e9, r9, r10, r11⟩ := h
  exact ⟨e9, r9.c1, beq_eq_false_iff_ne.2 r11⟩
theorem RR.lt' {w : World} {p : Nat} {s : Option (List Nat)} (h : RR w p s) : p < w.heap.size := by
  obtain ⟨l9, e9, r9, -⟩ := h
  exact r9.lt
/-- a box of a grant's four cells -/
def B4 (w : World) (g : Nat) (x0 x1 x2 : Int) (x3 : Bool) : Prop := (w.cell? ⟨g, 0, none⟩ = some (.int .i64 x0) ∧ w.cell? ⟨g, 1, none⟩ = some (.int .i64 x1) ∧ w.cell? ⟨g, 2, none⟩ = some (.int .i64 x2) ∧ w.cell? ⟨g, 3, none⟩ = some (.bool x3)) ∧ ∀ j, w.frozen? ⟨g, j, none⟩ = false
theorem B4.lt {w : World} {g : Nat} {x0 x1 x2 : Int} {x3 : Bool} (h : B4 w g x0 x1 x2 x3) : g < w.heap.size := World.block_lt_of_cell? w _ h.1.1
theorem B4.only {S : Nat → Prop} {w w' : World} {g : Nat} {x0 x1 x2 : Int} {x3 : Bool} (h : B4 w g x0 x1 x2 x3) (ho : Only S w w') (hs : ¬ S g) : B4 w' g x0 x1 x2 x3 :=
  ⟨⟨ho.cell' h.1.1 hs, ho.cell' h.1.2.1 hs, ho.cell' h.1.2.2.1 hs, ho.cell' h.1.2.2.2 hs⟩, fun j => (ho.frozen (p := ⟨g, j, none⟩) h.lt hs).trans (h.2 j)⟩
theorem B4.new {w w1 : World} {g : Nat} {t : TypeId} {x0 x1 x2 : Int} {x3 : Bool} (hw : w1 = w.alloc (.cells #[.int .i64 x0, .int .i64 x1, .int .i64 x2, .bool x3] t)) (hg : g = w.heap.size) : B4 w1 g x0 x1 x2 x3 := by
  obtain ⟨h0, h1, h2, h3, -⟩ := gbox hw hg
  exact ⟨⟨h0, h1, h2, h3⟩, fun j => by rw [hw]; exact sfrozen hg j⟩
theorem B4.s1 {w w' : World} {g : Nat} {x0 x1 x2 y : Int} {x3 : Bool} (h : B4 w g x0 x1 x2 x3) (hw : w' = w.setCell ⟨g, 1, none⟩ (.int .i64 y)) : B4 w' g x0 y x2 x3 := by
  rw [hw]
  exact ⟨⟨by rw [cell_other (fun e => by injection e with _ e _; omega)]; exact h.1.1, cell_same h.1.2.1, by rw [cell_other (fun e => by injection e with _ e _; omega)]; exact h.1.2.2.1, by rw [cell_other (fun e => by injection e with _ e _; omega)]; exact h.1.2.2.2⟩, fun j => frozen_set.trans (h.2 j)⟩
theorem B4.s2 {w w' : World} {g : Nat} {x0 x1 x2 y : Int} {x3 : Bool} (h : B4 w g x0 x1 x2 x3) (hw : w' = w.setCell ⟨g, 2, none⟩ (.int .i64 y)) : B4 w' g x0 x1 y x3 := by
  rw [hw]
  exact ⟨⟨by rw [cell_other (fun e => by injection e with _ e _; omega)]; exact h.1.1, by rw [cell_other (fun e => by injection e with _ e _; omega)]; exact h.1.2.1, cell_same h.1.2.2.1, by rw [cell_other (fun e => by injection e with _ e _; omega)]; exact h.1.2.2.2⟩, fun j => frozen_set.trans (h.2 j)⟩
theorem B4.s3 {w w' : World} {g : Nat} {x0 x1 x2 : Int} {x3 y : Bool} (h : B4 w g x0 x1 x2 x3) (hw : w' = w.setCell ⟨g, 3, none⟩ (.bool y)) : B4 w' g x0 x1 x2 y := by
  rw [hw]
  exact ⟨⟨by rw [cell_other (fun e => by injection e with _ e _; omega)]; exact h.1.1, by rw [cell_other (fun e => by injection e with _ e _; omega)]; exact h.1.2.1, by rw [cell_other (fun e => by injection e with _ e _; omega)]; exact h.1.2.2.1, cell_same h.1.2.2.2⟩, fun j => frozen_set.trans (h.2 j)⟩
def Sz (b0 b1 rp q : Nat) : Prop := b0 ≤ q ∧ q < b1 ∧ q ≠ rp
/-- what is while a session is read -/
structure StI (b0 b1 : Nat) (wr : World) (rp vp g : Nat) (m la : Int) (v : Value) (L : List Sd) (x0 x1 x2 x3 : Int) (v4 : Value) (K : List Gr) (s : Option (List Nat)) : Prop where
  rr : RR wr rp s
  dt : DT (Sz b0 b1 rp) wr vp m la v L
  c0 : wr.cell? ⟨g, 0, none⟩ = some (.int .i64 x0)
  c1 : wr.cell? ⟨g, 1, none⟩ = some (.int .i64 x1)
  c2 : wr.cell? ⟨g, 2, none⟩ = some (.int .i64 x2)
  c3 : wr.cell? ⟨g, 3, none⟩ = some (.int .i64 x3)
  c4 : wr.cell? ⟨g, 4, none⟩ = some v4
  fz : ∀ j, wr.frozen? ⟨g, j, none⟩ = false
  own : OwnR (EG 92) wr v4 K
  vg : v4.ownBlock ≠ some g
  vb : ∀ k, v4.ownBlock = some k → b1 ≤ k
  gb : b1 ≤ g
  rp1 : b0 ≤ rp ∧ rp < b1
section
variable {b0 b1 : Nat} {wr w' : World} {rp vp g : Nat} {m la : Int} {v : Value} {L : List Sd} {x0 x1 x2 x3 : Int} {v4 : Value} {K : List Gr} {s s' : Option (List Nat)}
theorem StI.lt (h : StI b0 b1 wr rp vp g m la v L x0 x1 x2 x3 v4 K s) : g < wr.heap.size := World.block_lt_of_cell? wr _ h.c0
theorem StI.step {T : Nat → Prop} (h : StI b0 b1 wr rp vp g m la v L x0 x1 x2 x3 v4 K s) (hr : RR w' rp s') (ho : Only T wr w') (hg : ¬ T g) (hv : ∀ k, v4.ownBlock = some k → ¬ T k) (hT : ∀ q, Sz b0 b1 rp q → ¬ T q) : StI b0 b1 w' rp vp g m la v L x0 x1 x2 x3 v4 K s' :=
  ⟨hr, h.dt.only ho hT, ho.cell' h.c0 hg, ho.cell' h.c1 hg, ho.cell' h.c2 hg, ho.cell' h.c3 hg, ho.cell' h.c4 hg, fun j => (ho.frozen (p := ⟨g, j, none⟩) h.lt hg).trans (h.fz j), h.own.only ho hv, h.vg, h.vb, h.gb, h.rp1⟩
theorem StI.rd (h : StI b0 b1 wr rp vp g m la v L x0 x1 x2 x3 v4 K s) (hr : RR w' rp s') (ho : Only (fun q => q = rp) wr w') : StI b0 b1 w' rp vp g m la v L x0 x1 x2 x3 v4 K s' :=
  h.step hr ho (fun e => by have := h.gb; have := h.rp1; omega) (fun k e e2 => by have := h.vb k e; have := h.rp1; omega) (fun q s e => s.2.2 e)
theorem StI.quiet (h : StI b0 b1 wr rp vp g m la v L x0 x1 x2 x3 v4 K s) (ho : Only (fun _ => False) wr w') : StI b0 b1 w' rp vp g m la v L x0 x1 x2 x3 v4 K s :=
  h.step (h.rr.only ho (fun f => f)) ho (fun f => f) (fun _ _ f => f) (fun _ _ f => f)
theorem StI.far {g' : Nat} (h : StI b0 b1 wr rp vp g m la v L x0 x1 x2 x3 v4 K s) (ho : Only (fun q => q = g') wr w') (hg : g' ≠ g ∧ v4.ownBlock ≠ some g' ∧ b1 ≤ g') : StI b0 b1 w' rp vp g m la v L x0 x1 x2 x3 v4 K s :=
  h.step (h.rr.only ho (fun e => by have := h.rp1; omega)) ho (fun e => hg.1 e.symm) (fun k e e2 => hg.2.1 (by rw [e, e2])) (fun q s e => by have := s.2.1; omega)
theorem StI.new {g' : Nat} (h : StI b0 b1 wr rp vp g m la v L x0 x1 x2 x3 v4 K s) (hg : g' = wr.heap.size) : g' ≠ g ∧ v4.ownBlock ≠ some g' ∧ b1 ≤ g' := by
  have h1 := h.lt
  have h2 := h.gb
  exact ⟨by omega, fun e => by have := h.own.lt e; omega, by omega⟩
theorem StI.cells {y0 y1 y2 y3 : Int} (h : StI b0 b1 wr rp vp g m la v L x0 x1 x2 x3 v4 K s) (ho : Only (fun q => q = g) wr w') (e0 : w'.cell? ⟨g, 0, none⟩ = some (.int .i64 y0)) (e1 : w'.cell? ⟨g, 1, none⟩ = some (.int .i64 y1)) (e2 : w'.cell? ⟨g, 2, none⟩ = some (.int .i64 y2)) (e3 : w'.cell? ⟨g, 3, none⟩ = some (.int .i64 y3)) (e4 : w'.cell? ⟨g, 4, none⟩ = some v4) (hf : ∀ j, w'.frozen? ⟨g, j, none⟩ = false) : StI b0 b1 w' rp vp g m la v L y0 y1 y2 y3 v4 K s :=
  ⟨h.rr.only ho (fun e => by have := h.gb; have := h.rp1; omega), h.dt.only ho (fun q s e => by have := s.2.1; have := h.gb; omega), e0, e1, e2, e3, e4, hf, h.own.only ho (fun k e e2 => h.vg (by rw [e, e2])), h.vg, h.vb, h.gb, h.rp1⟩
theorem StI.s1 {y : Int} (h : StI b0 b1 wr rp vp g m la v L x0 x1 x2 x3 v4 K s) (hw : w' = wr.setCell ⟨g, 1, none⟩ (.int .i64 y)) : StI b0 b1 w' rp vp g m la v L x0 y x2 x3 v4 K s := by
  rw [hw]
  exact h.cells (Only.set _ _ g 1 _ rfl) (by rw [cell_other (fun e => by injection e with _ e _; omega)]; exact h.c0) (cell_same h.c1) (by rw [cell_other (fun e => by injection e with _ e _; omega)]; exact h.c2) (by rw [cell_other (fun e => by injection e with _ e _; omega)]; exact h.c3) (by rw [cell_other (fun e => by injection e with _ e _; omega)]; exact h.c4) (fun j => frozen_set.trans (h.fz j))
theorem StI.s2 {y : Int} (h : StI b0 b1 wr rp vp g m la v L x0 x1 x2 x3 v4 K s) (hw : w' = wr.setCell ⟨g, 2, none⟩ (.int .i64 y)) : StI b0 b1 w' rp vp g m la v L x0 x1 y x3 v4 K s := by
  rw [hw]
  exact h.cells (Only.set _ _ g 2 _ rfl) (by rw [cell_other (fun e => by injection e with _ e _; omega)]; exact h.c0) (by rw [cell_other (fun e => by injection e with _ e _; omega)]; exact h.c1) (cell_same h.c2) (by rw [cell_other (fun e => by injection e with _ e _; omega)]; exact h.c3) (by rw [cell_other (fun e => by injection e with _ e _; omega)]; exact h.c4) (fun j => frozen_set.trans (h.fz j))
theorem StI.s3 {y : Int} (h : StI b0 b1 wr rp vp g m la v L x0 x1 x2 x3 v4 K s) (hw : w' = wr.setCell ⟨g, 3, none⟩ (.int .i64 y)) : StI b0 b1 w' rp vp g m la v L x0 x1 x2 y v4 K s := by
  rw [hw]
  exact h.cells (Only.set _ _ g 3 _ rfl) (by rw [cell_other (fun e => by injection e with _ e _; omega)]; exact h.c0) (by rw [cell_other (fun e => by injection e with _ e _; omega)]; exact h.c1) (by rw [cell_other (fun e => by injection e with _ e _; omega)]; exact h.c2) (cell_same h.c3) (by rw [cell_other (fun e => by injection e with _ e _; omega)]; exact h.c4) (fun j => frozen_set.trans (h.fz j))
/-- one grant more -/
theorem StI.app {w7 : World} {v' : Value} {K' : List Gr} (h : StI b0 b1 wr rp vp g m la v L x0 x1 x2 x3 v4 K s) (hb : b1 ≤ wr.heap.size) (hgo : Only (fun q => v4.ownBlock = some q) wr w7) (hown : OwnR (EG 92) w7 v' K') (hkk : ∀ k, v'.ownBlock = some k → v4.ownBlock = some k ∨ wr.heap.size ≤ k) (h8 : w' = w7.setCell ⟨g, 4, none⟩ v') : StI b0 b1 w' rp vp g m la v L x0 x1 x2 x3 v' K' s ∧ Only (fun q => v4.ownBlock = some q ∨ q = g) wr w' := by
  have hset : Only (fun q => q = g) w7 w' := by rw [h8]; exact Only.set _ _ g 4 _ rfl
  have hboth : Only (fun q => v4.ownBlock = some q ∨ q = g) wr w' := (hgo.mono (fun _ _ e => .inl e)).trans (hset.mono (fun _ _ e => .inr e))
  have hlt := h.lt
  have hgb := h.gb
  have hrp := h.rp1
  have hc : ∀ (j : Nat) (u : Value), j ≠ 4 → wr.cell? ⟨g, j, none⟩ = some u → w'.cell? ⟨g, j, none⟩ = some u := fun j u hj hu => by
    rw [h8, cell_other (fun e => by injection e with _ e _; omega)]
    exact hgo.cell' hu h.vg
  have h4 := hgo.cell' h.c4 h.vg
  refine ⟨⟨h.rr.only hboth (fun e => e.elim (fun e => by have := h.vb rp e; omega) (fun e => by omega)), h.dt.only hboth (fun q s e => ?_), hc 0 _ (by omega) h.c0, hc 1 _ (by omega) h.c1, hc 2 _ (by omega) h.c2, hc 3 _ (by omega) h.c3, by rw [h8]; exact cell_same h4, fun j => by rw [h8]; exact frozen_set.trans ((hgo.frozen (p := ⟨g, j, none⟩) h.lt h.vg).trans (h.fz j)), hown.only hset (fun q e e2 => ?_), fun e => ?_, fun k e => ?_, h.gb, h.rp1⟩, hboth⟩
  · have := s.2.1
    rcases e with e | e
    · have := h.vb q e; omega
    · omega
  · have e2 : q = g := e2
    rcases hkk q e with e | e
    · exact h.vg (by rw [e, e2])
    · omega
  · rcases hkk g e with e | e
    · exact h.vg e
    · omega
  · rcases hkk k e with e | e
    · exact h.vb k e
    · omega
/-- the session goes into the row -/
theorem StI.row {w9 W w5 : World} {v' : Value} {a4 : Option Addr} {n4 c4 : Nat} (h : StI b0 b1 wr rp vp g m la v L x0 x1 x2 x3 (.slice a4 n4 c4) K s) (hb : b1 ≤ wr.heap.size) (hb0 : b0 ≤ b1) (h09 : Only (fun _ => False) wr w9) (hgo : Only (fun q => v.ownBlock = some q) w9 W) (hown : OwnR (ES 50) W v' (L ++ [⟨x0, x1, x2, x3, a4, n4, c4, K⟩])) (hkk : ∀ k, v'.ownBlock = some k → v.ownBlock = some k ∨ w9.heap.size ≤ k) (hn : K.length = n4) (h5 : w5 = W.setCell ⟨vp, 2, none⟩ v') (hl : L.length < 16) : RR w5 rp s ∧ DT (fun q => b0 ≤ q ∧ q ≠ rp) w5 vp m la v' (L ++ [⟨x0, x1, x2, x3, a4, n4, c4, K⟩]) ∧ Only (fun q => q = vp ∨ v.ownBlock = some q) wr w5 := by
  subst hn
  have hset : Only (fun q => q = vp) W w5 := by rw [h5]; exact Only.set _ _ vp 2 _ rfl
  have h9 : Only (fun q => q = vp ∨ v.ownBlock = some q) w9 w5 := (hgo.mono (fun _ _ e => .inr e)).trans (hset.mono (fun _ _ e => .inl e))
  have hall : Only (fun q => q = vp ∨ v.ownBlock = some q) wr w5 := (h09.mono (fun _ _ f => f.elim)).trans h9
  have hvp := h.dt.sp
  have hsv := h.dt.sv
  have hrp := h.rp1
  have hs9 := h09.size
  have hd9 := h.dt.quiet h09
  have hvr : ¬ (rp = vp ∨ v.ownBlock = some rp) := fun e => e.elim (fun e => hvp.2.2 e.symm) (fun e => (hsv rp e).2.2 rfl)
  have hnp : v'.ownBlock ≠ some vp := fun e => (hkk vp e).elim (fun e => h.dt.np e) (fun e => by have := h.dt.lt; omega)
  obtain ⟨a', c', he, hcp, hrg, hbl⟩ := own_G (h.own.quiet h09) rfl
  injection he with e1 e2 e3
  subst e1 e3
  have hkd := grin_gen (S' := fun q => b0 ≤ q ∧ q ≠ rp) (d := ⟨x0, x1, x2, x3, a4, K.length, c4, K⟩) h.dt h09 h9 hkk (fun q s => ⟨s.1, s.2.2⟩) ⟨hrg, hcp⟩ (fun y e hn => by
    obtain ⟨z1, z2⟩ := hbl y e
    have z3 := h.vb y.block z1
    have z4 := hvp.2.1
    exact ⟨z2, ⟨by omega, by omega⟩, by omega, fun e => by have := (hsv y.block e).2.1; omega⟩)
  have d1 := hgo.cell' hd9.c1 h.dt.np
  have d0 := hgo.cell' hd9.c0 h.dt.np
  have d2 := hgo.cell' hd9.c2 h.dt.np
  have f1 := (hgo.frozen (p := ⟨vp, 1, none⟩) hd9.lt h.dt.np).trans hd9.f1
  have f2 := (hgo.frozen (p := ⟨vp, 2, none⟩) hd9.lt h.dt.np).trans hd9.f2
  refine ⟨h.rr.only hall hvr, ⟨?_, ?_, ?_, ?_, ?_, hown.only hset (fun k e e2 => hnp (by rw [e, e2])), hnp, by rw [List.length_append, List.length_singleton]; omega, ⟨hvp.1, hvp.2.2⟩, fun q e => ?_, fun x hx => hkd x ((List.mem_append.1 hx).imp (fun y => y) (fun y => List.mem_singleton.1 y)), fun e => by cases e⟩, hall⟩
  · rw [h5, cell_other (fun e => by injection e with _ e _; omega)]; exact d0
  · rw [h5, cell_other (fun e => by injection e with _ e _; omega)]; exact d1
  · rw [h5]; exact cell_same d2
  · rw [h5]; exact frozen_set.trans f1
  · rw [h5]; exact frozen_set.trans f2
  · rcases hkk q e with e | e
    · exact ⟨(hsv q e).1, (hsv q e).2.2⟩
    · exact ⟨by omega, by omega⟩
end
end Go.Proofs.Ythflglejhhebeaa.cs
