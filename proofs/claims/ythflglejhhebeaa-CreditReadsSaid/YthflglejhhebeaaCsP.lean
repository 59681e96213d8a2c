/- Sessions with grants: a row of acts that comes in, opened. -/
import Derived.Test.YthflglejhhebeaaCsO
import Derived.Deep.Slices
import Derived.OpenShut
import Derived.ChangeOld
namespace Go.Proofs.Ythflglejhhebeaa.cs
open Go.RowKit mem rwg
open Go.ChangeShapes Go.WideShapes Go.ChangeAt
set_option linter.unusedVariables false
/-- an act as it stands in memory -/
structure AcS where
  what : Int
  i : Int
  nd : Int
  num : Int
  dl : Int
  a : Option Addr
  n : Nat
  c : Nat
  m : Int
  gs : List Gr
def AcS.v (d : AcS) : Value := .agg #[.int .i64 d.what, .int .i64 d.i, .int .i64 d.nd, .int .i64 d.num, .int .i64 d.dl, .slice d.a d.n d.c, .int .i64 d.m]
def AcIn (w : World) (d : AcS) : Prop := ReadsG w d.a d.n d.gs ∧ Cp d.a d.n d.c
def AcAt (w : World) (b o : Nat) (d : AcS) : Prop :=
  w.cell? ⟨b, o, none⟩ = some (.int .i64 d.what) ∧ w.cell? ⟨b, o + 1, none⟩ = some (.int .i64 d.i) ∧ w.cell? ⟨b, o + 2, none⟩ = some (.int .i64 d.nd) ∧ w.cell? ⟨b, o + 3, none⟩ = some (.int .i64 d.num) ∧ w.cell? ⟨b, o + 4, none⟩ = some (.int .i64 d.dl) ∧ w.cell? ⟨b, o + 5, none⟩ = some (.slice d.a d.n d.c) ∧ w.cell? ⟨b, o + 6, none⟩ = some (.int .i64 d.m)
def RowS (w : World) (a : Option Addr) (len : Nat) : Prop := len ≤ maxLen ∧ (len = 0 ∨ ∃ b off, a = some ⟨b, off, none⟩ ∧ ∀ i, i < len → ∃ d, AcAt w b (off + i * 7) d ∧ AcIn w d)
theorem ReadsG.keep {b : Nat} {w w' : World} {a : Option Addr} {n : Nat} {gs : List Gr} (h : ReadsG w a n gs) (hb : w.heap.size ≤ b) (ho : Only (fun q => b ≤ q) w w') : ReadsG w' a n gs := by
  rcases Nat.eq_zero_or_pos n with e | e
  · subst e
    exact ⟨h.1, .inl rfl⟩
  · obtain ⟨b2, off, rfl, hc⟩ := h.cells e
    obtain ⟨h0, -, -, -⟩ := hc 0 e
    have hp : ¬ b ≤ b2 := by have := World.block_lt_of_cell? w _ h0; simp only at this; omega
    exact ReadsG.mk h.1 (fun k hk => by
      obtain ⟨c0, c1, c2, c3⟩ := hc k hk
      exact ⟨ho.cell' c0 hp, ho.cell' c1 hp, ho.cell' c2 hp, ho.cell' c3 hp⟩)
theorem AcIn.keep {b : Nat} {w w' : World} {d : AcS} (h : AcIn w d) (hb : w.heap.size ≤ b) (ho : Only (fun q => b ≤ q) w w') : AcIn w' d := ⟨ReadsG.keep h.1 hb ho, h.2⟩
theorem AcAt.keep {b : Nat} {w w' : World} {p o : Nat} {d : AcS} (h : AcAt w p o d) (hb : w.heap.size ≤ b) (ho : Only (fun q => b ≤ q) w w') : AcAt w' p o d := by
  have hp : ¬ b ≤ p := by have := World.block_lt_of_cell? w _ h.1; simp only at this; omega
  obtain ⟨h0, h1, h2, h3, h4, h5, h6⟩ := h
  exact ⟨ho.cell' h0 hp, ho.cell' h1 hp, ho.cell' h2 hp, ho.cell' h3 hp, ho.cell' h4 hp, ho.cell' h5 hp, ho.cell' h6 hp⟩
theorem RowS.keep {b : Nat} {w w' : World} {a : Option Addr} {len : Nat} (h : RowS w a len) (hb : w.heap.size ≤ b) (ho : Only (fun q => b ≤ q) w w') : RowS w' a len := by
  refine ⟨h.1, h.2.imp (fun x => x) fun ⟨g, off, e, hc⟩ => ⟨g, off, e, fun i hi => ?_⟩⟩
  obtain ⟨d, h1, h2⟩ := hc i hi
  exact ⟨d, h1.keep hb ho, h2.keep hb ho⟩
section
variable {H : Type} {enc : TypeId × Value → H} {w : World} {base : Nat}
set_option maxRecDepth 100000 in
theorem gr_open {fuel : Nat} {cs : Array Value} (hsz : cs.size = 4) {x : DataW H × List MemPlace} (h : DataW.trod enc Try.prog w base (fun _ => true) true fuel 92 (Value.agg cs).cells.toList = some x) : ∃ y : Gr, cs = #[.int .i64 y.g, .int .i64 y.u, .int .i64 y.a, .bool y.f] := by
  obtain ⟨ys, n', _, _, hlen, hyl, hf⟩ := DataW.trod_struct Try.underlying92 h
  obtain ⟨l⟩ := cs
  match l, ys, hsz, hyl, hf with
  | [c0, c1, c2, c3], [y0, y1, y2, y3], _, _, hf =>
    have f0 := hf 0 _ rfl
    have f1 := hf 1 _ rfl
    have f2 := hf 2 _ rfl
    have f3 := hf 3 _ rfl
    have o3 : Try.prog.cellsOf 3 = 1 := by kernel_rfl
    have o4 : Try.prog.cellsOf 4 = 1 := by kernel_rfl
    simp [o3, Value.cells] at f0 f1 f2
    simp [o4, Value.cells] at f3
    obtain ⟨k0, hk0, _, w0⟩ := DataW.trod_int Try.underlying3 f0
    obtain ⟨k1, hk1, _, w1⟩ := DataW.trod_int Try.underlying3 f1
    obtain ⟨k2, hk2, _, w2⟩ := DataW.trod_int Try.underlying3 f2
    obtain ⟨k3, hk3, _⟩ := DataW.trod_bool Try.underlying4 f3
    simp at hk0 hk1 hk2 hk3
    subst hk0 hk1 hk2 hk3
    exact ⟨⟨k0, k1, k2, k3⟩, rfl⟩
set_option maxRecDepth 100000 in
theorem grs_open {fuel : Nat} {ao : Option Addr} {len cap : Nat} {x : DataW H × List MemPlace} (h : DataW.trod enc Try.prog w base (fun _ => true) true fuel 48 [.slice ao len cap] = some x) : ∃ gs, ReadsG w ao len gs ∧ Cp ao len cap := by
  rcases Go.Deep.open_slice Try.underlying48 h with ⟨hcs, _⟩ | ⟨a, len2, cap2, m, n, D, Pq, hcs, hb, hl, hm, hmm, hx, hi⟩
  · simp at hcs
    obtain ⟨rfl, rfl, rfl⟩ := hcs
    exact ⟨[], ⟨rfl, .inl rfl⟩, Nat.le_refl _, Nat.zero_le _, fun _ => rfl⟩
  · simp at hcs
    obtain ⟨rfl, rfl, rfl⟩ := hcs
    simp at hmm
    have hC : Try.prog.cellsOf 92 = 4 := by kernel_rfl
    rw [hC] at hi
    have key : ∀ i, ∃ d : Gr, i < len → ∀ c, c < 4 → w.cell? ((a.add (i * 4)).add c) = [Value.int .i64 d.g, .int .i64 d.u, .int .i64 d.a, .bool d.f][c]? := by
      intro i
      by_cases hil : i < len
      · obtain ⟨cs', hc, ht'⟩ := hi i (by omega)
        obtain ⟨_, hcl, hat⟩ := World.cells?_some hc
        obtain ⟨d, e⟩ := gr_open (cs := cs'.toArray) (by simpa using hcl) (by simpa [Value.cells] using ht')
        refine ⟨d, fun _ c hc' => ?_⟩
        have e2 : cs' = [Value.int .i64 d.g, .int .i64 d.u, .int .i64 d.a, .bool d.f] := by
          have := congrArg Array.toList e
          simpa using this
        rw [hat c (by omega), e2]
      · exact ⟨default, fun h => absurd h hil⟩
    have hcp : Cp (some a) len cap := ⟨hl, hm, fun e => by cases e⟩
    rcases Nat.eq_zero_or_pos len with h0 | h0
    · subst h0
      exact ⟨[], ⟨rfl, .inl rfl⟩, hcp⟩
    · obtain ⟨b, off, spot⟩ := a
      obtain ⟨d0, k0⟩ := key 0
      have hs0 := k0 h0 0 (by omega)
      have hspot : spot = none := by
        have h9 : w.cell? (((⟨b, off, spot⟩ : Addr).add (0 * 4)).add 0) = some (.int .i64 d0.g) := hs0
        simpa [Addr.add] using World.cell?_spot h9
      subst hspot
      refine ⟨(List.range len).map (fun i => Classical.choose (key i)), ReadsG.mk (by simp) (fun i hil => ?_), hcp⟩
      have hd := Classical.choose_spec (key i) hil
      have eg : ((List.range len).map (fun i => Classical.choose (key i))).getD i default = Classical.choose (key i) := by simp [List.getD, hil]
      rw [eg]
      generalize Classical.choose (key i) = d at *
      have g : ∀ c, c < 4 → w.cell? ⟨b, off + i * 4 + c, none⟩ = [Value.int .i64 d.g, .int .i64 d.u, .int .i64 d.a, .bool d.f][c]? := fun c hc' => by
        have := hd c hc'
        rwa [add_none, add_none] at this
      exact ⟨g 0 (by omega), g 1 (by omega), g 2 (by omega), g 3 (by omega)⟩
set_option maxRecDepth 100000 in
theorem sact_open {fuel : Nat} {cs : Array Value} (hsz : cs.size = 7) {x : DataW H × List MemPlace} (h : DataW.trod enc Try.prog w base (fun _ => true) true fuel 52 (Value.agg cs).cells.toList = some x) : ∃ d : AcS, Value.agg cs = d.v ∧ AcIn w d := by
  obtain ⟨ys, n', _, _, hlen, hyl, hf⟩ := DataW.trod_struct Try.underlying52 h
  obtain ⟨l⟩ := cs
  match l, ys, hsz, hyl, hf with
  | [c0, c1, c2, c3, c4, c5, c6], [y0, y1, y2], _, _, hf =>
    have f0 := hf 0 _ rfl
    have f1 := hf 1 _ rfl
    have f2 := hf 2 _ rfl
    have o1 : Try.prog.cellsOf 3 = 1 := by kernel_rfl
    have o2 : Try.prog.cellsOf 48 = 1 := by kernel_rfl
    have o3 : Try.prog.cellsOf 50 = 5 := by kernel_rfl
    simp [o1, o3, Value.cells] at f0 f1 f2
    obtain ⟨k0, hk0, _, _⟩ := DataW.trod_int Try.underlying3 f0
    obtain ⟨k6, hk6, _, _⟩ := DataW.trod_int Try.underlying3 f2
    obtain ⟨zs, n6, _, _, hlen6, hzl, hg⟩ := DataW.trod_struct Try.underlying50 f1
    match zs, hzl, hg with
    | [z0, z1, z2, z3, z4], _, hg =>
      have g0 := hg 0 _ rfl
      have g1 := hg 1 _ rfl
      have g2 := hg 2 _ rfl
      have g3 := hg 3 _ rfl
      have g4 := hg 4 _ rfl
      simp [o1, o2] at g0 g1 g2 g3 g4
      obtain ⟨j0, hj0, _, _⟩ := DataW.trod_int Try.underlying3 g0
      obtain ⟨j1, hj1, _, _⟩ := DataW.trod_int Try.underlying3 g1
      obtain ⟨j2, hj2, _, _⟩ := DataW.trod_int Try.underlying3 g2
      obtain ⟨j3, hj3, _, _⟩ := DataW.trod_int Try.underlying3 g3
      obtain ⟨p4, n4, q4, e4⟩ : ∃ a n c, c5 = .slice a n c := by
        rcases Go.Deep.open_slice Try.underlying48 g4 with ⟨hcs, _⟩ | ⟨a, len2, cap2, m, n, D, Pq, hcs, _⟩
        · exact ⟨_, _, _, by simpa using hcs⟩
        · exact ⟨_, _, _, by simpa using hcs⟩
      subst e4
      obtain ⟨gs, r4⟩ := grs_open g4
      simp at hk0 hk6 hj0 hj1 hj2 hj3
      subst hk0 hk6 hj0 hj1 hj2 hj3
      exact ⟨⟨k0, j0, j1, j2, j3, p4, n4, q4, k6, gs⟩, rfl, r4⟩
set_option maxRecDepth 100000 in
theorem sacts_open {fuel : Nat} {ao : Option Addr} {len cap : Nat} {x : DataW H × List MemPlace} (h : DataW.trod enc Try.prog w base (fun _ => true) true fuel 22 [.slice ao len cap] = some x) : RowS w ao len := by
  rcases Go.Deep.open_slice Try.underlying22 h with ⟨hcs, _⟩ | ⟨a, len2, cap2, m, n, D, Pq, hcs, hb, hl, hm, hmm, hx, hi⟩
  · simp at hcs
    obtain ⟨rfl, rfl, rfl⟩ := hcs
    exact ⟨by unfold maxLen; omega, .inl rfl⟩
  · simp at hcs
    obtain ⟨rfl, rfl, rfl⟩ := hcs
    simp at hmm
    have hC : Try.prog.cellsOf 52 = 7 := by kernel_rfl
    rw [hC] at hi
    have key : ∀ i, i < len → ∃ d : AcS, (∀ c, c < 7 → w.cell? ((a.add (i * 7)).add c) = d.v.cells.toList[c]?) ∧ AcIn w d := by
      intro i hil
      obtain ⟨cs', hc, ht'⟩ := hi i (by omega)
      obtain ⟨_, hcl, hat⟩ := World.cells?_some hc
      obtain ⟨d, e, hd⟩ := sact_open (cs := cs'.toArray) (by simpa using hcl) (by simpa [Value.cells] using ht')
      refine ⟨d, fun c hc' => ?_, hd⟩
      rw [hat c (by omega), ← e]
      simp [Value.cells]
    by_cases h0 : len = 0
    · subst h0
      exact ⟨by unfold maxLen; omega, .inl rfl⟩
    · obtain ⟨b, off, spot⟩ := a
      obtain ⟨d0, k0, _⟩ := key 0 (by omega)
      have hs0 := k0 0 (by omega)
      have hspot : spot = none := by
        have h9 : w.cell? (((⟨b, off, spot⟩ : Addr).add (0 * 7)).add 0) = some (.int .i64 d0.what) := hs0
        simpa [Addr.add] using World.cell?_spot h9
      subst hspot
      refine ⟨by omega, .inr ⟨b, off, rfl, fun i hil => ?_⟩⟩
      obtain ⟨d, hc, hd⟩ := key i hil
      have g : ∀ c, c < 7 → w.cell? ⟨b, off + i * 7 + c, none⟩ = d.v.cells.toList[c]? := fun c hc' => by
        have := hc c hc'
        rwa [add_none, add_none] at this
      exact ⟨d, ⟨g 0 (by omega), g 1 (by omega), g 2 (by omega), g 3 (by omega), g 4 (by omega), g 5 (by omega), g 6 (by omega)⟩, hd⟩
end
end Go.Proofs.Ythflglejhhebeaa.cs
