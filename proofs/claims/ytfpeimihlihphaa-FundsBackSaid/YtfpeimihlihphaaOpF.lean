/- Acts on books that come in, opened: one, and a row of them. -/
import Derived.Test.YtfpeimihlihphaaFuK
import Derived.Test.YtfpeimihlihphaaOpU
namespace Go.Proofs.Ytfpeimihlihphaa.fnd
open Go.RowKit mem tre
open Go.ChangeShapes Go.WideShapes Go.ChangeAt
set_option linter.unusedVariables false
/-- an act as it stands in memory -/
structure ActD where
  what : Int
  node : Int
  pa : Option Addr
  pn : Nat
  pc : Nat
  pl : List Int
  la : Option Addr
  ln : Nat
  lc : Nat
  ll : List Int
  amt : Int
  carry : Bool
  x : Ac
def ActD.v (d : ActD) : Value := aggAct d.what d.node d.pa d.pn d.pc d.la d.ln d.lc d.amt d.carry d.x
def ActIn (w : World) (d : ActD) : Prop := ReadsI w d.pa d.pn d.pl ∧ d.pn ≤ d.pc ∧ ReadsI w d.la d.ln d.ll ∧ d.ln ≤ d.lc
def ActAt (w : World) (b o : Nat) (d : ActD) : Prop :=
  w.cell? ⟨b, o, none⟩ = some (.int .i64 d.what) ∧ w.cell? ⟨b, o + 1, none⟩ = some (.int .i64 d.node) ∧ w.cell? ⟨b, o + 2, none⟩ = some (.slice d.pa d.pn d.pc) ∧ w.cell? ⟨b, o + 3, none⟩ = some (.slice d.la d.ln d.lc) ∧ w.cell? ⟨b, o + 4, none⟩ = some (.int .i64 d.amt) ∧ w.cell? ⟨b, o + 5, none⟩ = some (.bool d.carry) ∧ w.cell? ⟨b, o + 6, none⟩ = some (.int .i64 d.x.t) ∧ w.cell? ⟨b, o + 7, none⟩ = some (.int .i64 d.x.c) ∧ w.cell? ⟨b, o + 8, none⟩ = some (.int .i64 d.x.e) ∧ w.cell? ⟨b, o + 9, none⟩ = some (.int .i64 d.x.u) ∧ w.cell? ⟨b, o + 10, none⟩ = some (.int .i64 d.x.h)
def RowF (w : World) (a : Option Addr) (len : Nat) : Prop := len ≤ maxLen ∧ (len = 0 ∨ ∃ b off, a = some ⟨b, off, none⟩ ∧ ∀ i, i < len → ∃ d, ActAt w b (off + i * 11) d ∧ ActIn w d)
theorem ReadsI.lt {w : World} {a : Option Addr} {n : Nat} {l : List Int} (h : ReadsI w a n l) : n = 0 ∨ ∀ y, a = some y → y.block < w.heap.size := by
  obtain ⟨_, _, _, h0 | ⟨b, off, rfl, hc⟩⟩ := h
  · exact .inl h0
  · by_cases hz : n = 0
    · exact .inl hz
    · exact .inr fun y hy => by cases hy; exact World.block_lt_of_cell? w _ (hc 0 (by omega))
theorem ReadsI.keep {b : Nat} {w w' : World} {a : Option Addr} {n : Nat} {l : List Int} (h : ReadsI w a n l) (hb : w.heap.size ≤ b) (ho : Only (fun q => b ≤ q) w w') : ReadsI w' a n l := by
  rcases ReadsI.lt h with e | e
  · exact ⟨h.1, h.2.1, h.2.2.1, .inl e⟩
  · exact h.only ho (fun y hy hs => by have := e y hy; omega)
theorem ActIn.keep {b : Nat} {w w' : World} {d : ActD} (h : ActIn w d) (hb : w.heap.size ≤ b) (ho : Only (fun q => b ≤ q) w w') : ActIn w' d :=
  ⟨ReadsI.keep h.1 hb ho, h.2.1, ReadsI.keep h.2.2.1 hb ho, h.2.2.2⟩
theorem ActAt.keep {b : Nat} {w w' : World} {p o : Nat} {d : ActD} (h : ActAt w p o d) (hb : w.heap.size ≤ b) (ho : Only (fun q => b ≤ q) w w') : ActAt w' p o d := by
  have hp : ¬ b ≤ p := by have := World.block_lt_of_cell? w _ h.1; simp only at this; omega
  obtain ⟨h0, h1, h2, h3, h4, h5, h6, h7, h8, h9, h10⟩ := h
  exact ⟨ho.cell' h0 hp, ho.cell' h1 hp, ho.cell' h2 hp, ho.cell' h3 hp, ho.cell' h4 hp, ho.cell' h5 hp, ho.cell' h6 hp, ho.cell' h7 hp, ho.cell' h8 hp, ho.cell' h9 hp, ho.cell' h10 hp⟩
section
variable {H : Type} {enc : TypeId × Value → H} {w : World} {base : Nat}
set_option maxRecDepth 100000 in
theorem act_open {fuel : Nat} {cs : Array Value} (hsz : cs.size = 11) {x : DataW H × List MemPlace} (h : DataW.trod enc Try.prog w base (fun _ => true) true fuel 74 (Value.agg cs).cells.toList = some x) : ∃ d : ActD, Value.agg cs = d.v ∧ ActIn w d := by
  obtain ⟨ys, n', _, _, hlen, hyl, hf⟩ := DataW.trod_struct Try.underlying74 h
  obtain ⟨l⟩ := cs
  match l, ys, hsz, hyl, hf with
  | [c0, c1, c2, c3, c4, c5, c6, c7, c8, c9, c10], [y0, y1, y2, y3, y4, y5, y6], _, _, hf =>
    have f0 := hf 0 _ rfl
    have f1 := hf 1 _ rfl
    have f2 := hf 2 _ rfl
    have f3 := hf 3 _ rfl
    have f4 := hf 4 _ rfl
    have f5 := hf 5 _ rfl
    have f6 := hf 6 _ rfl
    have o1 : Try.prog.cellsOf 3 = 1 := by kernel_rfl
    have o2 : Try.prog.cellsOf 30 = 1 := by kernel_rfl
    have o3 : Try.prog.cellsOf 4 = 1 := by kernel_rfl
    have o4 : Try.prog.cellsOf 69 = 5 := by kernel_rfl
    simp [o1, o2, o3, o4, Value.cells] at f0 f1 f2 f3 f4 f5 f6
    obtain ⟨k0, hk0, _, _⟩ := DataW.trod_int Try.underlying3 f0
    obtain ⟨k1, hk1, _, _⟩ := DataW.trod_int Try.underlying3 f1
    obtain ⟨k4, hk4, _, _⟩ := DataW.trod_int Try.underlying3 f4
    obtain ⟨k5, hk5, _⟩ := DataW.trod_bool Try.underlying4 f5
    obtain ⟨p2, n2, q2, e2⟩ : ∃ a n c, c2 = .slice a n c := by
      rcases Go.Deep.open_slice Try.underlying30 f2 with ⟨hcs, _⟩ | ⟨a, len2, cap2, m, n, D, Pq, hcs, _⟩
      · exact ⟨_, _, _, by simpa using hcs⟩
      · exact ⟨_, _, _, by simpa using hcs⟩
    obtain ⟨p3, n3, q3, e3⟩ : ∃ a n c, c3 = .slice a n c := by
      rcases Go.Deep.open_slice Try.underlying30 f3 with ⟨hcs, _⟩ | ⟨a, len2, cap2, m, n, D, Pq, hcs, _⟩
      · exact ⟨_, _, _, by simpa using hcs⟩
      · exact ⟨_, _, _, by simpa using hcs⟩
    subst e2 e3
    obtain ⟨l2, r2⟩ := opu.ints_open f2
    obtain ⟨l3, r3⟩ := opu.ints_open f3
    obtain ⟨zs, n6, _, _, hlen6, hzl, hg⟩ := DataW.trod_struct Try.underlying69 f6
    match zs, hzl, hg with
    | [z0, z1, z2, z3, z4], _, hg =>
      have g0 := hg 0 _ rfl
      have g1 := hg 1 _ rfl
      have g2 := hg 2 _ rfl
      have g3 := hg 3 _ rfl
      have g4 := hg 4 _ rfl
      simp [o1] at g0 g1 g2 g3 g4
      obtain ⟨j0, hj0, _, _⟩ := DataW.trod_int Try.underlying3 g0
      obtain ⟨j1, hj1, _, _⟩ := DataW.trod_int Try.underlying3 g1
      obtain ⟨j2, hj2, _, _⟩ := DataW.trod_int Try.underlying3 g2
      obtain ⟨j3, hj3, _, _⟩ := DataW.trod_int Try.underlying3 g3
      obtain ⟨j4, hj4, _, _⟩ := DataW.trod_int Try.underlying3 g4
      simp at hk0 hk1 hk4 hk5 hj0 hj1 hj2 hj3 hj4
      subst hk0 hk1 hk4 hk5 hj0 hj1 hj2 hj3 hj4
      exact ⟨⟨k0, k1, p2, n2, q2, l2, p3, n3, q3, l3, k4, k5, ⟨j0, j1, j2, j3, j4⟩⟩, rfl, r2.1, r2.2.1, r3.1, r3.2.1⟩
set_option maxRecDepth 100000 in
theorem acts_open {fuel : Nat} {ao : Option Addr} {len cap : Nat} {x : DataW H × List MemPlace} (h : DataW.trod enc Try.prog w base (fun _ => true) true fuel 55 [.slice ao len cap] = some x) : RowF w ao len := by
  rcases Go.Deep.open_slice Try.underlying55 h with ⟨hcs, _⟩ | ⟨a, len2, cap2, m, n, D, Pq, hcs, hb, hl, hm, hmm, hx, hi⟩
  · simp at hcs
    obtain ⟨rfl, rfl, rfl⟩ := hcs
    exact ⟨by unfold maxLen; omega, .inl rfl⟩
  · simp at hcs
    obtain ⟨rfl, rfl, rfl⟩ := hcs
    simp at hmm
    have hC : Try.prog.cellsOf 74 = 11 := by kernel_rfl
    rw [hC] at hi
    have key : ∀ i, i < len → ∃ d : ActD, (∀ c, c < 11 → w.cell? ((a.add (i * 11)).add c) = d.v.cells.toList[c]?) ∧ ActIn w d := by
      intro i hil
      obtain ⟨cs', hc, ht'⟩ := hi i (by omega)
      obtain ⟨_, hcl, hat⟩ := World.cells?_some hc
      obtain ⟨d, e, hd⟩ := act_open (cs := cs'.toArray) (by simpa using hcl) (by simpa [Value.cells] using ht')
      refine ⟨d, fun c hc' => ?_, hd⟩
      rw [hat c (by omega), ← e]
      simp [Value.cells]
    by_cases h0 : len = 0
    · subst h0
      exact ⟨by unfold maxLen; omega, .inl rfl⟩
    · obtain ⟨b, off, spot⟩ := a
      obtain ⟨d0, k0, _⟩ := key 0 (by omega)
      have hs0 := k0 0 (by omega)
      have hspot : spot = none := by
        have h9 : w.cell? (((⟨b, off, spot⟩ : Addr).add (0 * 11)).add 0) = some (.int .i64 d0.what) := hs0
        simpa [Addr.add] using World.cell?_spot h9
      subst hspot
      refine ⟨by omega, .inr ⟨b, off, rfl, fun i hil => ?_⟩⟩
      obtain ⟨d, hc, hd⟩ := key i hil
      have g : ∀ c, c < 11 → w.cell? ⟨b, off + i * 11 + c, none⟩ = d.v.cells.toList[c]? := fun c hc' => by
        have := hc c hc'
        rwa [add_none, add_none] at this
      exact ⟨d, ⟨g 0 (by omega), g 1 (by omega), g 2 (by omega), g 3 (by omega), g 4 (by omega), g 5 (by omega), g 6 (by omega), g 7 (by omega), g 8 (by omega), g 9 (by omega), g 10 (by omega)⟩, hd⟩
end
end Go.Proofs.Ytfpeimihlihphaa.fnd
