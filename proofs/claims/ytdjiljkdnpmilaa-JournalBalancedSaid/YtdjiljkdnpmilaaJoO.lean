/- The law's jobs, opened: one, and a row of them. -/
import Derived.Test.YtdjiljkdnpmilaaJoA
import Derived.Test.YtdjiljkdnpmilaaOpU
import Derived.Test.YtdjiljkdnpmilaaEntPx
namespace Go.Proofs.Ytdjiljkdnpmilaa.jnw
open Go.RowKit mem accm accn entw entm
open Go.ChangeShapes Go.WideShapes Go.ChangeAt
set_option linter.unusedVariables false
/-- a job as it stands in memory -/
structure JbD where
  what : Int
  kind : Int
  amt : Int
  pa : Option Addr
  pn : Nat
  pc : Nat
  pl : List Int
  grp : Int
  rk : Int
  la : Option Addr
  ln : Nat
  lc : Nat
  ll : List Lg
def JbD.v (d : JbD) : Value := .agg #[.int .i64 d.what, .int .i64 d.kind, .int .i64 d.amt, .slice d.pa d.pn d.pc, .int .i64 d.grp, .int .i64 d.rk, .slice d.la d.ln d.lc]
def JbIn (w : World) (d : JbD) : Prop := ReadsI w d.pa d.pn d.pl ∧ d.pn ≤ d.pc ∧ (d.pa = none → d.pc = 0) ∧ InI d.grp ∧ LegsR w d.la d.ln d.lc d.ll
def JbAt (w : World) (b o : Nat) (d : JbD) : Prop :=
  w.cell? ⟨b, o, none⟩ = some (.int .i64 d.what) ∧ w.cell? ⟨b, o + 1, none⟩ = some (.int .i64 d.kind) ∧ w.cell? ⟨b, o + 2, none⟩ = some (.int .i64 d.amt) ∧ w.cell? ⟨b, o + 3, none⟩ = some (.slice d.pa d.pn d.pc) ∧ w.cell? ⟨b, o + 4, none⟩ = some (.int .i64 d.grp) ∧ w.cell? ⟨b, o + 5, none⟩ = some (.int .i64 d.rk) ∧ w.cell? ⟨b, o + 6, none⟩ = some (.slice d.la d.ln d.lc)
def RowJ (w : World) (a : Option Addr) (len : Nat) : Prop := len ≤ maxLen ∧ (len = 0 ∨ ∃ b off, a = some ⟨b, off, none⟩ ∧ ∀ i, i < len → ∃ d, JbAt w b (off + i * 7) d ∧ JbIn w d)
theorem ReadsI.keepJ {b : Nat} {w w' : World} {a : Option Addr} {n : Nat} {l : List Int} (h : ReadsI w a n l) (hb : w.heap.size ≤ b) (ho : Only (fun q => b ≤ q) w w') : ReadsI w' a n l := by
  obtain ⟨h1, h2, h3, h0 | ⟨g, off, rfl, hc⟩⟩ := h
  · exact ⟨h1, h2, h3, .inl h0⟩
  · refine ⟨h1, h2, h3, .inr ⟨g, off, rfl, fun i hi => ho.cell' (hc i hi) (fun q => ?_)⟩⟩
    have := World.block_lt_of_cell? w _ (hc i hi)
    simp only at this q
    omega
theorem ReadsL.keepJ {b : Nat} {w w' : World} {a : Option Addr} {n : Nat} {l : List Lg} (h : ReadsL w a n l) (hb : w.heap.size ≤ b) (ho : Only (fun q => b ≤ q) w w') : ReadsL w' a n l :=
  readsL_keep h ho (fun y e h0 q => by have := readsL_block h e h0; omega)
theorem JbIn.keep {b : Nat} {w w' : World} {d : JbD} (h : JbIn w d) (hb : w.heap.size ≤ b) (ho : Only (fun q => b ≤ q) w w') : JbIn w' d :=
  ⟨ReadsI.keepJ h.1 hb ho, h.2.1, h.2.2.1, h.2.2.2.1, ReadsL.keepJ h.2.2.2.2.1 hb ho, h.2.2.2.2.2⟩
theorem JbAt.keep {b : Nat} {w w' : World} {p o : Nat} {d : JbD} (h : JbAt w p o d) (hb : w.heap.size ≤ b) (ho : Only (fun q => b ≤ q) w w') : JbAt w' p o d := by
  have hp : ¬ b ≤ p := by have := World.block_lt_of_cell? w _ h.1; simp only at this; omega
  obtain ⟨h0, h1, h2, h3, h4, h5, h6⟩ := h
  exact ⟨ho.cell' h0 hp, ho.cell' h1 hp, ho.cell' h2 hp, ho.cell' h3 hp, ho.cell' h4 hp, ho.cell' h5 hp, ho.cell' h6 hp⟩
section
variable {H : Type} {enc : TypeId × Value → H} {w : World} {base : Nat}
set_option maxRecDepth 100000 in
theorem job_open {fuel : Nat} {cs : Array Value} (hsz : cs.size = 7) {x : DataW H × List MemPlace} (h : DataW.trod enc Try.prog w base (fun _ => true) true fuel 63 (Value.agg cs).cells.toList = some x) : ∃ d : JbD, Value.agg cs = d.v ∧ JbIn w d := by
  obtain ⟨ys, n', _, _, hlen, hyl, hf⟩ := DataW.trod_struct Try.underlying63 h
  obtain ⟨l⟩ := cs
  match l, ys, hsz, hyl, hf with
  | [c0, c1, c2, c3, c4, c5, c6], [y0, y1, y2, y3, y4, y5], _, _, hf =>
    have f0 := hf 0 _ rfl
    have f1 := hf 1 _ rfl
    have f2 := hf 2 _ rfl
    have f3 := hf 3 _ rfl
    have f4 := hf 4 _ rfl
    have f5 := hf 5 _ rfl
    have o1 : Try.prog.cellsOf 3 = 1 := by kernel_rfl
    have o2 : Try.prog.cellsOf 22 = 1 := by kernel_rfl
    have o3 : Try.prog.cellsOf 31 = 1 := by kernel_rfl
    have o4 : Try.prog.cellsOf 33 = 2 := by kernel_rfl
    simp [o1, o2, o4, Value.cells] at f0 f1 f2 f3 f4 f5
    obtain ⟨k0, hk0, _, _⟩ := DataW.trod_int Try.underlying3 f0
    obtain ⟨k1, hk1, _, _⟩ := DataW.trod_int Try.underlying3 f1
    obtain ⟨k2, hk2, _, _⟩ := DataW.trod_int Try.underlying3 f2
    obtain ⟨k4, hk4, _, w4⟩ := DataW.trod_int Try.underlying3 f4
    obtain ⟨p3, n3, q3, e3⟩ : ∃ a n c, c3 = .slice a n c := by
      rcases Go.Deep.open_slice Try.underlying22 f3 with ⟨hcs, _⟩ | ⟨a, len2, cap2, m, n, D, Pq, hcs, _⟩
      · exact ⟨_, _, _, by simpa using hcs⟩
      · exact ⟨_, _, _, by simpa using hcs⟩
    subst e3
    have hnil : p3 = none → q3 = 0 := by
      rcases Go.Deep.open_slice Try.underlying22 f3 with ⟨hcs, _⟩ | ⟨a, len2, cap2, m, n, D, Pq, hcs, _⟩
      · simp at hcs; exact fun _ => hcs.2.2
      · simp at hcs; intro e; rw [hcs.1] at e; cases e
    obtain ⟨l3, r3⟩ := opu.ints_open f3
    obtain ⟨zs, n6, _, _, hlen6, hzl, hg⟩ := DataW.trod_struct Try.underlying33 f5
    match zs, hzl, hg with
    | [z0, z1], _, hg =>
      have g0 := hg 0 _ rfl
      have g1 := hg 1 _ rfl
      simp [o1, o3] at g0 g1
      obtain ⟨j0, hj0, _, _⟩ := DataW.trod_int Try.underlying3 g0
      obtain ⟨p6, n6, q6, e6⟩ : ∃ a n c, c6 = .slice a n c := by
        rcases Go.Deep.open_slice Try.underlying31 g1 with ⟨hcs, _⟩ | ⟨a, len2, cap2, m, n, D, Pq, hcs, _⟩
        · exact ⟨_, _, _, by simpa using hcs⟩
        · exact ⟨_, _, _, by simpa using hcs⟩
      subst e6
      obtain ⟨l6, r6⟩ := entw.legs_open g1
      simp at hk0 hk1 hk2 hk4 hj0
      subst hk0 hk1 hk2 hk4 hj0
      exact ⟨⟨k0, k1, k2, p3, n3, q3, l3, k4, j0, p6, n6, q6, l6⟩, rfl, r3.1, r3.2.1, hnil, int_of_wf w4, r6⟩
set_option maxRecDepth 100000 in
theorem jobs_open {fuel : Nat} {ao : Option Addr} {len cap : Nat} {x : DataW H × List MemPlace} (h : DataW.trod enc Try.prog w base (fun _ => true) true fuel 42 [.slice ao len cap] = some x) : RowJ w ao len := by
  rcases Go.Deep.open_slice Try.underlying42 h with ⟨hcs, _⟩ | ⟨a, len2, cap2, m, n, D, Pq, hcs, hb, hl, hm, hmm, hx, hi⟩
  · simp at hcs
    obtain ⟨rfl, rfl, rfl⟩ := hcs
    exact ⟨by unfold maxLen; omega, .inl rfl⟩
  · simp at hcs
    obtain ⟨rfl, rfl, rfl⟩ := hcs
    simp at hmm
    have hC : Try.prog.cellsOf 63 = 7 := by kernel_rfl
    rw [hC] at hi
    have key : ∀ i, i < len → ∃ d : JbD, (∀ c, c < 7 → w.cell? ((a.add (i * 7)).add c) = d.v.cells.toList[c]?) ∧ JbIn w d := by
      intro i hil
      obtain ⟨cs', hc, ht'⟩ := hi i (by omega)
      obtain ⟨_, hcl, hat⟩ := World.cells?_some hc
      obtain ⟨d, e, hd⟩ := job_open (cs := cs'.toArray) (by simpa using hcl) (by simpa [Value.cells] using ht')
      refine ⟨d, fun c hc' => ?_, hd⟩
      rw [hat c (by omega), ← e]
      simp [Value.cells]
    by_cases h0 : len = 0
    · subst h0
      exact ⟨by unfold maxLen; omega, .inl rfl⟩
    · obtain ⟨b, off, spot⟩ := a
      obtain ⟨d0, k0, _⟩ := key 0 (by omega)
      have hs0 := k0 0 (by omega)
      have hspot : spot = none := by
        have h9 : w.cell? (((⟨b, off, spot⟩ : Addr).add (0 * 7)).add 0) = some (.int .i64 d0.what) := hs0
        simpa [Addr.add] using World.cell?_spot h9
      subst hspot
      refine ⟨by omega, .inr ⟨b, off, rfl, fun i hil => ?_⟩⟩
      obtain ⟨d, hc, hd⟩ := key i hil
      have g : ∀ c, c < 7 → w.cell? ⟨b, off + i * 7 + c, none⟩ = d.v.cells.toList[c]? := fun c hc' => by
        have := hc c hc'
        rwa [mem.add_none, mem.add_none] at this
      exact ⟨d, ⟨g 0 (by omega), g 1 (by omega), g 2 (by omega), g 3 (by omega), g 4 (by omega), g 5 (by omega), g 6 (by omega)⟩, hd⟩
end
end Go.Proofs.Ytdjiljkdnpmilaa.jnw
