/- The law's jobs for a disk, opened. -/
import Derived.Test.YtodmfljhojdbkaaDdK
import Derived.Test.YtodmfljhojdbkaaDskFm
import Derived.Test.YtodmfljhojdbkaaDskG
import Derived.Deep.CutRange
import Derived.Deep.CutBlock
namespace Go.Proofs.Ytodmfljhojdbkaa.dskw
open Go.RowKit mem
open Go.ChangeShapes Go.WideShapes Go.ChangeAt
set_option linter.unusedVariables false

/-- a job as it stands in memory -/
structure KbD where
  what : Int
  at_ : Int
  nn : Int
  byt : Nat
  odd : Bool
  ka : Option Addr
  kn : Nat
  kc : Nat
  kl : List Bool
def KbD.v (d : KbD) : Value := .agg #[.int .i64 d.what, .int .i64 d.at_, .int .i64 d.nn, .int .u8 (d.byt : Int), .bool d.odd, .slice d.ka d.kn d.kc]
def KbIn (w : World) (d : KbD) : Prop := (-9223372036854775808 ≤ d.at_ ∧ d.at_ ≤ 9223372036854775807) ∧ (-9223372036854775808 ≤ d.nn ∧ d.nn ≤ 9223372036854775807) ∧ d.byt < 256 ∧ Bools w d.ka d.kn d.kl
def KbAt (w : World) (b o : Nat) (d : KbD) : Prop :=
  w.cell? ⟨b, o, none⟩ = some (.int .i64 d.what) ∧ w.cell? ⟨b, o + 1, none⟩ = some (.int .i64 d.at_) ∧ w.cell? ⟨b, o + 2, none⟩ = some (.int .i64 d.nn) ∧ w.cell? ⟨b, o + 3, none⟩ = some (.int .u8 (d.byt : Int)) ∧ w.cell? ⟨b, o + 4, none⟩ = some (.bool d.odd) ∧ w.cell? ⟨b, o + 5, none⟩ = some (.slice d.ka d.kn d.kc)
def RowK (w : World) (a : Option Addr) (len : Nat) : Prop := len ≤ 9223372036854775807 ∧ (len = 0 ∨ ∃ b off, a = some ⟨b, off, none⟩ ∧ ∀ i, i < len → ∃ d, KbAt w b (off + i * 6) d ∧ KbIn w d)
theorem Bools.keepK {b : Nat} {w w' : World} {a : Option Addr} {n : Nat} {l : List Bool} (h : Bools w a n l) (hb : w.heap.size ≤ b) (ho : Only (fun q => b ≤ q) w w') : Bools w' a n l ∧ (0 < n → ∀ x, a = some x → x.block < b) := by
  obtain ⟨h1, h2, h3⟩ := h
  by_cases h0 : n = 0
  · exact ⟨⟨h1, h2, .inl h0⟩, fun h => by omega⟩
  · obtain ⟨g, off, rfl, hc⟩ := h3.resolve_left h0
    have hg := World.block_lt_of_cell? w _ (hc 0 (by omega))
    simp only at hg
    exact ⟨⟨h1, h2, .inr ⟨g, off, rfl, fun i hi => ho.cell' (hc i hi) (show ¬ b ≤ g by omega)⟩⟩, fun _ x e => by injection e with e; rw [← e]; show g < b; omega⟩
theorem KbAt.keep {b : Nat} {w w' : World} {p o : Nat} {d : KbD} (h : KbAt w p o d) (hb : w.heap.size ≤ b) (ho : Only (fun q => b ≤ q) w w') : KbAt w' p o d := by
  have hp : ¬ b ≤ p := by have := World.block_lt_of_cell? w _ h.1; simp only at this; omega
  obtain ⟨h0, h1, h2, h3, h4, h5⟩ := h
  exact ⟨ho.cell' h0 hp, ho.cell' h1 hp, ho.cell' h2 hp, ho.cell' h3 hp, ho.cell' h4 hp, ho.cell' h5 hp⟩
section
variable {H : Type} {enc : TypeId × Value → H} {w : World} {base : Nat}
set_option maxRecDepth 100000 in
theorem kjob_open {fuel : Nat} {cs : Array Value} (hsz : cs.size = 6) {x : DataW H × List MemPlace} (h : DataW.trod enc Try.prog w base (fun _ => true) true fuel 33 (Value.agg cs).cells.toList = some x) : ∃ d : KbD, Value.agg cs = d.v ∧ KbIn w d := by
  obtain ⟨ys, n', _, _, hlen, hyl, hf⟩ := DataW.trod_struct Try.underlying33 h
  obtain ⟨l⟩ := cs
  match l, ys, hsz, hyl, hf with
  | [c0, c1, c2, c3, c4, c5], [y0, y1, y2, y3, y4, y5], _, _, hf =>
    have f0 := hf 0 _ rfl
    have f1 := hf 1 _ rfl
    have f2 := hf 2 _ rfl
    have f3 := hf 3 _ rfl
    have f4 := hf 4 _ rfl
    have f5 := hf 5 _ rfl
    have o1 : Try.prog.cellsOf 3 = 1 := by kernel_rfl
    have o2 : Try.prog.cellsOf 5 = 1 := by kernel_rfl
    have o3 : Try.prog.cellsOf 4 = 1 := by kernel_rfl
    have o4 : Try.prog.cellsOf 31 = 1 := by kernel_rfl
    simp [o1, o2, o3, o4, Value.cells] at f0 f1 f2 f3 f4 f5
    obtain ⟨k0, hk0, _, _⟩ := DataW.trod_int Try.underlying3 f0
    obtain ⟨k1, hk1, _, w1⟩ := DataW.trod_int Try.underlying3 f1
    obtain ⟨k2, hk2, _, w2⟩ := DataW.trod_int Try.underlying3 f2
    obtain ⟨k3, hk3, _, w3⟩ := DataW.trod_int Try.underlying5 f3
    obtain ⟨k4, hk4, _⟩ := DataW.trod_bool Try.underlying4 f4
    obtain ⟨p5, n5, q5, e5⟩ : ∃ a n c, c5 = .slice a n c := by
      rcases Go.Deep.open_slice Try.underlying31 f5 with ⟨hcs, _⟩ | ⟨a, len2, cap2, m, n, D, Pq, hcs, _⟩
      · exact ⟨_, _, _, by simpa using hcs⟩
      · exact ⟨_, _, _, by simpa using hcs⟩
    subst e5
    obtain ⟨l5, r5⟩ := bools_open f5
    obtain ⟨g1, g2⟩ := byte_of_wf w3
    obtain ⟨y, rfl⟩ := Int.eq_ofNat_of_zero_le g1
    simp at hk0 hk1 hk2 hk3 hk4
    subst hk0 hk1 hk2 hk3 hk4
    exact ⟨⟨k0, k1, k2, y, k4, p5, n5, q5, l5⟩, rfl, int_of_wf w1, int_of_wf w2, by show y < 256; omega, r5⟩
set_option maxRecDepth 100000 in
theorem kjobs_open {fuel : Nat} {ao : Option Addr} {len cap : Nat} {x : DataW H × List MemPlace} (h : DataW.trod enc Try.prog w base (fun _ => true) true fuel 22 [.slice ao len cap] = some x) : RowK w ao len := by
  rcases Go.Deep.open_slice Try.underlying22 h with ⟨hcs, _⟩ | ⟨a, len2, cap2, m, n, D, Pq, hcs, hb, hl, hm, hmm, hx, hi⟩
  · simp at hcs
    obtain ⟨rfl, rfl, rfl⟩ := hcs
    exact ⟨by omega, .inl rfl⟩
  · simp at hcs
    obtain ⟨rfl, rfl, rfl⟩ := hcs
    simp at hmm
    unfold maxLen at hm
    have hC : Try.prog.cellsOf 33 = 6 := by kernel_rfl
    rw [hC] at hi
    have key : ∀ i, i < len → ∃ d : KbD, (∀ c, c < 6 → w.cell? ((a.add (i * 6)).add c) = d.v.cells.toList[c]?) ∧ KbIn w d := by
      intro i hil
      obtain ⟨cs', hc, ht'⟩ := hi i (by omega)
      obtain ⟨_, hcl, hat⟩ := World.cells?_some hc
      obtain ⟨d, e, hd⟩ := kjob_open (cs := cs'.toArray) (by simpa using hcl) (by simpa [Value.cells] using ht')
      refine ⟨d, fun c hc' => ?_, hd⟩
      rw [hat c (by omega), ← e]
      simp [Value.cells]
    by_cases h0 : len = 0
    · subst h0
      exact ⟨by omega, .inl rfl⟩
    · obtain ⟨b, off, spot⟩ := a
      obtain ⟨d0, k0, _⟩ := key 0 (by omega)
      have hs0 := k0 0 (by omega)
      have hspot : spot = none := by
        have h9 : w.cell? (((⟨b, off, spot⟩ : Addr).add (0 * 6)).add 0) = some (.int .i64 d0.what) := hs0
        simpa [Addr.add] using World.cell?_spot h9
      subst hspot
      refine ⟨by omega, .inr ⟨b, off, rfl, fun i hil => ?_⟩⟩
      obtain ⟨d, hc, hd⟩ := key i hil
      have g : ∀ c, c < 6 → w.cell? ⟨b, off + i * 6 + c, none⟩ = d.v.cells.toList[c]? := fun c hc' => by
        have := hc c hc'
        rwa [mem.add_none, mem.add_none] at this
      exact ⟨d, ⟨g 0 (by omega), g 1 (by omega), g 2 (by omega), g 3 (by omega), g 4 (by omega), g 5 (by omega)⟩, hd⟩
end
theorem boxed (W : World) (cs : Array Value) (t : TypeId) (g i : Nat) (v : Value) (hg : g = W.heap.size) (h : cs[i]? = some v) : (W.alloc (.cells cs t)).cell? ⟨g, i, none⟩ = some v := by
  subst hg
  rw [Go.Joins.cell_of_block (cs := cs) (t := t) (fr := (0, 0)) (by rw [heap_alloc, if_pos rfl])]
  exact h
theorem byte_add (y j : Nat) : ∃ z : Nat, z < 256 ∧ ((y : Int) + (j : Int)) % 256 = (z : Int) := ⟨(y + j) % 256, by omega, by omega⟩
theorem Lkd.new (n : Nat) : Lkd n (fun _ => zeros) (fun _ => none) 0 false (fun _ => zeros) (fun _ => zeros) (fun _ => false) 0 false := ⟨fun _ _ => rfl, fun _ _ => rfl, fun _ _ => rfl, rfl, rfl⟩
end Go.Proofs.Ytodmfljhojdbkaa.dskw
