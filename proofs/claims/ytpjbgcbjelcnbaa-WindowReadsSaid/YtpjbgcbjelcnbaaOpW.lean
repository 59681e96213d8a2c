/- A row of acts on windows that comes in, opened. -/
import Derived.Test.YtpjbgcbjelcnbaaWnR
import Derived.Deep.Slices
import Derived.OpenShut
import Derived.ChangeOld
namespace Go.Proofs.Ytpjbgcbjelcnbaa.wnd
open Go.RowKit mem
open Go.ChangeShapes Go.WideShapes Go.ChangeAt
set_option linter.unusedVariables false
/-- an act as it stands in memory -/
structure AcD where
  keep : Bool
  by_ : Int
  raw : Bool
  qa : Option Addr
  qn : Nat
  qc : Nat
  ql : List Nat
  aa : Option Addr
  an : Nat
  ac : Nat
  al : List Nat
def AcD.v (d : AcD) : Value := .agg #[.bool d.keep, .int .i64 d.by_, .bool d.raw, .slice d.qa d.qn d.qc, .slice d.aa d.an d.ac]
def AcIn (w : World) (d : AcD) : Prop := Bytes w d.qa d.qn d.qc d.ql ∧ Bytes w d.aa d.an d.ac d.al
def AcAtW (w : World) (b o : Nat) (d : AcD) : Prop :=
  w.cell? ⟨b, o, none⟩ = some (.bool d.keep) ∧ w.cell? ⟨b, o + 1, none⟩ = some (.int .i64 d.by_) ∧ w.cell? ⟨b, o + 2, none⟩ = some (.bool d.raw) ∧ w.cell? ⟨b, o + 3, none⟩ = some (.slice d.qa d.qn d.qc) ∧ w.cell? ⟨b, o + 4, none⟩ = some (.slice d.aa d.an d.ac)
def RowW (w : World) (a : Option Addr) (len : Nat) : Prop := len ≤ maxLen ∧ (len = 0 ∨ ∃ b off, a = some ⟨b, off, none⟩ ∧ ∀ i, i < len → ∃ d, AcAtW w b (off + i * 5) d ∧ AcIn w d)
theorem Bytes.keep {b : Nat} {w w' : World} {a : Option Addr} {n c : Nat} {l : List Nat} (h : Bytes w a n c l) (hb : w.heap.size ≤ b) (ho : Only (fun q => b ≤ q) w w') : Bytes w' a n c l := by
  by_cases h0 : n = 0
  · exact ⟨⟨h.1.1, h.1.2.1, h.1.2.2.1, .inl h0⟩, h.2⟩
  · exact h.only ho (fun y hy hs => by subst hy; have := h.1.lt (by omega); omega)
theorem AcIn.keep {b : Nat} {w w' : World} {d : AcD} (h : AcIn w d) (hb : w.heap.size ≤ b) (ho : Only (fun q => b ≤ q) w w') : AcIn w' d := ⟨Bytes.keep h.1 hb ho, Bytes.keep h.2 hb ho⟩
theorem AcAtW.keep {b : Nat} {w w' : World} {p o : Nat} {d : AcD} (h : AcAtW w p o d) (hb : w.heap.size ≤ b) (ho : Only (fun q => b ≤ q) w w') : AcAtW w' p o d := by
  have hp : ¬ b ≤ p := by have := World.block_lt_of_cell? w _ h.1; simp only at this; omega
  obtain ⟨h0, h1, h2, h3, h4⟩ := h
  exact ⟨ho.cell' h0 hp, ho.cell' h1 hp, ho.cell' h2 hp, ho.cell' h3 hp, ho.cell' h4 hp⟩
theorem RowW.keep {b : Nat} {w w' : World} {a : Option Addr} {len : Nat} (h : RowW w a len) (hb : w.heap.size ≤ b) (ho : Only (fun q => b ≤ q) w w') : RowW w' a len := by
  refine ⟨h.1, h.2.imp (fun x => x) fun ⟨g, off, e, hc⟩ => ⟨g, off, e, fun i hi => ?_⟩⟩
  obtain ⟨d, h1, h2⟩ := hc i hi
  exact ⟨d, h1.keep hb ho, h2.keep hb ho⟩
section
variable {H : Type} {enc : TypeId × Value → H} {w : World} {base : Nat}
set_option maxRecDepth 100000 in
theorem wact_open {fuel : Nat} {cs : Array Value} (hsz : cs.size = 5) {x : DataW H × List MemPlace} (h : DataW.trod enc Try.prog w base (fun _ => true) true fuel 74 (Value.agg cs).cells.toList = some x) : ∃ d : AcD, Value.agg cs = d.v ∧ AcIn w d := by
  obtain ⟨ys, n', _, _, hlen, hyl, hf⟩ := DataW.trod_struct Try.underlying74 h
  obtain ⟨l⟩ := cs
  match l, ys, hsz, hyl, hf with
  | [c0, c1, c2, c3, c4], [y0, y1, y2, y3, y4], _, _, hf =>
    have f0 := hf 0 _ rfl
    have f1 := hf 1 _ rfl
    have f2 := hf 2 _ rfl
    have f3 := hf 3 _ rfl
    have f4 := hf 4 _ rfl
    have o1 : Try.prog.cellsOf 3 = 1 := by kernel_rfl
    have o2 : Try.prog.cellsOf 31 = 1 := by kernel_rfl
    have o3 : Try.prog.cellsOf 4 = 1 := by kernel_rfl
    simp [o1, o2, o3, Value.cells] at f0 f1 f2 f3 f4
    obtain ⟨k0, hk0, _⟩ := DataW.trod_bool Try.underlying4 f0
    obtain ⟨k1, hk1, _, _⟩ := DataW.trod_int Try.underlying3 f1
    obtain ⟨k2, hk2, _⟩ := DataW.trod_bool Try.underlying4 f2
    obtain ⟨p3, n3, q3, e3⟩ : ∃ a n c, c3 = .slice a n c := by
      rcases Go.Deep.open_slice Try.underlying31 f3 with ⟨hcs, _⟩ | ⟨a, len2, cap2, m, n, D, Pq, hcs, _⟩
      · exact ⟨_, _, _, by simpa using hcs⟩
      · exact ⟨_, _, _, by simpa using hcs⟩
    obtain ⟨p4, n4, q4, e4⟩ : ∃ a n c, c4 = .slice a n c := by
      rcases Go.Deep.open_slice Try.underlying31 f4 with ⟨hcs, _⟩ | ⟨a, len2, cap2, m, n, D, Pq, hcs, _⟩
      · exact ⟨_, _, _, by simpa using hcs⟩
      · exact ⟨_, _, _, by simpa using hcs⟩
    subst e3 e4
    obtain ⟨l3, r3⟩ := bytes_open f3
    obtain ⟨l4, r4⟩ := bytes_open f4
    simp at hk0 hk1 hk2
    subst hk0 hk1 hk2
    exact ⟨⟨k0, k1, k2, p3, n3, q3, l3, p4, n4, q4, l4⟩, rfl, r3, r4⟩
set_option maxRecDepth 100000 in
theorem wacts_open {fuel : Nat} {ao : Option Addr} {len cap : Nat} {x : DataW H × List MemPlace} (h : DataW.trod enc Try.prog w base (fun _ => true) true fuel 62 [.slice ao len cap] = some x) : RowW w ao len := by
  rcases Go.Deep.open_slice Try.underlying62 h with ⟨hcs, _⟩ | ⟨a, len2, cap2, m, n, D, Pq, hcs, hb, hl, hm, hmm, hx, hi⟩
  · simp at hcs
    obtain ⟨rfl, rfl, rfl⟩ := hcs
    exact ⟨by unfold maxLen; omega, .inl rfl⟩
  · simp at hcs
    obtain ⟨rfl, rfl, rfl⟩ := hcs
    simp at hmm
    have hC : Try.prog.cellsOf 74 = 5 := by kernel_rfl
    rw [hC] at hi
    have key : ∀ i, i < len → ∃ d : AcD, (∀ c, c < 5 → w.cell? ((a.add (i * 5)).add c) = d.v.cells.toList[c]?) ∧ AcIn w d := by
      intro i hil
      obtain ⟨cs', hc, ht'⟩ := hi i (by omega)
      obtain ⟨_, hcl, hat⟩ := World.cells?_some hc
      obtain ⟨d, e, hd⟩ := wact_open (cs := cs'.toArray) (by simpa using hcl) (by simpa [Value.cells] using ht')
      refine ⟨d, fun c hc' => ?_, hd⟩
      rw [hat c (by omega), ← e]
      simp [Value.cells]
    by_cases h0 : len = 0
    · subst h0
      exact ⟨by unfold maxLen; omega, .inl rfl⟩
    · obtain ⟨b, off, spot⟩ := a
      obtain ⟨d0, k0, _⟩ := key 0 (by omega)
      have hs0 := k0 0 (by omega)
      have hspot : spot = none := by
        have h9 : w.cell? (((⟨b, off, spot⟩ : Addr).add (0 * 5)).add 0) = some (.bool d0.keep) := hs0
        simpa [Addr.add] using World.cell?_spot h9
      subst hspot
      refine ⟨by omega, .inr ⟨b, off, rfl, fun i hil => ?_⟩⟩
      obtain ⟨d, hc, hd⟩ := key i hil
      have g : ∀ c, c < 5 → w.cell? ⟨b, off + i * 5 + c, none⟩ = d.v.cells.toList[c]? := fun c hc' => by
        have := hc c hc'
        rwa [add_none, add_none] at this
      exact ⟨d, ⟨g 0 (by omega), g 1 (by omega), g 2 (by omega), g 3 (by omega), g 4 (by omega)⟩, hd⟩
end
end Go.Proofs.Ytpjbgcbjelcnbaa.wnd
