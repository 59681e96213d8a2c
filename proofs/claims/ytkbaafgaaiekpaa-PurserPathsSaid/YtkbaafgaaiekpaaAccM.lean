/- A map of ints by accounts. -/
import Derived.Test.YtkbaafgaaiekpaaMem
import Derived.Maps.OwnSet
import Derived.Maps.Views
import Derived.Maps.OwnOps
import Derived.WideKeyEntry
import Derived.DeepKeys4
import Derived.ChangeAlike
import Derived.Outline
namespace Go.Proofs.Ytkbaafgaaiekpaa.accm
open Go.RowKit mem Go.WideShapes Go.ChangeMaps Go.WideMaps
set_option linter.unusedVariables false
set_option maxRecDepth 100000

theorem ok_inj {α : Type} {a b : α} {u v : World} (h : (Result.ok a u : Result α) = .ok b v) : u = v := by cases h; rfl
theorem lit_inj {a b : Int} (h : (DataW.lit (.int .i64 a) : DataW Unit) = .lit (.int .i64 b)) : a = b := by cases h; rfl
theorem laid : laidOutB Try.prog = true := by kernel_rfl
theorem rowAcc : 55 < Try.prog.types.size := of_decide_eq_true (by kernel_rfl)
theorem wideAcc : (match Try.prog.underlying 55 with | some (.array _ _) | some (.struct _) => true | _ => false) = true := by kernel_rfl
theorem law : KeyLaw Try.prog 55 := deep_law_laid laid (m := 2) (by omega) rowAcc (by kernel_rfl) wideAcc
theorem keyed : Maps.Keyed Try.prog 55 := Maps.Keyed.of_law law
theorem zeroI (w : World) : (zeroValue 3).run Try.prog w = .ok (.int .i64 0) w := by kernel_rfl
theorem cellsAcc : Try.prog.cellsOf 55 = 3 := by kernel_rfl
theorem cellsInt : Try.prog.cellsOf 3 = 1 := by kernel_rfl

def I64 (n : Int) : Prop := -9223372036854775808 ≤ n ∧ n ≤ 9223372036854775807
theorem wf_int {n : Int} (h : I64 n) : (Lit.int .i64 n).wf = true := by
  unfold I64 at h
  simp [Lit.wf, IntKind.min, IntKind.max, IntKind.signed, IntKind.bits]; omega
theorem lits_int (d : Nat) {n : Int} (h : I64 n) : Try.prog.keyLits (d + 1) 3 [.int .i64 n] = some [.int .i64 n] := by
  unfold Program.keyLits
  simp [Try.underlying3, wf_int h]

def accV (k n g : Int) : Value := .agg #[.int .i64 k, .int .i64 n, .int .i64 g]
theorem key_acc {k n g : Int} (hk : I64 k) (hn : I64 n) (hg : I64 g) : ∃ kl, keyOf Try.prog 55 (accV k n g) = some kl := by
  have e1 : Try.prog.keyType 55 = true := by kernel_rfl
  have e2 : (accV k n g).formed Try.prog 55 = true := by simp [accV, Value.formed, Try.underlying55, cellsAcc]
  obtain ⟨s, hs⟩ : ∃ s, Try.prog.types.size = s + 1 := ⟨Try.prog.types.size - 1, by have := rowAcc; omega⟩
  have e3 : ∃ ls, Try.prog.keyLits (Try.prog.types.size + 1) 55 (accV k n g).cells.toList = some ls := by
    rw [hs]
    unfold Program.keyLits
    simp [accV, Value.cells, Try.underlying55, cellsAcc, cellsInt, lits_int s hk, lits_int s hn, lits_int s hg]
  obtain ⟨ls, e3⟩ := e3
  refine ⟨.string (keyBytes ls), ?_⟩
  unfold keyOf
  simp only [Try.underlying55, e1, e2, e3]
  rfl
theorem accV_inj {k n g k' n' g' : Int} (h : accV k n g = accV k' n' g') : k = k' ∧ n = n' ∧ g = g' := by
  unfold accV at h
  simp at h
  exact h

/-- block b is a map of at most n entries; what stands at each account -/
def MapI (w : World) (b n : Nat) (M : Int → Int → Int → Int) : Prop :=
  ∃ D : DataW Unit, w.ownsMap Try.prog 55 (plainElem Try.prog 3) b n D ∧
    ∀ k m g, ∀ kl, keyOf Try.prog 55 (accV k m g) = some kl → D.atKey kl (.lit (.int .i64 0)) = .lit (.int .i64 (M k m g))

theorem MapI.lt {w : World} {b n : Nat} {M : Int → Int → Int → Int} (h : MapI w b n M) : b < w.heap.size := by obtain ⟨D, h, _⟩ := h; exact h.lt
theorem own_same {w w' : World} {b n : Nat} {D : DataW Unit} (h : w.ownsMap Try.prog 55 (plainElem Try.prog 3) b n D) (e : w'.heap[b]? = w.heap[b]?) : w'.ownsMap Try.prog 55 (plainElem Try.prog 3) b n D := by
  obtain ⟨es, clock, hb, r⟩ := h
  exact ⟨es, clock, e.trans hb, r⟩
theorem MapI.same {w w' : World} {b n : Nat} {M : Int → Int → Int → Int} (h : MapI w b n M) (e : w'.heap[b]? = w.heap[b]?) : MapI w' b n M := by
  obtain ⟨D, h1, h2⟩ := h
  exact ⟨D, own_same h1 e, h2⟩
theorem MapI.only {S : Nat → Prop} {w w' : World} {b n : Nat} {M : Int → Int → Int → Int} (h : MapI w b n M) (ho : Only S w w') (hs : ¬ S b) : MapI w' b n M := h.same (ho.block b h.lt hs)
theorem MapI.mono {w : World} {b n n' : Nat} {M : Int → Int → Int → Int} (h : MapI w b n M) (hn : n ≤ n') : MapI w b n' M := by
  obtain ⟨D, h1, h2⟩ := h
  exact ⟨D, h1.mono hn, h2⟩
theorem MapI.made (w : World) : MapI (w.alloc (.map #[] 0)) w.heap.size 0 (fun _ _ _ => 0) :=
  ⟨.map [], World.ownsMap_made w _ _ _, fun k m g kl _ => by simp [DataW.atKey]⟩

/-- one account's anew -/
def updI (M : Int → Int → Int → Int) (k m g x : Int) : Int → Int → Int → Int := fun k' m' g' => if k' = k ∧ m' = m ∧ g' = g then x else M k' m' g'

end Go.Proofs.Ytkbaafgaaiekpaa.accm
