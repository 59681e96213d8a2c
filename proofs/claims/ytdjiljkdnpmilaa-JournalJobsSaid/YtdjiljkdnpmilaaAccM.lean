/- A map of ints by accounts. -/
import Derived.Test.YtdjiljkdnpmilaaMem
import Derived.Maps.OwnSet
import Derived.Maps.Views
import Derived.Maps.OwnOps
import Derived.WideKeyEntry
import Derived.DeepKeys4
import Derived.ChangeAlike
import Derived.Outline
namespace Go.Proofs.Ytdjiljkdnpmilaa.accm
open Go.RowKit mem Go.WideShapes Go.ChangeMaps Go.WideMaps
set_option linter.unusedVariables false
set_option maxRecDepth 100000

theorem ok_inj {α : Type} {a b : α} {u v : World} (h : (Result.ok a u : Result α) = .ok b v) : u = v := by cases h; rfl
theorem lit_inj {a b : Int} (h : (DataW.lit (.int .i64 a) : DataW Unit) = .lit (.int .i64 b)) : a = b := by cases h; rfl
theorem laid : laidOutB Try.prog = true := by kernel_rfl
theorem rowAcc : 38 < Try.prog.types.size := of_decide_eq_true (by kernel_rfl)
theorem wideAcc : (match Try.prog.underlying 38 with | some (.array _ _) | some (.struct _) => true | _ => false) = true := by kernel_rfl
theorem law : KeyLaw Try.prog 38 := deep_law_laid laid (m := 2) (by omega) rowAcc (by kernel_rfl) wideAcc
theorem keyed : Maps.Keyed Try.prog 38 := Maps.Keyed.of_law law
theorem zeroI (w : World) : (zeroValue 3).run Try.prog w = .ok (.int .i64 0) w := by kernel_rfl
theorem cellsAcc : Try.prog.cellsOf 38 = 3 := by kernel_rfl
theorem cellsInt : Try.prog.cellsOf 3 = 1 := by kernel_rfl

def I64 (n : Int) : Prop := -9223372036854775808 ≤ n ∧ n ≤ 9223372036854775807
theorem wf_int {n : Int} (h : I64 n) : (Lit.int .i64 n).wf = true := by
  unfold I64 at h
  simp [Lit.wf, IntKind.min, IntKind.max, IntKind.signed, IntKind.bits]; omega
theorem lits_int (d : Nat) {n : Int} (h : I64 n) : Try.prog.keyLits (d + 1) 3 [.int .i64 n] = some [.int .i64 n] := by
  unfold Program.keyLits
  simp [Try.underlying3, wf_int h]

def accV (k n g : Int) : Value := .agg #[.int .i64 k, .int .i64 n, .int .i64 g]
theorem key_acc {k n g : Int} (hk : I64 k) (hn : I64 n) (hg : I64 g) : ∃ kl, keyOf Try.prog 38 (accV k n g) = some kl := by
  have e1 : Try.prog.keyType 38 = true := by kernel_rfl
  have e2 : (accV k n g).formed Try.prog 38 = true := by simp [accV, Value.formed, Try.underlying38, cellsAcc]
  obtain ⟨s, hs⟩ : ∃ s, Try.prog.types.size = s + 1 := ⟨Try.prog.types.size - 1, by have := rowAcc; omega⟩
  have e3 : ∃ ls, Try.prog.keyLits (Try.prog.types.size + 1) 38 (accV k n g).cells.toList = some ls := by
    rw [hs]
    unfold Program.keyLits
    simp [accV, Value.cells, Try.underlying38, cellsAcc, cellsInt, lits_int s hk, lits_int s hn, lits_int s hg]
  obtain ⟨ls, e3⟩ := e3
  refine ⟨.string (keyBytes ls), ?_⟩
  unfold keyOf
  simp only [Try.underlying38, e1, e2, e3]
  rfl
theorem accV_inj {k n g k' n' g' : Int} (h : accV k n g = accV k' n' g') : k = k' ∧ n = n' ∧ g = g' := by
  unfold accV at h
  simp at h
  exact h

/-- block b is a map of at most n entries; what stands at each account -/
def MapI (w : World) (b n : Nat) (M : Int → Int → Int → Int) : Prop :=
  ∃ D : DataW Unit, w.ownsMap Try.prog 38 (plainElem Try.prog 3) b n D ∧
    ∀ k m g, ∀ kl, keyOf Try.prog 38 (accV k m g) = some kl → D.atKey kl (.lit (.int .i64 0)) = .lit (.int .i64 (M k m g))

theorem MapI.lt {w : World} {b n : Nat} {M : Int → Int → Int → Int} (h : MapI w b n M) : b < w.heap.size := by obtain ⟨D, h, _⟩ := h; exact h.lt
theorem own_same {w w' : World} {b n : Nat} {D : DataW Unit} (h : w.ownsMap Try.prog 38 (plainElem Try.prog 3) b n D) (e : w'.heap[b]? = w.heap[b]?) : w'.ownsMap Try.prog 38 (plainElem Try.prog 3) b n D := by
  obtain ⟨es, clock, hb, r⟩ := h
  exact ⟨es, clock, e.trans hb, r⟩
theorem MapI.same {w w' : World} {b n : Nat} {M : Int → Int → Int → Int} (h : MapI w b n M) (e : w'.heap[b]? = w.heap[b]?) : MapI w' b n M := by
  obtain ⟨D, h1, h2⟩ := h
  exact ⟨D, own_same h1 e, h2⟩
theorem MapI.only {S : Nat → Prop} {w w' : World} {b n : Nat} {M : Int → Int → Int → Int} (h : MapI w b n M) (ho : Only S w w') (hs : ¬ S b) : MapI w' b n M := h.same (ho.block b h.lt hs)
theorem MapI.mono {w : World} {b n n' : Nat} {M : Int → Int → Int → Int} (h : MapI w b n M) (hn : n ≤ n') : MapI w b n' M := by
  obtain ⟨D, h1, h2⟩ := h
  exact ⟨D, h1.mono hn, h2⟩
theorem MapI.made (w : World) : MapI (w.alloc (.map #[] 0)) w.heap.size 0 (fun _ _ _ => 0) :=
  ⟨.map [], World.ownsMap_made w _ _ _, fun k m g kl _ => by simp [DataW.atKey]⟩

theorem MapI.look {w : World} {b n : Nat} {M : Int → Int → Int → Int} (h : MapI w b n M) {k m g : Int} (hk : I64 k) (hm : I64 m) (hg : I64 g) :
    (Instr.lookup 36 (.map (some b)) (accV k m g) false).run Try.prog w = .ok (.int .i64 (M k m g)) w := by
  obtain ⟨D, h1, h2⟩ := h
  obtain ⟨kl, hkl⟩ := key_acc hk hm hg
  obtain ⟨c, hrun, hat, _⟩ := h1.lookup_int keyed Try.underlying36 Try.underlying3 (zeroI w) hkl
  rw [hrun]
  have := h2 k m g kl hkl
  rw [hat] at this
  rw [lit_inj this]

/-- one account's anew -/
def updI (M : Int → Int → Int → Int) (k m g x : Int) : Int → Int → Int → Int := fun k' m' g' => if k' = k ∧ m' = m ∧ g' = g then x else M k' m' g'

set_option maxHeartbeats 1000000 in
theorem MapI.entry {w : World} {b n : Nat} {M : Int → Int → Int → Int} (h : MapI w b n M) {k m g : Int} (hk : I64 k) (hm : I64 m) (hg : I64 g) (hn : n < 1000000) :
    ∃ (v0 : Value) (st : Nat) (w1 : World), (Instr.mapEntry 36 (.map (some b)) (accV k m g)).run Try.prog w = .ok (.tuple #[v0, .int .i64 st]) w1 ∧ Only (fun q => q = b) w w1 ∧ w1.heap.size = w.heap.size ∧
      (Instr.lookup 36 (.map (some b)) (accV k m g) false).run Try.prog w1 = .ok (.int .i64 (M k m g)) w1 ∧
      ∀ (w2 : World) (x : Int), I64 x → w2.heap[b]? = w1.heap[b]? → ∃ w3, (Instr.entryStore 36 (.map (some b)) (.int .i64 st) (.int .i64 x)).run Try.prog w2 = .ok () w3 ∧ Only (fun q => q = b) w2 w3 ∧ MapI w3 b (n + 1) (updI M k m g x) := by
  obtain ⟨kl, hkl⟩ := key_acc hk hm hg
  have hM := h
  obtain ⟨D, h1, h2⟩ := h
  have hown := h1
  obtain ⟨es, clock, hb, F, hs, he⟩ := h1
  have hz : ∀ u : World, (zeroValue 3).run Try.prog u = .ok (.int .i64 0) u := zeroI
  obtain ⟨v0, st, es1, clock1, hrun, hv, hst⟩ := WideElems.entry_then_store law Try.underlying36 hz hb F hkl
  have hblt : b < w.heap.size := hM.lt
  have only_set : ∀ (u : World) (o : Obj), Only (fun q => q = b) u (setBlock u b o) := by
    intro u o
    refine ⟨rfl, rfl, rfl, by simp [setBlock], fun q hq hne => ?_⟩
    show (u.heap.setIfInBounds b _)[q]? = _
    rw [Array.getElem?_setIfInBounds_ne (fun e => hne e.symm)]
  have set_at : ∀ (u : World) (o : Obj), b < u.heap.size → (setBlock u b o).heap[b]? = some o := by
    intro u o hu
    show (u.heap.setIfInBounds b o)[b]? = some o
    simp [hu]
  refine ⟨v0, st, _, hrun, only_set _ _, by simp [setBlock], ?_, ?_⟩
  · have hfind := law.find w hkl es.toList F.keys
    rcases hfind with ⟨f1, f2⟩ | ⟨j, e0, f1, f2, f3⟩
    · have hz0 : v0 = .int .i64 0 := by
        rcases hv with ⟨e0, he0, hk0, _⟩ | ⟨_, hv⟩
        · exact absurd hk0 (f2 e0 he0)
        · exact hv
      have hr2 : (Instr.mapEntry 36 (.map (some b)) (accV k m g)).run Try.prog w = .ok (.tuple #[.int .i64 0, goInt clock]) (setBlock w b (.map (es.push ⟨accV k m g, .int .i64 0, clock⟩) (clock + 1))) := by
        simp [Instr.mapEntry, run_underlying Try.underlying36, MapKept.run_getObj_map hb, law.check w false hkl, f1, hz, MapKept.run_setObj_map _ hb, Result.andThen, setBlock]
      have hu2 : (Instr.mapUpdate 36 (.map (some b)) (accV k m g) (.int .i64 0)).run Try.prog w = .ok () (setBlock w b (.map (es.push ⟨accV k m g, .int .i64 0, clock⟩) (clock + 1))) := by
        simp [Instr.mapUpdate, run_underlying Try.underlying36, MapKept.run_getObj_map hb, law.check w false hkl, f1, MapKept.run_setObj_map _ hb, Result.andThen, setBlock]
      have hw := hrun.symm.trans hr2
      replace hw := ok_inj hw
      rw [hw]
      have h00 : plainElem (H := Unit) Try.prog 3 (.int .i64 0) = some (.lit (.int .i64 0), []) := plainElem_int Try.underlying3 (by decide)
      obtain ⟨w', s1, s2, _⟩ := hown.store keyed Try.underlying36 (by unfold maxLen; omega) hkl h00
      rw [hu2] at s1
      replace s1 := ok_inj s1
      rw [s1]
      obtain ⟨c, r1, r2, _⟩ := s2.lookup_int keyed Try.underlying36 Try.underlying3 (zeroI w') hkl
      rw [r1]
      rw [Maps.atKey_put_same hown.isMap (keyed.key hkl)] at r2
      have hM0 : M k m g = 0 := by
        have hl := hM.look hk hm hg
        have a1 := h2 k m g kl hkl
        have a2 := WideElems.atKey_none law F hkl f2 (.lit (.int .i64 0))
        rw [he, a2] at a1
        exact (lit_inj a1).symm
      rw [hM0, lit_inj r2]
    · have hj : es[j]? = some e0 := by simpa using f2
      have hsame : es.modify j (fun e => { e with key := accV k m g }) = es := by
        apply Array.ext'
        rw [Array.toList_modify, modify_eq_set _ _ _ _ f2]
        have : ({ e0 with key := accV k m g } : MapEntry) = e0 := by rw [← f3]
        rw [this]
        exact WideElems.set_self _ _ _ f2
      have hr2 : (Instr.mapEntry 36 (.map (some b)) (accV k m g)).run Try.prog w = .ok (.tuple #[e0.val, goInt e0.born]) (setBlock w b (.map es clock)) := by
        simp [Instr.mapEntry, run_underlying Try.underlying36, MapKept.run_getObj_map hb, law.check w false hkl, f1, hj, f3, law.stays w hkl, hsame, MapKept.run_setObj_map _ hb, Result.andThen, setBlock]
      have hw := hrun.symm.trans hr2
      replace hw := ok_inj hw
      rw [hw]
      exact (hM.same (by rw [set_at _ _ hblt, hb])).look hk hm hg
  · intro w2 x hx hw2
    rw [set_at _ _ hblt] at hw2
    obtain ⟨es', clock', e1, e2⟩ := hst w2 (.int .i64 x) hw2
    refine ⟨_, e1, only_set _ _, ?_⟩
    have hxx : plainElem (H := Unit) Try.prog 3 (.int .i64 x) = some (.lit (.int .i64 x), []) := plainElem_int Try.underlying3 (wf_int hx)
    obtain ⟨w', s1, s2, _⟩ := hown.store keyed Try.underlying36 (by unfold maxLen; omega) hkl hxx
    rw [e2] at s1
    replace s1 := ok_inj s1
    have hw2lt : b < w2.heap.size := (Array.getElem?_eq_some_iff.1 hw2).1
    refine ⟨_, own_same s2 ?_, ?_⟩
    · rw [set_at _ _ hw2lt, ← s1, set_at _ _ hblt]
    · intro k' m' g' kl' hkl'
      by_cases e : k' = k ∧ m' = m ∧ g' = g
      · obtain ⟨rfl, rfl, rfl⟩ := e
        obtain rfl := Option.some.inj (hkl.symm.trans hkl')
        rw [Maps.atKey_put_same hown.isMap (keyed.key hkl)]
        unfold updI
        rw [if_pos ⟨rfl, rfl, rfl⟩]
      · have hne : kl' ≠ kl := by
          intro f
          subst f
          exact e (accV_inj (law.inj hkl' hkl))
        rw [Maps.atKey_put_other hne]
        unfold updI
        rw [if_neg e]
        exact h2 k' m' g' kl' hkl'
end Go.Proofs.Ytdjiljkdnpmilaa.accm
