/- Several texts together: Mem, AccM, MemI, AccN, StepApp, AcI, AcJ, TrA, TrB, OpU. -/
import Derived.Test.YtkbaafgaaiekpaaGreatRows
import Derived.WalkKit
import Derived.WalkSpells
import Derived.Below
import Derived.Lib.Hide
import Derived.ProofKit
import Derived.OwnWalk
import Derived.ArgAppend
import Derived.Laws.AppendOwnNone
import Derived.Laws.OwnMore
import Derived.Lib.SmallJoins
import Derived.Maps.OwnSet
import Derived.Maps.Views
import Derived.Maps.OwnOps
import Derived.WideKeyEntry
import Derived.DeepKeys4
import Derived.ChangeAlike
import Derived.Outline
import Derived.Deep.RegionLaw
import Derived.Deep.RegionLawGrows
import Derived.Maps.RangeWalk
import Derived.RangeFuncBound
import Derived.Sort.MapsRangeIn
import Derived.Sort.KeysCollected
import Derived.OwnWalkIn
import Derived.TacticsInMore
import Derived.RegionIn
import Derived.LoopNIn
import Derived.LoopIn
import Derived.Maps.AppendAt
import Derived.Shelf.Abstract
import Derived.Deep.MidRow
import Derived.OpenShut
import Derived.ChangeOld
namespace Go.Proofs.YtkbaafgaaiekpaaGreat.mem
open Go.RowKit
set_option linter.unusedVariables false
structure Only (S : Nat → Prop) (w w' : World) : Prop where
  os : w'.os = w.os
  tape : w'.tape = w.tape
  output : w'.output = w.output
  size : w.heap.size ≤ w'.heap.size
  block : ∀ k, k < w.heap.size → ¬ S k → w'.heap[k]? = w.heap[k]?
theorem size_alloc (x : World) (o : Obj) : (x.alloc o).heap.size = x.heap.size + 1 := by show (x.heap.push o).size = _; simp
theorem size_setCell (x : World) (a : Addr) (u : Value) : (x.setCell a u).heap.size = x.heap.size := by simp [World.setCell]
theorem heap_alloc (w : World) (o : Obj) (n : Nat) : (w.alloc o).heap[n]? = if n = w.heap.size then some o else w.heap[n]? := by
  show (w.heap.push o)[n]? = _; rw [Array.getElem?_push]
theorem Only.refl (S : Nat → Prop) (w : World) : Only S w w := ⟨rfl, rfl, rfl, Nat.le_refl _, fun _ _ _ => rfl⟩
theorem Only.trans {S : Nat → Prop} {a b c : World} (h : Only S a b) (k : Only S b c) : Only S a c :=
  ⟨k.os.trans h.os, k.tape.trans h.tape, k.output.trans h.output, Nat.le_trans h.size k.size, fun i hi hs => (k.block i (Nat.lt_of_lt_of_le hi h.size) hs).trans (h.block i hi hs)⟩
theorem Only.mono {S T : Nat → Prop} {a b : World} (h : Only S a b) (hT : ∀ k, k < a.heap.size → S k → T k) : Only T a b :=
  ⟨h.os, h.tape, h.output, h.size, fun i hi hs => h.block i hi (fun s => hs (hT i hi s))⟩
theorem Only.then {S T : Nat → Prop} {a b c : World} (h : Only S a b) (k : Only T b c) (hT : ∀ i, i < a.heap.size → T i → S i) : Only S a c :=
  ⟨k.os.trans h.os, k.tape.trans h.tape, k.output.trans h.output, Nat.le_trans h.size k.size,
   fun i hi hs => (k.block i (Nat.lt_of_lt_of_le hi h.size) (fun t => hs (hT i hi t))).trans (h.block i hi hs)⟩
theorem Only.drew {S : Nat → Prop} {a w : World} (h : Only S a w) : Only S a w.drew := ⟨h.os, h.tape, h.output, h.size, h.block⟩
theorem Only.alloc {S : Nat → Prop} {a w : World} (h : Only S a w) (o : Obj) : Only S a (w.alloc o) :=
  h.trans ⟨rfl, rfl, rfl, by rw [size_alloc]; omega, fun k hk _ => Below.heap_alloc _ _ _ hk⟩
theorem Only.setCell {S : Nat → Prop} {a w : World} (h : Only S a w) {p : Addr} (hp : S p.block ∨ a.heap.size ≤ p.block) (u : Value) : Only S a (w.setCell p u) :=
  ⟨h.os, h.tape, h.output, by rw [size_setCell]; exact h.size, fun k hk hs => (Below.heap_setCell w p u k (fun e => hp.elim (fun s => hs (e ▸ s)) (fun h2 => by omega))).trans (h.block k hk hs)⟩
theorem Only.of_grown {w w' : World} {row : Option Nat} (hg : w.grownBy w' row) : Only (fun k => row = some k) w w' :=
  ⟨hg.os, hg.tape, hg.output, hg.size, fun k hk hs => hg.block k hk (fun e => hs e.symm)⟩
theorem Only.of_below {w w' : World} (h : Below w.heap.size w w') : Only (fun _ => False) w w' := ⟨h.os, h.tape, h.output, h.size, fun k hk _ => h.block k hk⟩
theorem Only.below {S : Nat → Prop} {w w' : World} (h : Only S w w') {B : Nat} (hB : B ≤ w.heap.size) (hS : ∀ k, S k → B ≤ k) : Below B w w' :=
  ⟨h.os, h.tape, h.output, h.size, fun k hk => h.block k (by omega) (fun s => by have := hS k s; omega)⟩
theorem Only.none {w w' : World} (h : Only (fun _ => False) w w') : Below w.heap.size w w' := h.below (Nat.le_refl _) (fun _ f => f.elim)
theorem Only.cell {S : Nat → Prop} {w w' : World} (h : Only S w w') {p : Addr} (hp : p.block < w.heap.size) (hs : ¬ S p.block) : w'.cell? p = w.cell? p :=
  World.cell?_of_block (w := w) (h.block p.block hp hs)
theorem Only.cell' {S : Nat → Prop} {w w' : World} (h : Only S w w') {p : Addr} {v : Value} (hc : w.cell? p = some v) (hs : ¬ S p.block) : w'.cell? p = some v :=
  (h.cell (World.block_lt_of_cell? w p hc) hs).trans hc
theorem Only.frozen {S : Nat → Prop} {w w' : World} (h : Only S w w') {p : Addr} (hp : p.block < w.heap.size) (hs : ¬ S p.block) : w'.frozen? p = w.frozen? p :=
  World.frozen?_of_block (w := w) (h.block p.block hp hs)
theorem cell_same {w : World} {p : Addr} {u v : Value} (h : w.cell? p = some u) : (w.setCell p v).cell? p = some v := World.cell?_setCell_same _ _ _ h
theorem cell_other {w : World} {p q : Addr} {v : Value} (h : p ≠ q) : (w.setCell p v).cell? q = w.cell? q := World.cell?_setCell_other _ _ _ _ h
theorem frozen_set {w : World} {p q : Addr} {v : Value} : (w.setCell p v).frozen? q = w.frozen? q := World.frozen?_setCell ..
theorem Only.set (S : Nat → Prop) (w : World) (b o : Nat) (v : Value) (h : S b) : Only S w (w.setCell ⟨b, o, Option.none⟩ v) := (Only.refl S w).setCell (p := ⟨b, o, Option.none⟩) (.inl h) v
theorem heap_lt {w : World} {g : Nat} {o : Obj} (h : w.heap[g]? = some o) : g < w.heap.size := by
  rcases Nat.lt_or_ge g w.heap.size with h' | h'
  · exact h'
  · rw [Array.getElem?_eq_none h'] at h; cases h
theorem owns_only {S : Nat → Prop} {w w' : World} (h : Only S w w') {base n size : Nat} {e : TypeId} {v : Value} {xs : List Value} (ho : w.ownsRow base e size v n xs) (hs : ∀ k, v.ownBlock = some k → ¬ S k) : w'.ownsRow base e size v n xs := by
  obtain ⟨h1, h2⟩ := ho; refine ⟨h1, ?_⟩; rcases h2 with h2 | ⟨g, cap, cur, hv, hg, hh, r⟩
  · exact Or.inl h2
  · exact Or.inr ⟨g, cap, cur, hv, hg, by rw [h.block g (heap_lt hh) (hs g (by rw [hv]; rfl))]; exact hh, r⟩
theorem owns_le {w : World} {base base' size n : Nat} {e : TypeId} {v : Value} {xs : List Value} (h : w.ownsRow base e size v n xs) (hb : base' ≤ base) : w.ownsRow base' e size v n xs :=
  ⟨h.1, h.2.elim Or.inl (fun ⟨g, cap, cur, hv, hg, r⟩ => Or.inr ⟨g, cap, cur, hv, Nat.le_trans hb hg, r⟩)⟩
theorem owns_form {w : World} {base n size : Nat} {e : TypeId} {v : Value} {xs : List Value} (h : w.ownsRow base e size v n xs) (hne : 0 < n) : ∃ g cap, v = .slice (some ⟨g, 0, none⟩) n cap ∧ base ≤ g ∧ g < w.heap.size ∧ n ≤ cap ∧ cap ≤ maxLen := by
  rcases h.2 with ⟨_, h0⟩ | ⟨g, cap, cur, hv, hg, hh, hc, hm, _⟩
  · omega
  · exact ⟨g, cap, hv, hg, heap_lt hh, hc, hm⟩
theorem append_mine2 {P : Program} {w : World} {ops : Array Oper} {rest : List Oper} {o : Oper} {a : Act} {Q : Exit → Act → World → Prop} (hgd : o.guard = none) (s x : Operand) (t : TypeId)
    (ho : o.op = .call { callee := .builtin .append, args := #[s, x], argTypes := #[t, t] })
    (e : TypeId) (i : TypeInfo) (z : Value) (size bytes : Nat) (ht : P.underlying t = some (.slice e)) (hi : P.info? e = some i) (hz : i.zero = some z)
    (hsize : i.size = size) (hby : i.bytes = bytes) (hzs : z.cells.size = size) (hsz : 0 < size)
    (v : Value) (n : Nat) (xs : List Value) (hs : a.eval s = v) (hown : w.ownsRow 0 e size v n xs)
    (ad : Addr) (m c : Nat) (news : List Value) (hx : a.eval x = .slice (some ad) m c) (hl : news.length = m * size) (hnews : ∀ j u, news[j]? = some u → w.cell? (ad.add j) = some u) (h1 : ∀ u ∈ news, u.oneCell' = true)
    (h63 : n + m ≤ maxLen) (hbytes : (n + m) * bytes ≤ 140737488355328)
    (h : ∀ v' w', w'.ownsRow 0 e size v' (n + m) (xs ++ news) → w.grownBy w' v.ownBlock → (∀ k, v'.ownBlock = some k → v.ownBlock = some k ∨ w.heap.size ≤ k) → (v' = .slice Option.none 0 0 → v = .slice Option.none 0 0) → wpList P ops Q rest (a.put o.dst v') w') : wpList P ops Q (o :: rest) a w := by
  rcases hown.2 with ⟨hv, hn⟩ | ⟨g, cap, cur, hv, hg, hh, hc, hm, hcs, htk⟩
  · subst hv; subst hn; have hx0 : xs = [] := List.eq_nil_of_length_eq_zero (by have := hown.1; omega); subst hx0; refine wpList_append_own w hgd s x t ho w.heap.size e i z size bytes ht hi hz hsize hby hzs hsz _ 0 [] hs (World.ownsRow_nil _ _ _ _) ad m c news hx hl hnews h1 h63 hbytes (Nat.le_refl _) ?_; intro v' w' hown' hgrow _; exact h v' w' (owns_le hown' (Nat.zero_le _)) hgrow (fun k hk => .inr (World.ownsRow.lt hown' k hk).1) (fun _ => rfl)
  · subst hv
    by_cases hfit : n + m ≤ cap
    · refine wpList_append_fits w hgd s x t ho 0 e i size ht hi hsize g n cap xs hs hown ad m c news hx hl hnews h1 hfit ?_; intro w' hown' hgrow; exact h _ w' hown' hgrow (fun k hk => .inl hk) (fun f => by cases f)
    · refine wpList_append_grows w hgd s x t ho e i z size bytes ht hi hz hsize hby hzs hsz (some ⟨g, 0, none⟩) n cap xs hs (fun f => by cases f) hown.1 ?_ ad m c news hx hl hnews h1 (by omega) h63 hbytes ?_
      · intro b hb j u hu; obtain rfl : (⟨g, 0, none⟩ : Addr) = b := (by simpa using hb); exact World.ownsRow.cells hown (g := g) rfl j u hu
      · intro v' w' hown' hgrow; refine h v' w' (owns_le hown' (Nat.zero_le _)) ?_ (fun k hk => .inr (World.ownsRow.lt hown' k hk).1) (fun f => ?_)
        rotate_left
        · obtain ⟨g', c', hv', _⟩ := owns_form hown' (by omega); rw [hv'] at f; cases f
        exact ⟨hgrow.os, hgrow.tape, hgrow.output, hgrow.size, fun k hk _ => hgrow.block k hk (by simp)⟩
theorem append_mine {P : Program} {w : World} {ops : Array Oper} {rest : List Oper} {o : Oper} {a : Act} {Q : Exit → Act → World → Prop} (hgd : o.guard = none) (s x : Operand) (t : TypeId)
    (ho : o.op = .call { callee := .builtin .append, args := #[s, x], argTypes := #[t, t] })
    (e : TypeId) (i : TypeInfo) (z : Value) (size bytes : Nat) (ht : P.underlying t = some (.slice e)) (hi : P.info? e = some i) (hz : i.zero = some z)
    (hsize : i.size = size) (hby : i.bytes = bytes) (hzs : z.cells.size = size) (hsz : 0 < size)
    (v : Value) (n : Nat) (xs : List Value) (hs : a.eval s = v) (hown : w.ownsRow 0 e size v n xs)
    (ad : Addr) (m c : Nat) (news : List Value) (hx : a.eval x = .slice (some ad) m c) (hl : news.length = m * size) (hnews : ∀ j u, news[j]? = some u → w.cell? (ad.add j) = some u) (h1 : ∀ u ∈ news, u.oneCell' = true)
    (h63 : n + m ≤ maxLen) (hbytes : (n + m) * bytes ≤ 140737488355328)
    (h : ∀ v' w', w'.ownsRow 0 e size v' (n + m) (xs ++ news) → w.grownBy w' v.ownBlock → (∀ k, v'.ownBlock = some k → v.ownBlock = some k ∨ w.heap.size ≤ k) → wpList P ops Q rest (a.put o.dst v') w') : wpList P ops Q (o :: rest) a w :=
  append_mine2 hgd s x t ho e i z size bytes ht hi hz hsize hby hzs hsz v n xs hs hown ad m c news hx hl hnews h1 h63 hbytes (fun v' w' a b c _ => h v' w' a b c)
/-! bytes -/
theorem add_none (b off i : Nat) : (Addr.mk b off none).add i = ⟨b, off + i, none⟩ := by
  unfold Addr.add
  by_cases h : i = 0
  · subst h; simp
  · simp [h]
def Reads (w : World) (a : Option Addr) (len : Nat) (l : List Nat) : Prop :=
  l.length = len ∧ len ≤ maxLen ∧ (∀ c ∈ l, c < 256) ∧
  (len = 0 ∨ ∃ b off, a = some ⟨b, off, none⟩ ∧ ∀ i, i < len → w.cell? ⟨b, off + i, none⟩ = some (.int .u8 ((l.getD i 0 : Nat) : Int)))
theorem Reads.take {w : World} {a : Option Addr} {len : Nat} {l : List Nat} (h : Reads w a len l) (n : Nat) (hn : n ≤ len) : Reads w a n (l.take n) := by
  obtain ⟨hl, hm, hb, hc⟩ := h; refine ⟨by simp; omega, by omega, fun c hc' => hb c (List.mem_of_mem_take hc'), ?_⟩; rcases hc with h0 | ⟨b, off, ha, hcell⟩
  · exact .inl (by omega)
  · refine .inr ⟨b, off, ha, fun i hi => ?_⟩; have : (l.take n).getD i 0 = l.getD i 0 := (by simp [List.getD, hi]); rw [this]; exact hcell i (by omega)
theorem Reads.only {S : Nat → Prop} {w w' : World} {a : Option Addr} {len : Nat} {l : List Nat} (h : Reads w a len l) (ho : Only S w w') (hs : ∀ x, a = some x → ¬ S x.block) : Reads w' a len l := by
  obtain ⟨hl, hm, hb', hc⟩ := h; refine ⟨hl, hm, hb', ?_⟩; rcases hc with h0 | ⟨b, off, ha, hcell⟩
  · exact .inl h0
  · exact .inr ⟨b, off, ha, fun i hi => ho.cell' (hcell i hi) (show ¬ S b from hs _ ha)⟩
theorem Reads.lt {w : World} {x : Addr} {len : Nat} {l : List Nat} (h : Reads w (some x) len l) (hl : 0 < len) : x.block < w.heap.size := by
  obtain ⟨_, _, _, hc⟩ := h; rcases hc with h0 | ⟨b, off, ha, hcell⟩
  · omega
  · obtain rfl : x = ⟨b, off, Option.none⟩ := (by simpa using ha); have h1 := hcell 0 hl; exact World.block_lt_of_cell? w _ h1
def Bytes (w : World) (a : Option Addr) (len cap : Nat) (l : List Nat) : Prop :=
  Reads w a len l ∧ len ≤ cap ∧ cap ≤ maxLen ∧ (a = Option.none → cap = 0)
theorem Bytes.only {S : Nat → Prop} {w w' : World} {a : Option Addr} {len cap : Nat} {l : List Nat} (h : Bytes w a len cap l) (ho : Only S w w') (hs : ∀ x, a = some x → ¬ S x.block) : Bytes w' a len cap l :=
  ⟨h.1.only ho hs, h.2⟩
theorem Bytes.drew {w : World} {a : Option Addr} {len cap : Nat} {l : List Nat} (h : Bytes w a len cap l) : Bytes w.drew a len cap l := h.only (S := fun _ => False) ((Only.refl _ w).drew) (fun _ _ f => f)
theorem int_of_wf {n : Int} (h : (Lit.int .i64 n).wf = true) : -9223372036854775808 ≤ n ∧ n ≤ 9223372036854775807 := by
  simpa [Lit.wf, IntKind.min, IntKind.max, IntKind.signed, IntKind.bits] using h
def bv (l : List Nat) : List Value := l.map fun c => Value.int .u8 ((c : Nat) : Int)
theorem bv_get (l : List Nat) (i : Nat) (h : i < l.length) : (bv l)[i]? = some (.int .u8 ((l.getD i 0 : Nat) : Int)) := by
  simp [bv, List.getD, h]
def OwnB (w : World) (v : Value) (l : List Nat) : Prop := w.ownsRow 0 5 1 v l.length (bv l) ∧ (∀ c ∈ l, c < 256) ∧ l.length ≤ maxLen
theorem OwnB.nil (w : World) : OwnB w (.slice Option.none 0 0) [] := ⟨World.ownsRow_nil _ _ _ _, by simp, by unfold maxLen; simp⟩
theorem OwnB.only {S : Nat → Prop} {w w' : World} {v : Value} {l : List Nat} (h : OwnB w v l) (ho : Only S w w') (hs : ∀ k, v.ownBlock = some k → ¬ S k) : OwnB w' v l :=
  ⟨owns_only ho h.1 hs, h.2⟩
theorem OwnB.reads {w : World} {g n cap : Nat} {l : List Nat} (h : OwnB w (.slice (some ⟨g, 0, Option.none⟩) n cap) l) (hn : n = l.length) : Reads w (some ⟨g, 0, Option.none⟩) n l := by
  subst hn; refine ⟨rfl, h.2.2, h.2.1, .inr ⟨g, 0, rfl, fun i hi => ?_⟩⟩; rw [Nat.zero_add, h.1.cellAt i (by omega), bv_get l i hi]
theorem OwnB.form {w : World} {v : Value} {l : List Nat} (h : OwnB w v l) (hne : l ≠ []) : ∃ g cap, v = .slice (some ⟨g, 0, Option.none⟩) l.length cap ∧ g < w.heap.size ∧ l.length ≤ cap ∧ cap ≤ maxLen := by
  have hp : 0 < l.length := List.length_pos_iff.2 hne; obtain ⟨g, cap, hv, _, hg, hc, hm⟩ := owns_form h.1 hp; exact ⟨g, cap, hv, hg, hc, hm⟩
end Go.Proofs.YtkbaafgaaiekpaaGreat.mem
namespace Go.Proofs.YtkbaafgaaiekpaaGreat.accm
open Go.RowKit mem Go.WideShapes Go.ChangeMaps Go.WideMaps
set_option linter.unusedVariables false
set_option maxRecDepth 100000
theorem laid : laidOutB Tryz.prog = true := by kernel_rfl
theorem rowAcc : 56 < Tryz.prog.types.size := of_decide_eq_true (by kernel_rfl)
theorem wideAcc : (match Tryz.prog.underlying 56 with | some (.array _ _) | some (.struct _) => true | _ => false) = true := by kernel_rfl
theorem law : KeyLaw Tryz.prog 56 := deep_law_laid laid (m := 2) (by omega) rowAcc (by kernel_rfl) wideAcc
theorem keyed : Maps.Keyed Tryz.prog 56 := Maps.Keyed.of_law law
theorem cellsAcc : Tryz.prog.cellsOf 56 = 3 := by kernel_rfl
theorem cellsInt : Tryz.prog.cellsOf 3 = 1 := by kernel_rfl
def I64 (n : Int) : Prop := -9223372036854775808 ≤ n ∧ n ≤ 9223372036854775807
theorem wf_int {n : Int} (h : I64 n) : (Lit.int .i64 n).wf = true := by
  unfold I64 at h; simp [Lit.wf, IntKind.min, IntKind.max, IntKind.signed, IntKind.bits]; omega
theorem lits_int (d : Nat) {n : Int} (h : I64 n) : Tryz.prog.keyLits (d + 1) 3 [.int .i64 n] = some [.int .i64 n] := by
  unfold Program.keyLits; simp [Tryz.underlying3, wf_int h]
def accV (k n g : Int) : Value := .agg #[.int .i64 k, .int .i64 n, .int .i64 g]
theorem key_acc {k n g : Int} (hk : I64 k) (hn : I64 n) (hg : I64 g) : ∃ kl, keyOf Tryz.prog 56 (accV k n g) = some kl := by
  have e1 : Tryz.prog.keyType 56 = true := (by kernel_rfl); have e2 : (accV k n g).formed Tryz.prog 56 = true := (by simp [accV, Value.formed, Tryz.underlying56, cellsAcc]); obtain ⟨s, hs⟩ : ∃ s, Tryz.prog.types.size = s + 1 := ⟨Tryz.prog.types.size - 1, by have := rowAcc; omega⟩; have e3 : ∃ ls, Tryz.prog.keyLits (Tryz.prog.types.size + 1) 56 (accV k n g).cells.toList = some ls := by
    rw [hs]; unfold Program.keyLits; simp [accV, Value.cells, Tryz.underlying56, cellsAcc, cellsInt, lits_int s hk, lits_int s hn, lits_int s hg]
  obtain ⟨ls, e3⟩ := e3; refine ⟨.string (keyBytes ls), ?_⟩; unfold keyOf; simp only [Tryz.underlying56, e1, e2, e3]
  rfl
theorem accV_inj {k n g k' n' g' : Int} (h : accV k n g = accV k' n' g') : k = k' ∧ n = n' ∧ g = g' := by
  unfold accV at h; simp at h; exact h
def MapI (w : World) (b n : Nat) (M : Int → Int → Int → Int) : Prop :=
  ∃ D : DataW Unit, w.ownsMap Tryz.prog 56 (plainElem Tryz.prog 3) b n D ∧
    ∀ k m g, ∀ kl, keyOf Tryz.prog 56 (accV k m g) = some kl → D.atKey kl (.lit (.int .i64 0)) = .lit (.int .i64 (M k m g))
theorem MapI.lt {w : World} {b n : Nat} {M : Int → Int → Int → Int} (h : MapI w b n M) : b < w.heap.size := by obtain ⟨D, h, _⟩ := h; exact h.lt
theorem own_same {w w' : World} {b n : Nat} {D : DataW Unit} (h : w.ownsMap Tryz.prog 56 (plainElem Tryz.prog 3) b n D) (e : w'.heap[b]? = w.heap[b]?) : w'.ownsMap Tryz.prog 56 (plainElem Tryz.prog 3) b n D := by
  obtain ⟨es, clock, hb, r⟩ := h; exact ⟨es, clock, e.trans hb, r⟩
theorem MapI.same {w w' : World} {b n : Nat} {M : Int → Int → Int → Int} (h : MapI w b n M) (e : w'.heap[b]? = w.heap[b]?) : MapI w' b n M := by
  obtain ⟨D, h1, h2⟩ := h; exact ⟨D, own_same h1 e, h2⟩
theorem MapI.only {S : Nat → Prop} {w w' : World} {b n : Nat} {M : Int → Int → Int → Int} (h : MapI w b n M) (ho : Only S w w') (hs : ¬ S b) : MapI w' b n M := h.same (ho.block b h.lt hs)
theorem MapI.mono {w : World} {b n n' : Nat} {M : Int → Int → Int → Int} (h : MapI w b n M) (hn : n ≤ n') : MapI w b n' M := by
  obtain ⟨D, h1, h2⟩ := h; exact ⟨D, h1.mono hn, h2⟩
theorem MapI.made (w : World) : MapI (w.alloc (.map #[] 0)) w.heap.size 0 (fun _ _ _ => 0) :=
  ⟨.map [], World.ownsMap_made w _ _ _, fun k m g kl _ => by simp [DataW.atKey]⟩
end Go.Proofs.YtkbaafgaaiekpaaGreat.accm
namespace Go.Proofs.YtkbaafgaaiekpaaGreat.mem
open Go.RowKit
set_option linter.unusedVariables false
def ReadsI (w : World) (a : Option Addr) (len : Nat) (l : List Int) : Prop :=
  l.length = len ∧ len ≤ maxLen ∧ (∀ c ∈ l, -9223372036854775808 ≤ c ∧ c ≤ 9223372036854775807) ∧
  (len = 0 ∨ ∃ b off, a = some ⟨b, off, Option.none⟩ ∧ ∀ i, i < len → w.cell? ⟨b, off + i, Option.none⟩ = some (.int .i64 (l.getD i 0)))
theorem ReadsI.take {w : World} {a : Option Addr} {len : Nat} {l : List Int} (h : ReadsI w a len l) (n : Nat) (hn : n ≤ len) : ReadsI w a n (l.take n) := by
  obtain ⟨hl, hm, hb, hc⟩ := h; refine ⟨by simp; omega, by omega, fun c hc' => hb c (List.mem_of_mem_take hc'), ?_⟩; rcases hc with h0 | ⟨b, off, ha, hcell⟩
  · exact .inl (by omega)
  · refine .inr ⟨b, off, ha, fun i hi => ?_⟩; have : (l.take n).getD i 0 = l.getD i 0 := (by simp [List.getD, hi]); rw [this]; exact hcell i (by omega)
theorem ReadsI.only {S : Nat → Prop} {w w' : World} {a : Option Addr} {len : Nat} {l : List Int} (h : ReadsI w a len l) (ho : Only S w w') (hs : ∀ x, a = some x → ¬ S x.block) : ReadsI w' a len l := by
  obtain ⟨hl, hm, hb', hc⟩ := h; refine ⟨hl, hm, hb', ?_⟩; rcases hc with h0 | ⟨b, off, ha, hcell⟩
  · exact .inl h0
  · exact .inr ⟨b, off, ha, fun i hi => ho.cell' (hcell i hi) (show ¬ S b from hs _ ha)⟩
def IntsR (w : World) (a : Option Addr) (len cap : Nat) (l : List Int) : Prop :=
  ReadsI w a len l ∧ len ≤ cap ∧ cap ≤ maxLen ∧ (a = Option.none → cap = 0)
theorem info_i64 : (Tryz.prog.info? 3).map (fun i => (i.zero, i.size, i.bytes)) = some (some (.int .i64 0), 1, 8) := by kernel_rfl
def iv (l : List Int) : List Value := l.map fun c => Value.int .i64 c
theorem iv_length (l : List Int) : (iv l).length = l.length := by simp [iv]
theorem iv_get (l : List Int) (i : Nat) (h : i < l.length) : (iv l)[i]? = some (.int .i64 (l.getD i 0)) := by
  simp [iv, List.getD, h]
theorem iv_one (l : List Int) : ∀ u ∈ iv l, u.oneCell' = true := by
  intro u hu; simp only [iv, List.mem_map] at hu; obtain ⟨c, _, rfl⟩ := hu; rfl
theorem ReadsI.of_owns {w : World} {base n cap g : Nat} {l : List Int} (h : w.ownsRow base 3 1 (.slice (some ⟨g, 0, none⟩) n cap) n (iv l)) (hm : n ≤ maxLen) (hb : ∀ c ∈ l, -9223372036854775808 ≤ c ∧ c ≤ 9223372036854775807) : ReadsI w (some ⟨g, 0, none⟩) n l := by
  have hl : l.length = n := (by have := h.1; rw [iv_length] at this; omega); refine ⟨hl, hm, hb, .inr ⟨g, 0, rfl, fun i hi => ?_⟩⟩; rw [Nat.zero_add, h.cellAt i (by omega), iv_get l i (by omega)]
theorem newsI {w : World} {x : Addr} {n : Nat} {l : List Int} (h : ReadsI w (some x) n l) : ∀ j u, (iv l)[j]? = some u → w.cell? (x.add j) = some u := by
  intro j u hu; obtain ⟨hl, _, _, hc⟩ := h; have hj : j < l.length := by
    rcases Nat.lt_or_ge j l.length with h' | h'
    · exact h'
    · rw [List.getElem?_eq_none (by rw [iv_length]; exact h')] at hu; cases hu
  rcases hc with h0 | ⟨b, off, hx, hcell⟩
  · omega
  · obtain rfl : x = ⟨b, off, Option.none⟩ := (by simpa using hx); rw [add_none, hcell j (by omega), ← iv_get l j hj, hu]
end Go.Proofs.YtkbaafgaaiekpaaGreat.mem
namespace Go.Proofs.YtkbaafgaaiekpaaGreat.accn
open Go.RowKit mem Go.WideShapes Go.ChangeMaps Go.WideMaps accm
set_option linter.unusedVariables false
set_option maxRecDepth 100000
structure Ac where
  k : Int
  n : Int
  g : Int
  deriving DecidableEq
def InA (a : Ac) : Prop := I64 a.k ∧ I64 a.n ∧ I64 a.g
def acc (a : Ac) : Value := accm.accV a.k a.n a.g
theorem acc_key {a : Ac} (h : InA a) : ∃ kl, keyOf Tryz.prog 56 (acc a) = some kl := key_acc h.1 h.2.1 h.2.2
theorem acc_inj {a b : Ac} (h : acc a = acc b) : a = b := by
  obtain ⟨h1, h2, h3⟩ := accV_inj h
  cases a; cases b; simp_all
def Row (l : List Int) : Prop := l.length = 32 ∧ ∀ c ∈ l, I64 c
def noughts : List Int := List.replicate 32 0
theorem row_noughts : Row noughts := ⟨by simp [noughts], by intro c hc; simp [noughts] at hc; rw [hc]; unfold I64; omega⟩
def toD : Value → DataW Unit
  | .int k n => .lit (.int k n)
  | _ => .nil
def okC : Value → Bool
  | .int .i64 n => decide (-9223372036854775808 ≤ n) && decide (n ≤ 9223372036854775807)
  | _ => false
def Rs : Value → Option (DataW Unit × List MemPlace)
  | .agg cs => if cs.size = 32 ∧ cs.toList.all okC = true then some (.agg (cs.toList.map toD), []) else none
  | _ => none
def sec (l : List Int) : Value := .agg (iv l).toArray
def dat (l : List Int) : DataW Unit := .agg ((iv l).map toD)
theorem Rs_mk {l : List Int} (h : Row l) : Rs (sec l) = some (dat l, []) := by
  have h1 : (iv l).all okC = true := by
    rw [List.all_eq_true]; intro v hv; simp only [iv, List.mem_map] at hv; obtain ⟨c, hc, rfl⟩ := hv; have := h.2 c hc; unfold I64 at this; simp [okC]; omega
  have h2 : (iv l).toArray.size = 32 := (by simp [iv, h.1]); unfold Rs sec; simp only; rw [if_pos ⟨h2, by simpa using h1⟩]
  rfl
theorem okC_inv {v : Value} (h : okC v = true) : ∃ c : Int, I64 c ∧ v = .int .i64 c := by
  unfold okC at h; split at h
  · rename_i n
    simp at h; exact ⟨n, h, rfl⟩
  · cases h
theorem list_okC : ∀ (vs : List Value), vs.all okC = true → ∃ l : List Int, (∀ c ∈ l, I64 c) ∧ vs = iv l := by
  intro vs
  induction vs with
  | nil => intro _; exact ⟨[], by simp, rfl⟩
  | cons v vs ih =>
    intro h; rw [List.all_cons, Bool.and_eq_true] at h; obtain ⟨c, hc, rfl⟩ := okC_inv h.1; obtain ⟨l, hl, rfl⟩ := ih h.2; exact ⟨c :: l, by intro d hd; rcases List.mem_cons.1 hd with rfl | h2; exact hc; exact hl d h2, rfl⟩
theorem Rs_inv {v : Value} {z : DataW Unit × List MemPlace} (h : Rs v = some z) : ∃ l, Row l ∧ v = sec l ∧ z.1 = dat l := by
  unfold Rs at h; split at h
  · rename_i cs
    split at h
    · rename_i hc
      obtain ⟨l, hl, he⟩ := list_okC cs.toList hc.2; have hlen : l.length = 32 := by
        have := congrArg List.length he; have h64 := hc.1; simp [iv] at this; omega
      have hcs : cs = (iv l).toArray := (by rw [← he]); refine ⟨l, ⟨hlen, hl⟩, by unfold sec; rw [← hcs], ?_⟩; have := (Option.some.inj h).symm; rw [this]; unfold dat; rw [← he]
    · cases h
  · cases h
theorem dat_inj {l r : List Int} (h : dat l = dat r) : l = r := by
  unfold dat at h; injection h with h; have : ∀ x y : Int, toD (Value.int .i64 x) = toD (Value.int .i64 y) → x = y := by
    intro x y hxy; simp [toD] at hxy; exact hxy
  unfold iv at h; rw [List.map_map, List.map_map] at h; exact (List.map_inj_right (fun a b hab => this a b hab)).1 h
theorem zero_row (w : World) : (zeroValue 101).run Tryz.prog w = .ok (sec noughts) w := by kernel_rfl
structure Like (D : DataW Unit) (C : Ac → Option (List Int)) : Prop where
  inn : ∀ kl, Maps.has D kl = true → ∃ a, InA a ∧ keyOf Tryz.prog 56 (acc a) = some kl ∧ (C a).isSome = true
  out : ∀ a kl, keyOf Tryz.prog 56 (acc a) = some kl → C a = none → Maps.has D kl = false
  val : ∀ a kl l, keyOf Tryz.prog 56 (acc a) = some kl → C a = some l → Row l ∧ Maps.has D kl = true ∧ ∀ zd, D.atKey kl zd = dat l
def MapA (w : World) (b n : Nat) (C : Ac → Option (List Int)) : Prop := ∃ D : DataW Unit, w.ownsMap Tryz.prog 56 Rs b n D ∧ Like D C ∧ ∀ a l, C a = some l → Row l ∧ InA a
theorem MapA.lt {w : World} {b n : Nat} {C : Ac → Option (List Int)} (h : MapA w b n C) : b < w.heap.size := by obtain ⟨D, h, _⟩ := h; exact h.lt
theorem MapA.same {w w' : World} {b n : Nat} {C : Ac → Option (List Int)} (h : MapA w b n C) (e : w'.heap[b]? = w.heap[b]?) : MapA w' b n C := by
  obtain ⟨D, ⟨es, clock, hb, r⟩, h2⟩ := h; exact ⟨D, ⟨es, clock, e.trans hb, r⟩, h2⟩
theorem MapA.only {S : Nat → Prop} {w w' : World} {b n : Nat} {C : Ac → Option (List Int)} (h : MapA w b n C) (ho : Only S w w') (hs : ¬ S b) : MapA w' b n C := h.same (ho.block b h.lt hs)
theorem MapA.mono {w : World} {b n n' : Nat} {C : Ac → Option (List Int)} (h : MapA w b n C) (hn : n ≤ n') : MapA w b n' C := by
  obtain ⟨D, h1, h2⟩ := h; exact ⟨D, h1.mono hn, h2⟩
theorem MapA.made (w : World) : MapA (w.alloc (.map #[] 0)) w.heap.size 0 (fun _ => none) :=
  ⟨.map [], World.ownsMap_made w _ _ _, ⟨fun kl h => by simp [Maps.has] at h, fun a kl _ _ => by simp [Maps.has], fun a kl l _ h => by cases h⟩, fun a l h => by cases h⟩
theorem MapA.row {w : World} {b n : Nat} {C : Ac → Option (List Int)} (h : MapA w b n C) (a : Ac) : Row ((C a).getD noughts) := by
  obtain ⟨D, _, _, h3⟩ := h
  cases hc : C a with
  | none => exact row_noughts
  | some l => exact (h3 a l hc).1
theorem MapA.look {w : World} {b n : Nat} {C : Ac → Option (List Int)} (h : MapA w b n C) {a : Ac} (ha : InA a) :
    (Instr.lookup 98 (.map (some b)) (acc a) false).run Tryz.prog w = .ok (sec ((C a).getD noughts)) w := by
  obtain ⟨D, h1, h2, h3⟩ := h; obtain ⟨kl, hkl⟩ := acc_key ha; obtain ⟨v, ps, hrun, hR⟩ := h1.lookup keyed Tryz.underlying98 (zero_row w) (Rs_mk row_noughts) hkl; rw [hrun]; obtain ⟨l, hl, rfl, hz⟩ := Rs_inv hR
  cases hc : C a with
  | none =>
    have := h2.out a kl hkl hc; have e := Maps.atKey_of_not_has this (dat noughts); simp only [e] at hz; rw [dat_inj hz]; rfl
  | some l' =>
    obtain ⟨_, g2, g3⟩ := h2.val a kl l' hkl hc; simp only [g3] at hz; rw [dat_inj hz]; rfl
theorem look_none (w : World) {a : Ac} (ha : InA a) : (Instr.lookup 98 (.map none) (acc a) false).run Tryz.prog w = .ok (sec noughts) w := by
  obtain ⟨kl, hkl⟩ := acc_key ha; have hf : (Instr.findKey 56 (acc a) []).run Tryz.prog w = .ok none w := by
    rcases law.find w hkl [] (by simp) with ⟨h, _⟩ | ⟨j, e, _, h, _⟩
    · exact h
    · simp at h
  simp [Instr.lookup, run_underlying Tryz.underlying98, law.check w true hkl, hf, Result.andThen]
  rfl
def updA (C : Ac → Option (List Int)) (a : Ac) (l : List Int) : Ac → Option (List Int) := fun x => if x = a then some l else C x
set_option maxHeartbeats 8000000 in
theorem MapA.store {w : World} {b n : Nat} {C : Ac → Option (List Int)} (h : MapA w b n C) {a : Ac} (ha : InA a) (hn : n ≤ 140737488355327) {l : List Int} (hl : Row l) :
    ∃ w', (Instr.mapUpdate 98 (.map (some b)) (acc a) (sec l)).run Tryz.prog w = .ok () w' ∧ MapA w' b (n + 1) (updA C a l) ∧ Only (fun k => k = b) w w' := by
  obtain ⟨D, h1, h2, h3⟩ := h; obtain ⟨kl, hkl⟩ := acc_key ha; obtain ⟨w', hrun, hown, hturn⟩ := h1.store keyed Tryz.underlying98 (by unfold maxLen; omega) hkl (Rs_mk hl); have hM : Maps.IsMap D := h1.isMap; have hik : WideAt.IsKeyLit kl := keyed.key hkl; have hsame : ∀ {x : Ac} {kx : Lit}, keyOf Tryz.prog 56 (acc x) = some kx → kx = kl → x = a := by
    intro x kx h e; subst e; exact acc_inj (law.inj h hkl)
  refine ⟨w', hrun, ⟨_, hown, ⟨?_, ?_, ?_⟩, ?_⟩, (Only.of_grown hturn.grown).mono (fun k _ e => (Option.some.inj e).symm)⟩
  · intro kx hkx
    by_cases e : kx = kl
    · exact ⟨a, ha, by rw [e]; exact hkl, by unfold updA; rw [if_pos rfl]; rfl⟩
    · rw [Maps.has_put_other e] at hkx; obtain ⟨x, hx, hxk, hxs⟩ := h2.inn kx hkx; refine ⟨x, hx, hxk, ?_⟩; unfold updA; split
      · rfl
      · exact hxs
  · intro x kx hx hc; unfold updA at hc
    by_cases e : x = a
    · rw [if_pos e] at hc; cases hc
    · rw [if_neg e] at hc; rw [Maps.has_put_other (fun q => e (hsame hx q))]; exact h2.out x kx hx hc
  · intro x kx l' hx hc; unfold updA at hc
    by_cases e : x = a
    · rw [if_pos e] at hc; obtain rfl := Option.some.inj hc; subst e; obtain rfl := Option.some.inj (hkl.symm.trans hx); exact ⟨hl, Maps.has_put_same hM hik _, fun zd => Maps.atKey_put_same hM hik _ _⟩
    · rw [if_neg e] at hc; obtain ⟨g1, g2, g3⟩ := h2.val x kx l' hx hc; have hne : kx ≠ kl := fun q => e (hsame hx q); exact ⟨g1, by rw [Maps.has_put_other hne]; exact g2, fun zd => by rw [Maps.atKey_put_other hne]; exact g3 zd⟩
  · intro x l' hc; unfold updA at hc
    by_cases e : x = a
    · rw [if_pos e] at hc; obtain rfl := Option.some.inj hc; exact ⟨hl, e ▸ ha⟩
    · rw [if_neg e] at hc; exact h3 x l' hc
end Go.Proofs.YtkbaafgaaiekpaaGreat.accn
namespace Go.Proofs.YtkbaafgaaiekpaaGreat.mem
open Go.RowKit
set_option linter.unusedVariables false
theorem step_own {P : Program} {ops : Array Oper} {o : Oper} {a : Act} {w : World} {K : Act → World → Prop} {Q : Exit → Act → World → Prop} {E : Prop}
    (hg : o.guard = none) (s x : Operand) (t : TypeId) (ho : o.op = Op.call { callee := Callee.builtin Builtin.append, args := #[s, x], argTypes := #[t, t] })
    (base : Nat) (e : TypeId) (i : TypeInfo) (z : Value) (size bytes : Nat) (ht : P.underlying t = some (.slice e)) (hi : P.info? e = some i) (hz : i.zero = some z)
    (hsize : i.size = size) (hby : i.bytes = bytes) (hzs : z.cells.size = size) (hsz : 0 < size)
    (v : Value) (n : Nat) (xs : List Value) (hs : a.eval s = v) (hown : w.ownsRow base e size v n xs)
    (ad : Addr) (m c : Nat) (news : List Value) (hx : a.eval x = .slice (some ad) m c) (hl : news.length = m * size) (hnews : ∀ j u, news[j]? = some u → w.cell? (ad.add j) = some u) (h1 : ∀ u ∈ news, u.oneCell' = true)
    (h63 : n + m ≤ maxLen) (hbytes : (n + m) * bytes ≤ 140737488355328) (hbase : base ≤ w.heap.size)
    (hK : ∀ v' w', w'.ownsRow base e size v' (n + m) (xs ++ news) → w.grownBy w' v.ownBlock → (v' = .slice none 0 0 ↔ v = .slice none 0 0 ∧ m = 0) → K (a.put o.dst v') w') :
    if Region.wanted o (yielded ops a.tmps) = true then Oper.wp P o a w K Q else E := by
  have hw : Region.wanted o (yielded ops a.tmps) = true := (by simp [Region.wanted, hg]); rw [if_pos hw]; exact wp_append_own w s x t ho base e i z size bytes ht hi hz hsize hby hzs hsz v n xs hs hown ad m c news hx hl hnews h1 h63 hbytes hbase fun v' w' h2 h3 h4 => hK v' w' h2 h3 h4
theorem step_mine {P : Program} {ops : Array Oper} {o : Oper} {a : Act} {w : World} {K : Act → World → Prop} {Q : Exit → Act → World → Prop} {E : Prop}
    (hg : o.guard = none) (s x : Operand) (t : TypeId) (ho : o.op = Op.call { callee := Callee.builtin Builtin.append, args := #[s, x], argTypes := #[t, t] })
    (e : TypeId) (i : TypeInfo) (z : Value) (size bytes : Nat) (ht : P.underlying t = some (.slice e)) (hi : P.info? e = some i) (hz : i.zero = some z)
    (hsize : i.size = size) (hby : i.bytes = bytes) (hzs : z.cells.size = size) (hsz : 0 < size)
    (v : Value) (n : Nat) (xs : List Value) (hs : a.eval s = v) (hown : w.ownsRow 0 e size v n xs)
    (ad : Addr) (m c : Nat) (news : List Value) (hx : a.eval x = .slice (some ad) m c) (hl : news.length = m * size) (hnews : ∀ j u, news[j]? = some u → w.cell? (ad.add j) = some u) (h1 : ∀ u ∈ news, u.oneCell' = true)
    (h63 : n + m ≤ maxLen) (hbytes : (n + m) * bytes ≤ 140737488355328)
    (hK : ∀ v' w', w'.ownsRow 0 e size v' (n + m) (xs ++ news) → w.grownBy w' v.ownBlock → (∀ k, v'.ownBlock = some k → v.ownBlock = some k ∨ w.heap.size ≤ k) → K (a.put o.dst v') w') :
    if Region.wanted o (yielded ops a.tmps) = true then Oper.wp P o a w K Q else E := by
  rcases hown.2 with ⟨hv, hn⟩ | ⟨g, cap, cur, hv, hgg, hh, hc, hm, hcs, htk⟩
  · subst hv; subst hn; have hx0 : xs = [] := List.eq_nil_of_length_eq_zero (by have := hown.1; omega); subst hx0; refine step_own hg s x t ho w.heap.size e i z size bytes ht hi hz hsize hby hzs hsz _ 0 [] hs (World.ownsRow_nil _ _ _ _) ad m c news hx hl hnews h1 h63 hbytes (Nat.le_refl _) ?_; intro v' w' hown' hgrow _; exact hK v' w' (owns_le hown' (Nat.zero_le _)) hgrow (fun k hk => .inr (World.ownsRow.lt hown' k hk).1)
  · subst hv
    by_cases hfit : n + m ≤ cap
    · have hw : Region.wanted o (yielded ops a.tmps) = true := (by simp [Region.wanted, hg]); rw [if_pos hw]; obtain ⟨w', hrun, r1, r2⟩ := run_append_fits (P := P) w 0 t o.type e i size ht hi hsize g n cap xs hown ad m c news hl hnews h1 hfit; unfold Oper.wp; simp [execOp, ho, resolve, invoke, builtin, hs, hx, hrun, Result.andThen]; exact hK _ w' r1 r2 (fun k hk => .inl hk)
    · refine step_append_grows hg s x t ho e i z size bytes ht hi hz hsize hby hzs hsz (some ⟨g, 0, none⟩) n cap xs hs (fun f => by cases f) hown.1 ?_ ad m c news hx hl hnews h1 (by omega) h63 hbytes ?_
      · intro b hb j u hu; obtain rfl : (⟨g, 0, none⟩ : Addr) = b := (by simpa using hb); exact World.ownsRow.cells hown (g := g) rfl j u hu
      · intro v' w' hown' hgrow; refine hK v' w' (owns_le hown' (Nat.zero_le _)) ?_ (fun k hk => .inr (World.ownsRow.lt hown' k hk).1); exact ⟨hgrow.os, hgrow.tape, hgrow.output, hgrow.size, fun k hk _ => hgrow.block k hk (by simp)⟩
end Go.Proofs.YtkbaafgaaiekpaaGreat.mem
namespace Go.Proofs.YtkbaafgaaiekpaaGreat.acck
open Go.RowKit mem Go.WideShapes Go.ChangeMaps Go.WideMaps Go.Maps accm accn
set_option linter.unusedVariables false
set_option maxRecDepth 100000
def RangeA (w : World) (b r n : Nat) (C : Ac → Option (List Int)) (left : Ac → Bool) (cnt : Nat) : Prop :=
  ∃ (D : DataW Unit) (lf : Lit → Bool), w.ranges Tryz.prog 56 accn.Rs b r n D lf cnt ∧ accn.Like D C ∧ (∀ a l, C a = some l → Row l ∧ InA a) ∧ ∀ a kl, keyOf Tryz.prog 56 (acc a) = some kl → lf kl = left a
theorem RangeA.le {w : World} {b r n cnt : Nat} {C : Ac → Option (List Int)} {left : Ac → Bool} (h : RangeA w b r n C left cnt) : cnt ≤ n := by
  obtain ⟨D, lf, ⟨es, clock, since, seen, c0, hb, F, hs, hD, hr, hold, hc, _⟩, _⟩ := h; have : (leftOf es seen).size ≤ es.size := (by unfold leftOf; exact Array.size_filter_le); omega
theorem MapA.below {w w' : World} {b n : Nat} {C : Ac → Option (List Int)} (h : MapA w b n C) (hw : Below w.heap.size w w') : MapA w' b n C := h.only (Only.of_below hw) (fun f => f)
theorem MapA.range {w : World} {b n : Nat} {C : Ac → Option (List Int)} (h : MapA w b n C) :
    ∃ w' cnt, (Instr.range 98 (.map (some b))).run Tryz.prog w = .ok (.pointer (some ⟨w.heap.size, 0, none⟩)) w' ∧ RangeA w' b w.heap.size n C (fun a => (C a).isSome) cnt ∧ Only (fun _ => False) w w' ∧ w'.heap.size = w.heap.size + 1 := by
  obtain ⟨D, h1, hL, h3⟩ := h; obtain ⟨w', hrun, hr, hg, hs⟩ := h1.range accm.keyed Tryz.underlying98; refine ⟨w', _, hrun, ⟨D, _, hr, hL, h3, fun a kl hkl => ?_⟩, (Only.of_grown hg).mono (fun k _ e => by cases e), hs⟩; show _ = (C a).isSome
  cases hc : C a with
  | none => exact hL.out a kl hkl hc
  | some l => exact (hL.val a kl l hkl hc).2.1
theorem RangeA.next {w : World} {b r n cnt : Nat} {C : Ac → Option (List Int)} {left : Ac → Bool} (h : RangeA w b r n C left cnt) (ty : TypeId) :
    ((∀ a, (C a).isSome = true → left a = false) ∧ (Instr.next (.pointer (some ⟨r, 0, none⟩)) false ty).run Tryz.prog w = .ok (.tuple #[.bool false]) w) ∨
    ∃ (a : Ac) (l : List Int) (w' : World) (cnt' : Nat), C a = some l ∧ InA a ∧ left a = true ∧ (Instr.next (.pointer (some ⟨r, 0, none⟩)) false ty).run Tryz.prog w = .ok (.tuple #[.bool true, acc a, accn.sec l]) w' ∧
      RangeA w' b r n C (fun j => left j && !decide (j = a)) cnt' ∧ cnt' < cnt ∧ Only (fun k => k = r) w w' ∧ w'.heap.size = w.heap.size ∧ (Instr.entry (.pointer (some ⟨r, 0, none⟩))).run Tryz.prog w' = .ok (.tuple #[acc a, accn.sec l]) w' := by
  obtain ⟨D, lf, hr, hL, h3, hlf⟩ := h; rcases hr.next accm.keyed ty with ⟨h0, hall, hrun⟩ | ⟨key, v, kl, y, w', cnt', hkey, hleft, hR, hat, hrun, hr', hlt, hg, hsz, hent⟩
  · refine .inl ⟨fun a ha => ?_, hrun⟩; obtain ⟨l, hl⟩ := Option.isSome_iff_exists.1 ha; obtain ⟨kl, hkl⟩ := acc_key (h3 a l hl).2; rw [← hlf a kl hkl]; exact hall _
  · have hhas : Maps.has D kl = true := Maps.has_true_of_atKey hat; obtain ⟨a, hia, hka, has⟩ := hL.inn kl hhas; have hke : key = acc a := accm.law.inj hkey hka; subst hke; obtain ⟨l, hl⟩ := Option.isSome_iff_exists.1 has; obtain ⟨l', hsl, rfl, hy⟩ := accn.Rs_inv hR; have hv := (hL.val a kl l hka hl).2.2 (accn.dat noughts); rw [hat, hy] at hv; have hll := accn.dat_inj hv; subst hll; refine .inr ⟨a, l', w', cnt', hl, hia, by rw [← hlf a kl hka]; exact hleft, hrun, ⟨D, _, hr', hL, h3, fun j kj hkj => ?_⟩, hlt, (Only.of_grown hg).mono (fun k _ e => (Option.some.inj e).symm), hsz, hent⟩; show (lf kj && !kj.sameKey kl) = (left j && !decide (j = a)); rw [hlf j kj hkj]
    by_cases e : j = a
    · subst e; obtain rfl := Option.some.inj (hkj.symm.trans hka); rw [WideAt.sameKey_self (accm.keyed.key hkj)]; simp
    · have hne : kj ≠ kl := fun q => e (acc_inj (accm.law.inj hkj (by rw [q]; exact hka))); rw [Maps.sameKey_ne hne]; simp [e]
def Come (C : Ac → Option (List Int)) (left : Ac → Bool) (ss : List Ac) : Prop := ss.Nodup ∧ ∀ i, i ∈ ss ↔ ((C i).isSome = true ∧ left i = false)
def KeysOf (C : Ac → Option (List Int)) (ss : List Ac) : Prop := ss.Nodup ∧ (∀ i, i ∈ ss ↔ (C i).isSome = true) ∧ ∀ i ∈ ss, InA i
theorem Come.start (C : Ac → Option (List Int)) : Come C (fun i => (C i).isSome) [] := ⟨List.nodup_nil, fun i => by
  constructor
  · intro h; cases h
  · rintro ⟨h1, h2⟩; have h2 : (C i).isSome = false := h2; rw [h1] at h2; cases h2⟩
theorem Come.step {C : Ac → Option (List Int)} {left : Ac → Bool} {ss : List Ac} (h : Come C left ss) {i : Ac} {l : List Int} (hc : C i = some l) (hl : left i = true) : Come C (fun j => left j && !decide (j = i)) (ss ++ [i]) := by
  have hni : i ∉ ss := fun hm => (by have := ((h.2 i).1 hm).2; rw [hl] at this; cases this); refine ⟨?_, fun j => ?_⟩
  · rw [List.nodup_append]; refine ⟨h.1, by simp, fun a ha b hb e => ?_⟩; rw [List.mem_singleton] at hb; subst hb; subst e; exact hni ha
  · rw [List.mem_append, List.mem_singleton, h.2 j]
    by_cases e : j = i
    · subst e; simp [hc]
    · simp [e]
theorem Come.all {C : Ac → Option (List Int)} {left : Ac → Bool} {ss : List Ac} (h : Come C left ss) (hl : ∀ i, (C i).isSome = true → left i = false) (hin : ∀ a l, C a = some l → InA a) : KeysOf C ss := by
  refine ⟨h.1, fun i => ?_, fun i hi => ?_⟩
  · rw [h.2 i]; exact ⟨fun q => q.1, fun q => ⟨q, hl i q⟩⟩
  · obtain ⟨l, hl⟩ := Option.isSome_iff_exists.1 ((h.2 i).1 hi).1; exact hin i l hl
theorem RangeA.rows {w : World} {b r n cnt : Nat} {C : Ac → Option (List Int)} {left : Ac → Bool} (h : RangeA w b r n C left cnt) : ∀ a l, C a = some l → InA a := by
  obtain ⟨D, lf, h0, h1, h3, _⟩ := h; exact fun a l e => (h3 a l e).2
def encA (a : Ac) : List Value := [.int .i64 a.k, .int .i64 a.n, .int .i64 a.g]
def av (ss : List Ac) : List Value := ss.flatMap encA
end Go.Proofs.YtkbaafgaaiekpaaGreat.acck
namespace Go.Proofs.YtkbaafgaaiekpaaGreat.tre
open Go.RowKit mem
set_option linter.unusedVariables false
structure Nd where
  id : Int
  par : Int
  kind : Int
  lim : Int
  cl : Bool
deriving Inhabited, DecidableEq
def encN (x : Nd) : List Value := [.int .i64 x.id, .int .i64 x.par, .int .i64 x.kind, .int .i64 x.lim, .bool x.cl]
def nv (l : List Nd) : List Value := l.flatMap encN
theorem nv_cons (x : Nd) (r : List Nd) : nv (x :: r) = encN x ++ nv r := by simp [nv]
theorem nv_length (l : List Nd) : (nv l).length = l.length * 5 := by
  induction l with
  | nil => rfl
  | cons x r ih => rw [nv_cons, List.length_append, ih, List.length_cons]; simp [encN]; omega
theorem nv_get : ∀ (l : List Nd) (i c : Nat), i < l.length → c < 5 → (nv l)[i * 5 + c]? = (encN (l.getD i default))[c]? := by
  intro l
  induction l with
  | nil => intro i c hi; simp at hi
  | cons x r ih =>
    intro i c hi hc; rw [nv_cons]
    cases i with
    | zero => rw [List.getElem?_append_left (by show 0 * 5 + c < 5; omega)]; simp
    | succ i =>
      rw [List.getElem?_append_right (by show 5 ≤ (i + 1) * 5 + c; omega)]; have e : (i + 1) * 5 + c - (encN x).length = i * 5 + c := (by show (i + 1) * 5 + c - 5 = _; omega); rw [e, ih i c (by simpa using hi) hc]; simp
def NdAt (w : World) (b o : Nat) (n : Nd) : Prop :=
  w.cell? ⟨b, o, none⟩ = some (.int .i64 n.id) ∧ w.cell? ⟨b, o + 1, none⟩ = some (.int .i64 n.par) ∧ w.cell? ⟨b, o + 2, none⟩ = some (.int .i64 n.kind) ∧ w.cell? ⟨b, o + 3, none⟩ = some (.int .i64 n.lim) ∧ w.cell? ⟨b, o + 4, none⟩ = some (.bool n.cl)
theorem NdAt.only {S : Nat → Prop} {w w' : World} {b o : Nat} {n : Nd} (h : NdAt w b o n) (ho : Only S w w') (hs : ¬ S b) : NdAt w' b o n :=
  ⟨ho.cell' h.1 hs, ho.cell' h.2.1 hs, ho.cell' h.2.2.1 hs, ho.cell' h.2.2.2.1 hs, ho.cell' h.2.2.2.2 hs⟩
def TreeAt (w : World) (p : Nat) (T : List Nd) : Prop := T.length = 33 ∧ (∀ k, k < 33 → NdAt w p (k * 5) (T.getD k default)) ∧ ∀ j, j < 165 → w.frozen? ⟨p, j, none⟩ = false
theorem TreeAt.lt {w : World} {p : Nat} {T : List Nd} (h : TreeAt w p T) : p < w.heap.size := World.block_lt_of_cell? w _ (h.2.1 0 (by omega)).1
theorem TreeAt.only {S : Nat → Prop} {w w' : World} {p : Nat} {T : List Nd} (h : TreeAt w p T) (ho : Only S w w') (hs : ¬ S p) : TreeAt w' p T :=
  ⟨h.1, fun k hk => (h.2.1 k hk).only ho hs, fun j hj => (ho.frozen (p := ⟨p, j, none⟩) h.lt hs).trans (h.2.2 j hj)⟩
def hasB (T : List Nd) (id : Int) : Bool := decide (1 ≤ id ∧ id ≤ 32 ∧ (T.getD id.toNat default).id ≠ 0)
theorem hasB_iff {T : List Nd} {id : Int} : hasB T id = true ↔ 1 ≤ id ∧ id ≤ 32 ∧ (T.getD id.toNat default).id ≠ 0 := by simp [hasB]
def Five (w : World) (b : Nat) : Prop := (∃ u, w.cell? ⟨b, 0, none⟩ = some u) ∧ (∃ u, w.cell? ⟨b, 1, none⟩ = some u) ∧ (∃ u, w.cell? ⟨b, 2, none⟩ = some u) ∧ (∃ u, w.cell? ⟨b, 3, none⟩ = some u) ∧ (∃ u, w.cell? ⟨b, 4, none⟩ = some u) ∧
  w.frozen? ⟨b, 0, none⟩ = false ∧ w.frozen? ⟨b, 1, none⟩ = false ∧ w.frozen? ⟨b, 2, none⟩ = false ∧ w.frozen? ⟨b, 3, none⟩ = false ∧ w.frozen? ⟨b, 4, none⟩ = false
theorem alloc_cell {w : World} {cs : Array Value} {t : TypeId} {g i : Nat} {v : Value} (hg : g = w.heap.size) (hv : cs[i]? = some v) : (w.alloc (.cells cs t)).cell? ⟨g, i, none⟩ = some v := by
  subst hg; rw [Go.Joins.cell_of_block (cs := cs) (t := t) (fr := (0, 0)) (by rw [heap_alloc, if_pos rfl])]; exact hv
theorem alloc_froz (W : World) (cs : Array Value) (t : TypeId) (g i : Nat) (hg : g = W.heap.size) : (W.alloc (.cells cs t)).frozen? ⟨g, i, none⟩ = false := by
  subst hg; have e : (W.alloc (.cells cs t)).heap[W.heap.size]? = some (.cells cs t) := (by rw [heap_alloc, if_pos rfl]); unfold World.frozen?; dsimp only; rw [e]; simp
theorem Five.new {w : World} {x0 x1 x2 x3 x4 : Value} {t : TypeId} {g : Nat} (hg : g = w.heap.size) : Five (w.alloc (.cells #[x0, x1, x2, x3, x4] t)) g :=
  ⟨⟨_, alloc_cell hg rfl⟩, ⟨_, alloc_cell hg rfl⟩, ⟨_, alloc_cell hg rfl⟩, ⟨_, alloc_cell hg rfl⟩, ⟨_, alloc_cell hg rfl⟩, alloc_froz _ _ _ _ _ hg, alloc_froz _ _ _ _ _ hg, alloc_froz _ _ _ _ _ hg, alloc_froz _ _ _ _ _ hg, alloc_froz _ _ _ _ _ hg⟩
theorem Five.only {S : Nat → Prop} {w w' : World} {b : Nat} (h : Five w b) (ho : Only S w w') (hs : ¬ S b) : Five w' b := by
  obtain ⟨⟨u0, h0⟩, ⟨u1, h1⟩, ⟨u2, h2⟩, ⟨u3, h3⟩, ⟨u4, h4⟩, f0, f1, f2, f3, f4⟩ := h; have hlt : b < w.heap.size := World.block_lt_of_cell? w _ h0; exact ⟨⟨u0, ho.cell' h0 hs⟩, ⟨u1, ho.cell' h1 hs⟩, ⟨u2, ho.cell' h2 hs⟩, ⟨u3, ho.cell' h3 hs⟩, ⟨u4, ho.cell' h4 hs⟩, (ho.frozen (p := ⟨b, 0, none⟩) hlt hs).trans f0, (ho.frozen (p := ⟨b, 1, none⟩) hlt hs).trans f1, (ho.frozen (p := ⟨b, 2, none⟩) hlt hs).trans f2, (ho.frozen (p := ⟨b, 3, none⟩) hlt hs).trans f3, (ho.frozen (p := ⟨b, 4, none⟩) hlt hs).trans f4⟩
theorem off_ne {b i j : Nat} (h : i ≠ j) : (⟨b, i, none⟩ : Addr) ≠ ⟨b, j, none⟩ := fun e => h (by injection e)
def put5 (w : World) (b o : Nat) (x0 x1 x2 x3 x4 : Value) : World := ((((w.setCell ⟨b, o, none⟩ x0).setCell ⟨b, o + 1, none⟩ x1).setCell ⟨b, o + 2, none⟩ x2).setCell ⟨b, o + 3, none⟩ x3).setCell ⟨b, o + 4, none⟩ x4
theorem put5_only (w : World) (b o : Nat) (x0 x1 x2 x3 x4 : Value) : Only (fun q => q = b) w (put5 w b o x0 x1 x2 x3 x4) :=
  (((((Only.refl (fun q => q = b) w).setCell (p := ⟨b, o, none⟩) (.inl rfl) _).setCell (p := ⟨b, o + 1, none⟩) (.inl rfl) _).setCell (p := ⟨b, o + 2, none⟩) (.inl rfl) _).setCell (p := ⟨b, o + 3, none⟩) (.inl rfl) _).setCell (p := ⟨b, o + 4, none⟩) (.inl rfl) _
theorem put5_froz (w : World) (b o : Nat) (x0 x1 x2 x3 x4 : Value) (q : Addr) : (put5 w b o x0 x1 x2 x3 x4).frozen? q = w.frozen? q := by
  unfold put5; rw [frozen_set, frozen_set, frozen_set, frozen_set, frozen_set]
theorem put5_far (w : World) (b o : Nat) (x0 x1 x2 x3 x4 : Value) (j : Nat) (h : j < o ∨ o + 5 ≤ j) : (put5 w b o x0 x1 x2 x3 x4).cell? ⟨b, j, none⟩ = w.cell? ⟨b, j, none⟩ := by
  unfold put5; rw [cell_other (off_ne (by omega)), cell_other (off_ne (by omega)), cell_other (off_ne (by omega)), cell_other (off_ne (by omega)), cell_other (off_ne (by omega))]
theorem put5_cells {w : World} {b o : Nat} {u0 u1 u2 u3 u4 : Value} (x0 x1 x2 x3 x4 : Value) (h0 : w.cell? ⟨b, o, none⟩ = some u0) (h1 : w.cell? ⟨b, o + 1, none⟩ = some u1) (h2 : w.cell? ⟨b, o + 2, none⟩ = some u2) (h3 : w.cell? ⟨b, o + 3, none⟩ = some u3) (h4 : w.cell? ⟨b, o + 4, none⟩ = some u4) :
    (put5 w b o x0 x1 x2 x3 x4).cell? ⟨b, o, none⟩ = some x0 ∧ (put5 w b o x0 x1 x2 x3 x4).cell? ⟨b, o + 1, none⟩ = some x1 ∧ (put5 w b o x0 x1 x2 x3 x4).cell? ⟨b, o + 2, none⟩ = some x2 ∧ (put5 w b o x0 x1 x2 x3 x4).cell? ⟨b, o + 3, none⟩ = some x3 ∧ (put5 w b o x0 x1 x2 x3 x4).cell? ⟨b, o + 4, none⟩ = some x4 := by
  unfold put5; refine ⟨?_, ?_, ?_, ?_, ?_⟩
  · rw [cell_other (off_ne (by omega)), cell_other (off_ne (by omega)), cell_other (off_ne (by omega)), cell_other (off_ne (by omega)), cell_same h0]
  · rw [cell_other (off_ne (by omega)), cell_other (off_ne (by omega)), cell_other (off_ne (by omega))]; exact cell_same (by rw [cell_other (off_ne (by omega))]; exact h1)
  · rw [cell_other (off_ne (by omega)), cell_other (off_ne (by omega))]; exact cell_same (by rw [cell_other (off_ne (by omega)), cell_other (off_ne (by omega))]; exact h2)
  · rw [cell_other (off_ne (by omega))]; exact cell_same (by rw [cell_other (off_ne (by omega)), cell_other (off_ne (by omega)), cell_other (off_ne (by omega))]; exact h3)
  · exact cell_same (by rw [cell_other (off_ne (by omega)), cell_other (off_ne (by omega)), cell_other (off_ne (by omega)), cell_other (off_ne (by omega))]; exact h4)
def put50 (w : World) (b : Nat) (x0 x1 x2 x3 x4 : Value) : World := ((((w.setCell ⟨b, 0, none⟩ x0).setCell ⟨b, 1, none⟩ x1).setCell ⟨b, 2, none⟩ x2).setCell ⟨b, 3, none⟩ x3).setCell ⟨b, 4, none⟩ x4
theorem put50_eq (w : World) (b : Nat) (x0 x1 x2 x3 x4 : Value) : put50 w b x0 x1 x2 x3 x4 = put5 w b 0 x0 x1 x2 x3 x4 := by unfold put50 put5; simp only [Nat.zero_add]
theorem Five.put {w : World} {b : Nat} (h : Five w b) (x0 x1 x2 x3 x4 : Value) :
    (put50 w b x0 x1 x2 x3 x4).cell? ⟨b, 0, none⟩ = some x0 ∧ (put50 w b x0 x1 x2 x3 x4).cell? ⟨b, 1, none⟩ = some x1 ∧ (put50 w b x0 x1 x2 x3 x4).cell? ⟨b, 2, none⟩ = some x2 ∧ (put50 w b x0 x1 x2 x3 x4).cell? ⟨b, 3, none⟩ = some x3 ∧ (put50 w b x0 x1 x2 x3 x4).cell? ⟨b, 4, none⟩ = some x4 := by
  obtain ⟨⟨u0, h0⟩, ⟨u1, h1⟩, ⟨u2, h2⟩, ⟨u3, h3⟩, ⟨u4, h4⟩, _⟩ := h; have := put5_cells x0 x1 x2 x3 x4 (b := b) (o := 0) h0 h1 h2 h3 h4; rw [put50_eq]
  simpa only [Nat.zero_add] using this
theorem node_box {w0 w1 : World} (t : TypeId) (x0 x1 x2 x3 x4 : Value) (ho : Only (fun _ => False) w0 w1) :
    (w1.alloc (.cells #[x0, x1, x2, x3, x4] t)).cell? ⟨w1.heap.size, 0, none⟩ = some x0 ∧
    (w1.alloc (.cells #[x0, x1, x2, x3, x4] t)).cell? ⟨w1.heap.size, 1, none⟩ = some x1 ∧
    (w1.alloc (.cells #[x0, x1, x2, x3, x4] t)).cell? ⟨w1.heap.size, 2, none⟩ = some x2 ∧
    (w1.alloc (.cells #[x0, x1, x2, x3, x4] t)).cell? ⟨w1.heap.size, 3, none⟩ = some x3 ∧
    (w1.alloc (.cells #[x0, x1, x2, x3, x4] t)).cell? ⟨w1.heap.size, 4, none⟩ = some x4 ∧
    Only (fun _ => False) w0 (w1.alloc (.cells #[x0, x1, x2, x3, x4] t)) :=
  ⟨alloc_cell rfl rfl, alloc_cell rfl rfl, alloc_cell rfl rfl, alloc_cell rfl rfl, alloc_cell rfl rfl, ho.alloc _⟩
def got (T : List Nd) (id : Int) : Nd := if hasB T id = true then T.getD id.toNat default else ⟨0, 0, 0, 0, false⟩
def takE (T : List Nd) (par kind : Int) : Int := if hasB T par = false then 7 else if (got T par).kind ≠ kind - 1 then 21 else if (got T par).cl = true then 16 else 0
theorem NdAt.iff {w : World} {b o : Nat} {n : Nd} : NdAt w b o n ↔ ∀ c, c < 5 → w.cell? ⟨b, o + c, none⟩ = (encN n)[c]? := by
  constructor
  · rintro ⟨h0, h1, h2, h3, h4⟩ c hc
    match c, hc with
    | 0, _ => exact h0
    | 1, _ => exact h1
    | 2, _ => exact h2
    | 3, _ => exact h3
    | 4, _ => exact h4
  · intro h; exact ⟨h 0 (by omega), h 1 (by omega), h 2 (by omega), h 3 (by omega), h 4 (by omega)⟩
theorem getD_set (T : List Nd) (k j : Nat) (n : Nd) (hk : k < T.length) : (T.set k n).getD j default = if j = k then n else T.getD j default := by
  by_cases h : j = k
  · subst h; simp [List.getD, hk]
  · rw [if_neg h]; simp [List.getD, Ne.symm h]
theorem TreeAt.store {w : World} {p : Nat} {T : List Nd} (h : TreeAt w p T) (k c : Nat) (v : Value) (n' : Nd) (hk : k < 33) (hc : c < 5) (he : encN n' = (encN (T.getD k default)).set c v) : TreeAt (w.setCell ⟨p, k * 5 + c, none⟩ v) p (T.set k n') := by
  obtain ⟨hl, hn, hf⟩ := h; refine ⟨by simpa using hl, fun j hj => NdAt.iff.2 fun d hd => ?_, fun j hj => frozen_set.trans (hf j hj)⟩; rw [getD_set T k j n' (by omega)]; have h0 := NdAt.iff.1 (hn j hj) d hd
  by_cases hjk : j = k
  · subst hjk; rw [if_pos rfl, he]
    by_cases hdc : d = c
    · subst hdc; have hlen : d < (encN (T.getD j default)).length := hd; rw [List.getElem?_set_self hlen]; obtain ⟨u, hu⟩ : ∃ u, (encN (T.getD j default))[d]? = some u := ⟨_, List.getElem?_eq_getElem hlen⟩; exact cell_same (h0.trans hu)
    · rw [List.getElem?_set_ne (Ne.symm hdc), cell_other (off_ne (by omega))]; exact h0
  · rw [if_neg hjk, cell_other (off_ne (by omega))]; exact h0
theorem TreeAt.drew {w : World} {p : Nat} {T : List Nd} (h : TreeAt w p T) : TreeAt w.drew p T := h.only ((Only.refl (fun _ => False) w).drew) (fun f => f)
theorem TreeAt.put {w : World} {p : Nat} {T : List Nd} (h : TreeAt w p T) (k : Nat) (n : Nd) (hk : k < 33) : TreeAt (put5 w p (k * 5) (.int .i64 n.id) (.int .i64 n.par) (.int .i64 n.kind) (.int .i64 n.lim) (.bool n.cl)) p (T.set k n) := by
  obtain ⟨hl, hn, hf⟩ := h; refine ⟨by simpa using hl, fun j hj => ?_, fun j hj => (put5_froz _ _ _ _ _ _ _ _ _).trans (hf j hj)⟩; rw [getD_set T k j n (by omega)]; obtain ⟨h0, h1, h2, h3, h4⟩ := hn k hk
  by_cases hjk : j = k
  · subst hjk; rw [if_pos rfl]; exact put5_cells _ _ _ _ _ h0 h1 h2 h3 h4
  · rw [if_neg hjk]; obtain ⟨g0, g1, g2, g3, g4⟩ := hn j hj; exact ⟨(put5_far _ _ _ _ _ _ _ _ _ (by omega)).trans g0, (put5_far _ _ _ _ _ _ _ _ _ (by omega)).trans g1, (put5_far _ _ _ _ _ _ _ _ _ (by omega)).trans g2, (put5_far _ _ _ _ _ _ _ _ _ (by omega)).trans g3, (put5_far _ _ _ _ _ _ _ _ _ (by omega)).trans g4⟩
theorem Only.p {w w' : World} (p : Nat) (h : Only (fun _ => False) w w') : Only (fun q => q = p) w w' := h.mono (fun _ _ f => f.elim)
def movE (T : List Nd) (id par : Int) : Int := if hasB T id = false then 7 else if (got T id).cl = true then 16 else if (got T id).kind = 1 then 21 else if takE T par (got T id).kind ≠ 0 then takE T par (got T id).kind else if (got T id).par = par then 8 else 0
def movT (T : List Nd) (id par : Int) : List Nd := if movE T id par = 0 then T.set id.toNat { got T id with par := par } else T
def KindOk (T : List Nd) : Prop := ∀ k, 0 ≤ (T.getD k default).kind ∧ (T.getD k default).kind ≤ 3
end Go.Proofs.YtkbaafgaaiekpaaGreat.tre
namespace Go.Proofs.YtkbaafgaaiekpaaGreat.opu
open Go.RowKit mem
def intV : Option Value → Int
  | some (.int _ n) => n
  | _ => 0
open Go.ChangeShapes Go.WideShapes Go.ChangeAt
set_option linter.unusedVariables false
section
variable {H : Type} {enc : TypeId × Value → H} {w : World} {base : Nat}
set_option maxRecDepth 100000 in
theorem ints_open {fuel : Nat} {ao : Option Addr} {len cap : Nat} {x : DataW H × List MemPlace} (h : DataW.trod enc Tryz.prog w base (fun _ => true) true fuel 37 [.slice ao len cap] = some x) : ∃ l, IntsR w ao len cap l := by
  rcases Go.Deep.open_slice Tryz.underlying37 h with ⟨hcs, _⟩ | ⟨a, len2, cap2, m, n, D, Pq, hcs, hb, hl, hm, hmm, hx, hi⟩
  · simp at hcs; obtain ⟨rfl, rfl, rfl⟩ := hcs; exact ⟨[], ⟨rfl, by unfold maxLen; omega, (fun c hc => by cases hc), .inl rfl⟩, by omega, by unfold maxLen; omega, fun _ => rfl⟩
  · simp at hcs; obtain ⟨rfl, rfl, rfl⟩ := hcs; simp at hmm; have hC : Tryz.prog.cellsOf 3 = 1 := (by kernel_rfl); rw [hC] at hi; have key : ∀ i, i < len → ∃ y : Int, (-9223372036854775808 ≤ y ∧ y ≤ 9223372036854775807) ∧ w.cell? (a.add i) = some (.int .i64 y) := by
      intro i hil; obtain ⟨cs', hc, ht'⟩ := hi i (by omega); obtain ⟨y, hy, _, wy⟩ := DataW.trod_int Tryz.underlying3 ht'; obtain ⟨_, hcl, hat⟩ := World.cells?_some hc; subst hy; have := hat 0 (by simp); rw [Nat.mul_one, Addr.add_zero'] at this; exact ⟨y, mem.int_of_wf wy, by simpa using this⟩
    by_cases h0 : len = 0
    · subst h0; exact ⟨[], ⟨rfl, by unfold maxLen; omega, (fun c hc => by cases hc), .inl rfl⟩, hl, hm, fun e => by cases e⟩
    · obtain ⟨b, off, spot⟩ := a; obtain ⟨y0, _, d0⟩ := key 0 (by omega); have hspot : spot = none := (by simpa [Addr.add] using World.cell?_spot d0); subst hspot; refine ⟨(List.range len).map (fun i => intV (w.cell? ⟨b, off + i, none⟩)), ⟨by simp, by omega, fun c hc => ?_, .inr ⟨b, off, rfl, fun i hil => ?_⟩⟩, hl, hm, fun e => by cases e⟩
      · obtain ⟨i, hi', rfl⟩ := List.mem_map.1 hc; obtain ⟨y, hin, d⟩ := key i (List.mem_range.1 hi'); rw [add_none] at d; rw [d]; exact hin
      · obtain ⟨y, hin, d⟩ := key i hil; rw [add_none] at d; have e : ((List.range len).map (fun i => intV (w.cell? ⟨b, off + i, none⟩))).getD i 0 = y := by
          rw [List.getD_eq_getElem?_getD, List.getElem?_map, List.getElem?_range hil]; show intV _ = y; rw [d]; rfl
        rw [e]; exact d
end
end Go.Proofs.YtkbaafgaaiekpaaGreat.opu
