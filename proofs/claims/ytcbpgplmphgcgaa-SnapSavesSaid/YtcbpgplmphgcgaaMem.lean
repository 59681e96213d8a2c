/- Memory, in few words: which blocks may have been written; bytes that a slice reads; rows of the call's own, grown by append. -/
import Derived.Test.YtcbpgplmphgcgaaRows
import Derived.WalkKit
import Derived.WalkSpells
import Derived.Below
import Derived.Lib.Hide
import Derived.ProofKit
import Derived.OwnWalk
import Derived.ArgAppend
import Derived.Laws.AppendOwnNone
import Derived.Laws.OwnMore
import Derived.Lib.SmallJoins
namespace Go.Proofs.Ytcbpgplmphgcgaa.mem
open Go.RowKit
set_option linter.unusedVariables false

/-- every block that was there, but those in S, is as it was -/
structure Only (S : Nat → Prop) (w w' : World) : Prop where
  os : w'.os = w.os
  tape : w'.tape = w.tape
  output : w'.output = w.output
  size : w.heap.size ≤ w'.heap.size
  block : ∀ k, k < w.heap.size → ¬ S k → w'.heap[k]? = w.heap[k]?

theorem size_alloc (x : World) (o : Obj) : (x.alloc o).heap.size = x.heap.size + 1 := by show (x.heap.push o).size = _; simp
theorem size_setCell (x : World) (a : Addr) (u : Value) : (x.setCell a u).heap.size = x.heap.size := by simp [World.setCell]

theorem heap_alloc (w : World) (o : Obj) (n : Nat) : (w.alloc o).heap[n]? = if n = w.heap.size then some o else w.heap[n]? := by
  show (w.heap.push o)[n]? = _
  rw [Array.getElem?_push]

theorem Only.refl (S : Nat → Prop) (w : World) : Only S w w := ⟨rfl, rfl, rfl, Nat.le_refl _, fun _ _ _ => rfl⟩
theorem Only.trans {S : Nat → Prop} {a b c : World} (h : Only S a b) (k : Only S b c) : Only S a c :=
  ⟨k.os.trans h.os, k.tape.trans h.tape, k.output.trans h.output, Nat.le_trans h.size k.size, fun i hi hs => (k.block i (Nat.lt_of_lt_of_le hi h.size) hs).trans (h.block i hi hs)⟩
theorem Only.mono {S T : Nat → Prop} {a b : World} (h : Only S a b) (hT : ∀ k, k < a.heap.size → S k → T k) : Only T a b :=
  ⟨h.os, h.tape, h.output, h.size, fun i hi hs => h.block i hi (fun s => hs (hT i hi s))⟩
/-- a second step, whose blocks are the first's or new -/
theorem Only.then {S T : Nat → Prop} {a b c : World} (h : Only S a b) (k : Only T b c) (hT : ∀ i, i < a.heap.size → T i → S i) : Only S a c :=
  ⟨k.os.trans h.os, k.tape.trans h.tape, k.output.trans h.output, Nat.le_trans h.size k.size,
   fun i hi hs => (k.block i (Nat.lt_of_lt_of_le hi h.size) (fun t => hs (hT i hi t))).trans (h.block i hi hs)⟩
theorem Only.drew {S : Nat → Prop} {a w : World} (h : Only S a w) : Only S a w.drew := ⟨h.os, h.tape, h.output, h.size, h.block⟩
theorem Only.alloc {S : Nat → Prop} {a w : World} (h : Only S a w) (o : Obj) : Only S a (w.alloc o) :=
  h.trans ⟨rfl, rfl, rfl, by rw [size_alloc]; omega, fun k hk _ => Below.heap_alloc _ _ _ hk⟩
theorem Only.setCell {S : Nat → Prop} {a w : World} (h : Only S a w) {p : Addr} (hp : S p.block ∨ a.heap.size ≤ p.block) (u : Value) : Only S a (w.setCell p u) :=
  ⟨h.os, h.tape, h.output, by rw [size_setCell]; exact h.size, fun k hk hs => (Below.heap_setCell w p u k (fun e => hp.elim (fun s => hs (e ▸ s)) (fun h2 => by omega))).trans (h.block k hk hs)⟩
theorem Only.of_grown {w w' : World} {row : Option Nat} (hg : w.grownBy w' row) : Only (fun k => row = some k) w w' :=
  ⟨hg.os, hg.tape, hg.output, hg.size, fun k hk hs => hg.block k hk (fun e => hs e.symm)⟩
theorem Only.of_below {w w' : World} (h : Below w.heap.size w w') : Only (fun _ => False) w w' := ⟨h.os, h.tape, h.output, h.size, fun k hk _ => h.block k hk⟩
theorem Only.below {S : Nat → Prop} {w w' : World} (h : Only S w w') {B : Nat} (hB : B ≤ w.heap.size) (hS : ∀ k, S k → B ≤ k) : Below B w w' :=
  ⟨h.os, h.tape, h.output, h.size, fun k hk => h.block k (by omega) (fun s => by have := hS k s; omega)⟩
theorem Only.none {w w' : World} (h : Only (fun _ => False) w w') : Below w.heap.size w w' := h.below (Nat.le_refl _) (fun _ f => f.elim)

theorem Only.cell {S : Nat → Prop} {w w' : World} (h : Only S w w') {p : Addr} (hp : p.block < w.heap.size) (hs : ¬ S p.block) : w'.cell? p = w.cell? p :=
  World.cell?_of_block (w := w) (h.block p.block hp hs)
theorem Only.cell' {S : Nat → Prop} {w w' : World} (h : Only S w w') {p : Addr} {v : Value} (hc : w.cell? p = some v) (hs : ¬ S p.block) : w'.cell? p = some v :=
  (h.cell (World.block_lt_of_cell? w p hc) hs).trans hc
theorem Only.frozen {S : Nat → Prop} {w w' : World} (h : Only S w w') {p : Addr} (hp : p.block < w.heap.size) (hs : ¬ S p.block) : w'.frozen? p = w.frozen? p :=
  World.frozen?_of_block (w := w) (h.block p.block hp hs)

theorem cell_same {w : World} {p : Addr} {u v : Value} (h : w.cell? p = some u) : (w.setCell p v).cell? p = some v := World.cell?_setCell_same _ _ _ h
theorem cell_other {w : World} {p q : Addr} {v : Value} (h : p ≠ q) : (w.setCell p v).cell? q = w.cell? q := World.cell?_setCell_other _ _ _ _ h
theorem frozen_set {w : World} {p q : Addr} {v : Value} : (w.setCell p v).frozen? q = w.frozen? q := World.frozen?_setCell ..
theorem Only.set (S : Nat → Prop) (w : World) (b o : Nat) (v : Value) (h : S b) : Only S w (w.setCell ⟨b, o, Option.none⟩ v) := (Only.refl S w).setCell (p := ⟨b, o, Option.none⟩) (.inl h) v

theorem heap_lt {w : World} {g : Nat} {o : Obj} (h : w.heap[g]? = some o) : g < w.heap.size := by
  rcases Nat.lt_or_ge g w.heap.size with h' | h'
  · exact h'
  · rw [Array.getElem?_eq_none h'] at h; cases h

theorem owns_only {S : Nat → Prop} {w w' : World} (h : Only S w w') {base n size : Nat} {e : TypeId} {v : Value} {xs : List Value} (ho : w.ownsRow base e size v n xs) (hs : ∀ k, v.ownBlock = some k → ¬ S k) : w'.ownsRow base e size v n xs := by
  obtain ⟨h1, h2⟩ := ho
  refine ⟨h1, ?_⟩
  rcases h2 with h2 | ⟨g, cap, cur, hv, hg, hh, r⟩
  · exact Or.inl h2
  · exact Or.inr ⟨g, cap, cur, hv, hg, by rw [h.block g (heap_lt hh) (hs g (by rw [hv]; rfl))]; exact hh, r⟩

theorem owns_le {w : World} {base base' size n : Nat} {e : TypeId} {v : Value} {xs : List Value} (h : w.ownsRow base e size v n xs) (hb : base' ≤ base) : w.ownsRow base' e size v n xs :=
  ⟨h.1, h.2.elim Or.inl (fun ⟨g, cap, cur, hv, hg, r⟩ => Or.inr ⟨g, cap, cur, hv, Nat.le_trans hb hg, r⟩)⟩

theorem owns_form {w : World} {base n size : Nat} {e : TypeId} {v : Value} {xs : List Value} (h : w.ownsRow base e size v n xs) (hne : 0 < n) : ∃ g cap, v = .slice (some ⟨g, 0, none⟩) n cap ∧ base ≤ g ∧ g < w.heap.size ∧ n ≤ cap ∧ cap ≤ maxLen := by
  rcases h.2 with ⟨_, h0⟩ | ⟨g, cap, cur, hv, hg, hh, hc, hm, _⟩
  · omega
  · exact ⟨g, cap, hv, hg, heap_lt hh, hc, hm⟩

/-- an append to a row of the call's own, nil or not: the new row is the old one's block, or a new one -/
theorem append_mine2 {P : Program} {w : World} {ops : Array Oper} {rest : List Oper} {o : Oper} {a : Act} {Q : Exit → Act → World → Prop} (hgd : o.guard = none) (s x : Operand) (t : TypeId)
    (ho : o.op = .call { callee := .builtin .append, args := #[s, x], argTypes := #[t, t] })
    (e : TypeId) (i : TypeInfo) (z : Value) (size bytes : Nat) (ht : P.underlying t = some (.slice e)) (hi : P.info? e = some i) (hz : i.zero = some z)
    (hsize : i.size = size) (hby : i.bytes = bytes) (hzs : z.cells.size = size) (hsz : 0 < size)
    (v : Value) (n : Nat) (xs : List Value) (hs : a.eval s = v) (hown : w.ownsRow 0 e size v n xs)
    (ad : Addr) (m c : Nat) (news : List Value) (hx : a.eval x = .slice (some ad) m c) (hl : news.length = m * size) (hnews : ∀ j u, news[j]? = some u → w.cell? (ad.add j) = some u) (h1 : ∀ u ∈ news, u.oneCell' = true)
    (h63 : n + m ≤ maxLen) (hbytes : (n + m) * bytes ≤ 140737488355328)
    (h : ∀ v' w', w'.ownsRow 0 e size v' (n + m) (xs ++ news) → w.grownBy w' v.ownBlock → (∀ k, v'.ownBlock = some k → v.ownBlock = some k ∨ w.heap.size ≤ k) → (v' = .slice Option.none 0 0 → v = .slice Option.none 0 0) → wpList P ops Q rest (a.put o.dst v') w') : wpList P ops Q (o :: rest) a w := by
  rcases hown.2 with ⟨hv, hn⟩ | ⟨g, cap, cur, hv, hg, hh, hc, hm, hcs, htk⟩
  · subst hv
    subst hn
    have hx0 : xs = [] := List.eq_nil_of_length_eq_zero (by have := hown.1; omega)
    subst hx0
    refine wpList_append_own w hgd s x t ho w.heap.size e i z size bytes ht hi hz hsize hby hzs hsz _ 0 [] hs (World.ownsRow_nil _ _ _ _) ad m c news hx hl hnews h1 h63 hbytes (Nat.le_refl _) ?_
    intro v' w' hown' hgrow _
    exact h v' w' (owns_le hown' (Nat.zero_le _)) hgrow (fun k hk => .inr (World.ownsRow.lt hown' k hk).1) (fun _ => rfl)
  · subst hv
    by_cases hfit : n + m ≤ cap
    · refine wpList_append_fits w hgd s x t ho 0 e i size ht hi hsize g n cap xs hs hown ad m c news hx hl hnews h1 hfit ?_
      intro w' hown' hgrow
      exact h _ w' hown' hgrow (fun k hk => .inl hk) (fun f => by cases f)
    · refine wpList_append_grows w hgd s x t ho e i z size bytes ht hi hz hsize hby hzs hsz (some ⟨g, 0, none⟩) n cap xs hs (fun f => by cases f) hown.1 ?_ ad m c news hx hl hnews h1 (by omega) h63 hbytes ?_
      · intro b hb j u hu
        obtain rfl : (⟨g, 0, none⟩ : Addr) = b := by simpa using hb
        exact World.ownsRow.cells hown (g := g) rfl j u hu
      · intro v' w' hown' hgrow
        refine h v' w' (owns_le hown' (Nat.zero_le _)) ?_ (fun k hk => .inr (World.ownsRow.lt hown' k hk).1) (fun f => ?_)
        rotate_left
        · obtain ⟨g', c', hv', _⟩ := owns_form hown' (by omega)
          rw [hv'] at f; cases f
        exact ⟨hgrow.os, hgrow.tape, hgrow.output, hgrow.size, fun k hk _ => hgrow.block k hk (by simp)⟩

/-- an append to a row of the call's own, nil or not: the new row is the old one's block, or a new one -/
theorem append_mine {P : Program} {w : World} {ops : Array Oper} {rest : List Oper} {o : Oper} {a : Act} {Q : Exit → Act → World → Prop} (hgd : o.guard = none) (s x : Operand) (t : TypeId)
    (ho : o.op = .call { callee := .builtin .append, args := #[s, x], argTypes := #[t, t] })
    (e : TypeId) (i : TypeInfo) (z : Value) (size bytes : Nat) (ht : P.underlying t = some (.slice e)) (hi : P.info? e = some i) (hz : i.zero = some z)
    (hsize : i.size = size) (hby : i.bytes = bytes) (hzs : z.cells.size = size) (hsz : 0 < size)
    (v : Value) (n : Nat) (xs : List Value) (hs : a.eval s = v) (hown : w.ownsRow 0 e size v n xs)
    (ad : Addr) (m c : Nat) (news : List Value) (hx : a.eval x = .slice (some ad) m c) (hl : news.length = m * size) (hnews : ∀ j u, news[j]? = some u → w.cell? (ad.add j) = some u) (h1 : ∀ u ∈ news, u.oneCell' = true)
    (h63 : n + m ≤ maxLen) (hbytes : (n + m) * bytes ≤ 140737488355328)
    (h : ∀ v' w', w'.ownsRow 0 e size v' (n + m) (xs ++ news) → w.grownBy w' v.ownBlock → (∀ k, v'.ownBlock = some k → v.ownBlock = some k ∨ w.heap.size ≤ k) → wpList P ops Q rest (a.put o.dst v') w') : wpList P ops Q (o :: rest) a w :=
  append_mine2 hgd s x t ho e i z size bytes ht hi hz hsize hby hzs hsz v n xs hs hown ad m c news hx hl hnews h1 h63 hbytes (fun v' w' a b c _ => h v' w' a b c)

/-! bytes -/
theorem add_none (b off i : Nat) : (Addr.mk b off none).add i = ⟨b, off + i, none⟩ := by
  unfold Addr.add
  by_cases h : i = 0
  · subst h; simp
  · simp [h]

theorem getD_lt (l : List Nat) (h : ∀ c ∈ l, c < 256) (k : Nat) : l.getD k 0 < 256 := by
  by_cases hk : k < l.length
  · have : l.getD k 0 = l[k] := by simp [List.getD, hk]
    rw [this]; exact h _ (List.getElem_mem hk)
  · have : l.getD k 0 = 0 := by simp [List.getD, List.getElem?_eq_none (by omega : l.length ≤ k)]
    omega

/-- a slice's bytes, as numbers -/
def Reads (w : World) (a : Option Addr) (len : Nat) (l : List Nat) : Prop :=
  l.length = len ∧ len ≤ maxLen ∧ (∀ c ∈ l, c < 256) ∧
  (len = 0 ∨ ∃ b off, a = some ⟨b, off, none⟩ ∧ ∀ i, i < len → w.cell? ⟨b, off + i, none⟩ = some (.int .u8 ((l.getD i 0 : Nat) : Int)))

theorem Reads.take {w : World} {a : Option Addr} {len : Nat} {l : List Nat} (h : Reads w a len l) (n : Nat) (hn : n ≤ len) : Reads w a n (l.take n) := by
  obtain ⟨hl, hm, hb, hc⟩ := h
  refine ⟨by simp; omega, by omega, fun c hc' => hb c (List.mem_of_mem_take hc'), ?_⟩
  rcases hc with h0 | ⟨b, off, ha, hcell⟩
  · exact .inl (by omega)
  · refine .inr ⟨b, off, ha, fun i hi => ?_⟩
    have : (l.take n).getD i 0 = l.getD i 0 := by simp [List.getD, hi]
    rw [this]; exact hcell i (by omega)

/-- the same bytes, where the slice's block was not written -/
theorem Reads.only {S : Nat → Prop} {w w' : World} {a : Option Addr} {len : Nat} {l : List Nat} (h : Reads w a len l) (ho : Only S w w') (hs : ∀ x, a = some x → ¬ S x.block) : Reads w' a len l := by
  obtain ⟨hl, hm, hb', hc⟩ := h
  refine ⟨hl, hm, hb', ?_⟩
  rcases hc with h0 | ⟨b, off, ha, hcell⟩
  · exact .inl h0
  · exact .inr ⟨b, off, ha, fun i hi => ho.cell' (hcell i hi) (show ¬ S b from hs _ ha)⟩

theorem Reads.lt {w : World} {x : Addr} {len : Nat} {l : List Nat} (h : Reads w (some x) len l) (hl : 0 < len) : x.block < w.heap.size := by
  obtain ⟨_, _, _, hc⟩ := h
  rcases hc with h0 | ⟨b, off, ha, hcell⟩
  · omega
  · obtain rfl : x = ⟨b, off, Option.none⟩ := by simpa using ha
    have h1 := hcell 0 hl
    exact World.block_lt_of_cell? w _ h1

def IsRow (k : IntKind) (w : World) (a : Option Addr) (len cap : Nat) (zs : List Int) : Prop :=
  (a = Option.none ∧ len = 0 ∧ cap = 0 ∧ zs = []) ∨
  ∃ x, a = some x ∧ len ≤ cap ∧ cap ≤ maxLen ∧ zs.length = cap ∧ (∀ i, i < zs.length → w.cell? (x.add i) = some (.int k (zs.getD i 0))) ∧ ∀ n ∈ zs, (Lit.int k n).wf = true

/-- nil; or a row of bytes -/
def Bytes (w : World) (a : Option Addr) (len cap : Nat) (l : List Nat) : Prop :=
  Reads w a len l ∧ len ≤ cap ∧ cap ≤ maxLen ∧ (a = Option.none → cap = 0)

theorem Bytes.only {S : Nat → Prop} {w w' : World} {a : Option Addr} {len cap : Nat} {l : List Nat} (h : Bytes w a len cap l) (ho : Only S w w') (hs : ∀ x, a = some x → ¬ S x.block) : Bytes w' a len cap l :=
  ⟨h.1.only ho hs, h.2⟩
theorem Bytes.drew {w : World} {a : Option Addr} {len cap : Nat} {l : List Nat} (h : Bytes w a len cap l) : Bytes w.drew a len cap l := h.only (S := fun _ => False) ((Only.refl _ w).drew) (fun _ _ f => f)

theorem byte_of_wf {n : Int} (h : (Lit.int .u8 n).wf = true) : 0 ≤ n ∧ n < 256 := by
  have : 0 ≤ n ∧ n ≤ 255 := by simpa [Lit.wf, IntKind.min, IntKind.max, IntKind.signed, IntKind.bits] using h
  omega
theorem u32_of_wf {n : Int} (h : (Lit.int .u32 n).wf = true) : ∃ m : Nat, n = m ∧ m < 4294967296 := by
  have : 0 ≤ n ∧ n ≤ 4294967295 := by simpa [Lit.wf, IntKind.min, IntKind.max, IntKind.signed, IntKind.bits] using h
  exact ⟨n.toNat, by omega, by omega⟩
theorem int_of_wf {n : Int} (h : (Lit.int .i64 n).wf = true) : -9223372036854775808 ≤ n ∧ n ≤ 9223372036854775807 := by
  simpa [Lit.wf, IntKind.min, IntKind.max, IntKind.signed, IntKind.bits] using h

theorem getD_nat (zs : List Int) (len i : Nat) (hi : i < len) (hl : len ≤ zs.length) : ((zs.take len).map Int.toNat).getD i 0 = (zs.getD i 0).toNat := by
  have h1 : i < zs.length := by omega
  simp [List.getD, h1, hi]
theorem getD_mem (zs : List Int) (i : Nat) (hi : i < zs.length) : zs.getD i 0 ∈ zs := by
  have : zs.getD i 0 = zs[i] := by simp [List.getD, hi]
  rw [this]; exact List.getElem_mem hi

theorem bytes_of_row {w : World} {a : Option Addr} {len cap : Nat} {zs : List Int} (h : IsRow .u8 w a len cap zs) : ∃ l, Bytes w a len cap l := by
  rcases h with ⟨rfl, rfl, rfl, rfl⟩ | ⟨x, rfl, hl, hm, hz, hcell, hwz⟩
  · exact ⟨[], ⟨rfl, by unfold maxLen; omega, by simp, .inl rfl⟩, Nat.le_refl _, by unfold maxLen; omega, fun _ => rfl⟩
  · refine ⟨(zs.take len).map Int.toNat, ⟨by simp; omega, by omega, ?_, ?_⟩, hl, hm, by simp⟩
    · intro c hc
      simp only [List.mem_map] at hc
      obtain ⟨z, hz', rfl⟩ := hc
      have := byte_of_wf (hwz z (List.mem_of_mem_take hz'))
      omega
    · by_cases h0 : len = 0
      · exact .inl h0
      · obtain ⟨b, off, spot⟩ := x
        have hc := hcell 0 (by omega)
        have hspot : spot = Option.none := by simpa [Addr.add] using World.cell?_spot hc
        subst hspot
        refine .inr ⟨b, off, rfl, fun i hi => ?_⟩
        have hi2 : i < zs.length := by omega
        have hc2 := hcell i hi2
        have hw := byte_of_wf (hwz _ (getD_mem zs i hi2))
        rw [getD_nat zs len i hi (by omega)]
        rw [show (((zs.getD i 0).toNat : Nat) : Int) = zs.getD i 0 by omega]
        rw [add_none] at hc2; exact hc2

theorem info_u8 : (Try.prog.info? 5).map (fun i => (i.zero, i.size, i.bytes)) = some (some (.int .u8 0), 1, 1) := by kernel_rfl

def bv (l : List Nat) : List Value := l.map fun c => Value.int .u8 ((c : Nat) : Int)
theorem bv_length (l : List Nat) : (bv l).length = l.length := by simp [bv]
theorem bv_append (l r : List Nat) : bv (l ++ r) = bv l ++ bv r := by simp [bv]
theorem bv_get (l : List Nat) (i : Nat) (h : i < l.length) : (bv l)[i]? = some (.int .u8 ((l.getD i 0 : Nat) : Int)) := by
  simp [bv, List.getD, h]
theorem bv_one (l : List Nat) : ∀ u ∈ bv l, u.oneCell' = true := by
  intro u hu; simp only [bv, List.mem_map] at hu; obtain ⟨c, _, rfl⟩ := hu; rfl
theorem bv_set (l : List Nat) (i c : Nat) : (bv l).set i (.int .u8 ((c : Nat) : Int)) = bv (l.set i c) := by
  simp [bv, List.map_set]

theorem news_of_reads {w : World} {x : Addr} {n : Nat} {l : List Nat} (h : Reads w (some x) n l) : ∀ j u, (bv l)[j]? = some u → w.cell? (x.add j) = some u := by
  intro j u hu
  obtain ⟨hl, _, _, hc⟩ := h
  have hj : j < l.length := by
    rcases Nat.lt_or_ge j l.length with h' | h'
    · exact h'
    · rw [List.getElem?_eq_none (by rw [bv_length]; exact h')] at hu; cases hu
  rcases hc with h0 | ⟨b, off, hx, hcell⟩
  · omega
  · obtain rfl : x = ⟨b, off, Option.none⟩ := by simpa using hx
    rw [add_none, hcell j (by omega), ← bv_get l j hj, hu]

/-- a row of bytes of the call's own: nil, or at the head of a block -/
def OwnB (w : World) (v : Value) (l : List Nat) : Prop := w.ownsRow 0 5 1 v l.length (bv l) ∧ (∀ c ∈ l, c < 256) ∧ l.length ≤ maxLen

theorem OwnB.nil (w : World) : OwnB w (.slice Option.none 0 0) [] := ⟨World.ownsRow_nil _ _ _ _, by simp, by unfold maxLen; simp⟩
theorem OwnB.only {S : Nat → Prop} {w w' : World} {v : Value} {l : List Nat} (h : OwnB w v l) (ho : Only S w w') (hs : ∀ k, v.ownBlock = some k → ¬ S k) : OwnB w' v l :=
  ⟨owns_only ho h.1 hs, h.2⟩
theorem OwnB.reads {w : World} {g n cap : Nat} {l : List Nat} (h : OwnB w (.slice (some ⟨g, 0, Option.none⟩) n cap) l) (hn : n = l.length) : Reads w (some ⟨g, 0, Option.none⟩) n l := by
  subst hn
  refine ⟨rfl, h.2.2, h.2.1, .inr ⟨g, 0, rfl, fun i hi => ?_⟩⟩
  rw [Nat.zero_add, h.1.cellAt i (by omega), bv_get l i hi]
theorem OwnB.form {w : World} {v : Value} {l : List Nat} (h : OwnB w v l) (hne : l ≠ []) : ∃ g cap, v = .slice (some ⟨g, 0, Option.none⟩) l.length cap ∧ g < w.heap.size ∧ l.length ≤ cap ∧ cap ≤ maxLen := by
  have hp : 0 < l.length := List.length_pos_iff.2 hne
  obtain ⟨g, cap, hv, _, hg, hc, hm⟩ := owns_form h.1 hp
  exact ⟨g, cap, hv, hg, hc, hm⟩
theorem OwnB.forms {w : World} {v : Value} {l : List Nat} (h : OwnB w v l) : (v = .slice Option.none 0 0 ∧ l = []) ∨ ∃ g cap, v = .slice (some ⟨g, 0, Option.none⟩) l.length cap ∧ g < w.heap.size ∧ l.length ≤ cap ∧ cap ≤ maxLen := by
  rcases h.1.2 with ⟨hv, h0⟩ | ⟨g, cap, cur, hv, hg, hh, hc, hm, _⟩
  · exact .inl ⟨hv, List.eq_nil_of_length_eq_zero h0⟩
  · exact .inr ⟨g, cap, hv, heap_lt hh, hc, hm⟩
end Go.Proofs.Ytcbpgplmphgcgaa.mem
