/- Numbers that are written, summed up, read again, and summed up again: what the law answers. -/
import Derived.Test.YtooffbgcaichmacPpCrc
import Derived.Test.YtooffbgcaichmacPpCod
import Derived.Test.YtooffbgcaichmacPpSum
namespace Go.Proofs.Ytooffbgcaichmac.ppw
open Go.RowKit mem codw codm intm sumw ppc
set_option linter.unusedVariables false

/-- the bytes of numbers, one behind the other -/
def encs (l : List Int) : List Nat := (l.map fun n => enc (zig n)).flatten

theorem encs_take (l : List Int) (k : Nat) (h : k < l.length) : encs (l.take (k + 1)) = encs (l.take k) ++ enc (zig (l.getD k 0)) := by
  unfold encs
  rw [List.take_succ_eq_append_getElem h, List.map_append, List.flatten_append]
  simp [List.getD, h]
theorem encs_drop (l : List Int) (k : Nat) (h : k < l.length) : encs (l.drop k) = enc (zig (l.getD k 0)) ++ encs (l.drop (k + 1)) := by
  unfold encs
  rw [List.drop_eq_getElem_cons h, List.map_cons, List.flatten_cons, show l.getD k 0 = l[k] by simp [List.getD, h]]

/-- the numbers that were kept, and the writer, on the way -/
structure HeadW (w wr : World) (p : Nat) (v1 vb : Value) (k : Nat) (l : List Int) : Prop where
  row : wr.ownsRow 0 3 1 v1 k (iv l)
  wrt : WR wr p vb (encs l) 0
  only : Only (fun _ => False) w wr
  hp : w.heap.size ≤ p
  hb : ∀ b, vb.ownBlock = some b → w.heap.size ≤ b
  h1 : ∀ b, v1.ownBlock = some b → w.heap.size ≤ b ∧ b ≠ p ∧ vb.ownBlock ≠ some b

theorem one_cellI (w : World) (c : Int) (t : TypeId) : ∀ j u, ([Value.int .i64 c] : List Value)[j]? = some u → (w.alloc (.cells #[.int .i64 c] t)).cell? ((Addr.mk w.heap.size 0 none).add j) = some u := by
  intro j u hu
  match j, hu with
  | 0, hu => simp at hu; subst hu; rw [add_none]; simp
  | j + 1, hu => simp at hu

theorem iv_snoc (l : List Int) (k : Nat) (h : k < l.length) : iv (l.take k) ++ [.int .i64 (l.getD k 0)] = iv (l.take (k + 1)) := by
  unfold iv
  rw [List.take_succ_eq_append_getElem h, List.map_append]
  simp [List.getD, h]

theorem HeadW.app {w wr w4 : World} {p : Nat} {v1 v2 vb : Value} {k : Nat} {l : List Int} {o : Obj} (h : HeadW w wr p v1 vb k l) (hgrow : (wr.alloc o).grownBy w4 v1.ownBlock)
    (hk : ∀ b, v2.ownBlock = some b → v1.ownBlock = some b ∨ wr.heap.size + 1 ≤ b) :
    WR w4 p vb (encs l) 0 ∧ Only (fun _ => False) w w4 ∧ (∀ b, v2.ownBlock = some b → w.heap.size ≤ b ∧ b ≠ p ∧ vb.ownBlock ≠ some b) := by
  have ho := Only.of_grown hgrow
  have hwr : WR (wr.alloc o) p vb (encs l) 0 := h.wrt.only (S := fun _ => False) ((Only.refl _ wr).alloc o) (fun f => f) (fun _ _ f => f)
  have hsz := h.only.size
  refine ⟨hwr.only ho (fun e => (h.h1 p e).2.1 rfl) (fun b hb e => (h.h1 b e).2.2 hb), (h.only.alloc o).then ho (fun i hi e => by have := (h.h1 i e).1; omega), ?_⟩
  intro b hb
  rcases hk b hb with h2 | h2
  · exact h.h1 b h2
  · refine ⟨by omega, fun e => by have := h.wrt.lt; omega, fun e => ?_⟩
    rcases h.wrt.own.forms with ⟨hv, _⟩ | ⟨g, c, hv, hg, _⟩
    · rw [hv] at e; cases e
    · rw [hv] at e; simp [Value.ownBlock] at e; omega

theorem HeadW.put {w w4 w5 : World} {p : Nat} {v2 vb : Value} {k : Nat} {l : List Int} {n : Int} (hrow : w4.ownsRow 0 3 1 v2 (k + 1) (iv (l ++ [n]))) (ho : Only (fun _ => False) w w4) (hp : w.heap.size ≤ p)
    (hb : ∀ b, vb.ownBlock = some b → w.heap.size ≤ b) (h2 : ∀ b, v2.ownBlock = some b → w.heap.size ≤ b ∧ b ≠ p ∧ vb.ownBlock ≠ some b)
    (ha : WAfter p vb w4 w5 (encs l ++ enc (zig n)) 0) : ∃ vb', HeadW w w5 p v2 vb' (k + 1) (l ++ [n]) := by
  obtain ⟨vb', hw, ho5, hk5⟩ := ha
  refine ⟨vb', owns_only ho5 hrow ?_, ?_, ho.then ho5 ?_, hp, ?_, ?_⟩
  · rintro b hb' (e | e)
    · exact (h2 b hb').2.1 e
    · exact (h2 b hb').2.2 e
  · have : encs (l ++ [n]) = encs l ++ enc (zig n) := by unfold encs; simp
    rw [this]; exact hw
  · rintro i hi (e | e)
    · omega
    · have := hb i e; omega
  · intro b hb'
    rcases hk5 b hb' with h | h
    · exact hb b h
    · have := ho.size; omega
  · intro b hb'
    refine ⟨(h2 b hb').1, (h2 b hb').2.1, fun e => ?_⟩
    rcases hk5 b e with h | h
    · exact (h2 b hb').2.2 h
    · have := (World.ownsRow.lt hrow b hb').2; omega

theorem encs_len (l : List Int) (hl : ∀ c ∈ l, -9223372036854775808 ≤ c ∧ c ≤ 9223372036854775807) : (encs l).length ≤ 11 * l.length := by
  induction l with
  | nil => simp [encs]
  | cons c l ih =>
    have h1 := ih (fun d hd => hl d (by simp [hd]))
    have h2 : (enc (zig c)).length ≤ 11 := (enc_length _).1
    have e : encs (c :: l) = enc (zig c) ++ encs l := by simp [encs]
    rw [e, List.length_append, List.length_cons]; omega

/-- a row of ints that the call made, read -/
theorem own_readsI {w : World} {v : Value} {k : Nat} {l : List Int} (h : w.ownsRow 0 3 1 v k (iv l)) (hm : k ≤ maxLen) (hb : ∀ c ∈ l, -9223372036854775808 ≤ c ∧ c ≤ 9223372036854775807) : ∃ a cap, v = .slice a k cap ∧ ReadsI w a k l := by
  rcases h.2 with ⟨hv, h0⟩ | ⟨g, cap, cur, hv, _⟩
  · subst hv
    subst h0
    have : l = [] := by have := h.1; rw [iv_length] at this; exact List.eq_nil_of_length_eq_zero (by omega)
    subst this
    exact ⟨none, 0, rfl, rfl, hm, hb, .inl rfl⟩
  · subst hv
    exact ⟨_, _, rfl, ReadsI.of_owns h hm hb⟩

/-- the reader, and what was read, on the way -/
structure HeadR (w2 wr : World) (pr : Nat) (a : Option Addr) (len cap : Nat) (r : List Nat) (v3 : Value) (k : Nat) (l : List Int) : Prop where
  rd : RD wr pr a len cap r 0
  row : wr.ownsRow 0 3 1 v3 k (iv l)
  only : Only (fun _ => False) w2 wr
  hp : w2.heap.size ≤ pr
  ha : ∀ x, a = some x → x.block < wr.heap.size
  h3 : ∀ b, v3.ownBlock = some b → w2.heap.size ≤ b ∧ b ≠ pr ∧ ∀ x, a = some x → x.block ≠ b

theorem HeadR.next {w2 wr w5 w6 : World} {pr : Nat} {a : Option Addr} {len cap : Nat} {r r2 : List Nat} {v3 v4 : Value} {k : Nat} {l : List Int} {n : Int} {o : Obj} (h : HeadR w2 wr pr a len cap r v3 k l) (haf : After pr a wr w5 r2 0)
    (hrow : w6.ownsRow 0 3 1 v4 (k + 1) (iv l ++ [.int .i64 n])) (hgrow : (w5.alloc o).grownBy w6 v3.ownBlock) (hk : ∀ b, v4.ownBlock = some b → v3.ownBlock = some b ∨ w5.heap.size + 1 ≤ b) :
    ∃ a' len' cap', HeadR w2 w6 pr a' len' cap' r2 v4 (k + 1) (l ++ [n]) := by
  obtain ⟨a', len', cap', hrd, ho5, hl⟩ := haf
  have ho6 := Only.of_grown hgrow
  have hz := h.only.size
  have hz5 := ho5.size
  have hz6 := ho6.size
  rw [size_alloc] at hz6
  have hpl : pr < wr.heap.size := World.block_lt_of_cell? wr _ h.rd.c0
  have hal : ∀ x, a' = some x → x.block < wr.heap.size ∧ ∀ b, v3.ownBlock = some b → x.block ≠ b := by
    intro x hx
    obtain ⟨y, hy, hb⟩ := hl x hx
    rw [← hb]
    exact ⟨h.ha y hy, fun b hb3 => (h.h3 b hb3).2.2 y hy⟩
  have hrd6 : RD (w5.alloc o) pr a' len' cap' r2 0 := hrd.only (S := fun _ => False) ((Only.refl _ w5).alloc o) (fun f => f) (fun _ _ f => f)
  refine ⟨a', len', cap', hrd6.only ho6 (fun e => (h.h3 pr e).2.1 rfl) (fun x hx e => (hal x hx).2 _ e rfl), ?_, ?_, h.hp, ?_, ?_⟩
  · have : iv (l ++ [n]) = iv l ++ [.int .i64 n] := by simp [iv]
    rw [this]; exact hrow
  · exact (((h.only.then ho5 (fun i hi e => by have := h.hp; omega)).alloc o).then ho6 (fun i hi e => by have := (h.h3 i e).1; omega))
  · intro x hx
    have := (hal x hx).1
    omega
  · intro b hb
    rcases hk b hb with h4 | h4
    · exact ⟨(h.h3 b h4).1, (h.h3 b h4).2.1, fun x hx => (hal x hx).2 b h4⟩
    · exact ⟨by omega, by omega, fun x hx e => by have := (hal x hx).1; omega⟩

theorem xor_byte {c d : Nat} (hc : c < 256) (hd : d < 256) : bits .xor .u8 (c : Int) (d : Int) = ((c ^^^ d : Nat) : Int) := u8_xor_nat c d hc hd
end Go.Proofs.Ytooffbgcaichmac.ppw
