/- The disk: what an iterator gives, appended. -/
import Derived.Test.YtcbpgplmphgcgaaDsk5
namespace Go.Proofs.Ytcbpgplmphgcgaa.dskw
open Go.RowKit mem Go.Maps
set_option linter.unusedVariables false

theorem put_grown (W : World) (l : Nat) (o : Obj) : W.grownBy (W.putObj l o) (some l) := ⟨rfl, rfl, rfl, by simp, fun k _ hk => World.putObj_heap_other (fun e => hk (by rw [e]))⟩
theorem cell_grown (W : World) (b : Nat) (v : Value) : W.grownBy (W.setCell ⟨b, 0, none⟩ v) (some b) :=
  grown_of (Only.set (fun k => k = b) W b 0 v rfl)

/-- a slice's own row lies in no block that holds something else -/
theorem row_apart {W : World} {base : Nat} {e : TypeId} {size : Nat} {v : Value} {k : Nat} {xs : List Value} (h : W.ownsRow base e size v k xs) {j : Nat} {o : Obj} (hj : W.heap[j]? = some o) (hno : ∀ cur, o ≠ .cells cur e (0, 0)) : v.ownBlock = none ∨ v.ownBlock ≠ some j := by
  rcases h.2 with ⟨hv, _⟩ | ⟨g, cap, cur, hv, _, hgb, _⟩
  · left; rw [hv]; rfl
  · right
    rw [hv]
    intro e'
    have e2 : g = j := by simpa [Value.ownBlock] using e'
    rw [e2, hj] at hgb
    exact hno cur (Option.some.inj hgb)
theorem row_apart' {W : World} {base : Nat} {e : TypeId} {size : Nat} {v : Value} {k : Nat} {xs : List Value} (h : W.ownsRow base e size v k xs) {j : Nat} {o : Obj} (hj : W.heap[j]? = some o) (hno : ∀ cur, o ≠ .cells cur e (0, 0)) : some j ≠ v.ownBlock := by
  rcases row_apart h hj hno with e1 | e1
  · rw [e1]; simp
  · exact fun e2 => e1 e2.symm
theorem row_still {W W' : World} {row : Option Nat} {base : Nat} {e : TypeId} {size : Nat} {v : Value} {k : Nat} {xs : List Value} (h : W.ownsRow base e size v k xs) (hg : W.grownBy W' row) (hrow : ∀ r, row = some r → ∃ o : Obj, W.heap[r]? = some o ∧ o.isWalk = true) : W'.ownsRow base e size v k xs := by
  refine h.kept hg ?_
  cases hr : row with
  | none =>
    cases hb : v.ownBlock with
    | none => exact .inl rfl
    | some j => exact .inr (by simp)
  | some r =>
    obtain ⟨o, ho, hw⟩ := hrow r hr
    exact row_apart h ho (fun cur e' => by rw [e'] at hw; cases hw)
theorem row_walk {W : World} {base : Nat} {e : TypeId} {size : Nat} {v : Value} {k : Nat} {xs : List Value} (h : W.ownsRow base e size v k xs) : ∀ (j : Nat) (o : Obj), v.ownBlock = some j → W.heap[j]? = some o → o.isWalk = false := by
  intro j o hj ho
  cases hw : o.isWalk with
  | false => rfl
  | true =>
    rcases row_apart h ho (fun cur e' => by rw [e'] at hw; cases hw) with e1 | e1
    · rw [hj] at e1; cases e1
    · exact absurd hj e1
theorem box_cell {W : World} {B : Nat} {v : Value} {t : TypeId} (h : W.heap[B]? = some (.cells #[v] t (0, 0))) : W.cell? ⟨B, 0, none⟩ = some v ∧ W.frozen? ⟨B, 0, none⟩ = false := by
  constructor <;> simp [World.cell?, World.frozen?, h]
theorem box_set {W : World} {B : Nat} {v : Value} {t : TypeId} (v' : Value) (h : W.heap[B]? = some (.cells #[v] t (0, 0))) : (W.setCell ⟨B, 0, none⟩ v').heap[B]? = some (.cells #[v'] t (0, 0)) := by
  obtain ⟨hlt, hk⟩ := Array.getElem?_eq_some_iff.1 h
  show (W.heap.modify B _)[B]? = _
  rw [Array.getElem?_eq_getElem (by rw [Array.size_modify]; exact hlt), Array.getElem_modify_self, hk]
  rfl

/-- the round of AppendSeq's loop, as the program has it -/
def apA : Code := .region 2 #[{ dst := some 5, op := Op.assign (Operand.tmp 7), type := 3, pos := "iter.go:51", after := #[], guard := none }] false
def apB : Code := .block 1 (.region 3 #[{ dst := some 8, op := Op.load 51 (Operand.tmp 2), type := 51, pos := "iter.go:52", after := #[], guard := none }, { dst := some 9, op := Op.move (Operand.tmp 5), type := 3, pos := "iter.go:52", after := #[], guard := none }, { dst := some 10, op := Op.buildSlice 51 1 #[(0, Operand.tmp 9)], type := 51, pos := "iter.go:52", after := #[{ on := 1, ground := Ground.data }], guard := none }, { dst := some 11, op := Op.call { callee := Callee.builtin Builtin.append, args := #[Operand.tmp 8, Operand.tmp 10], argTypes := #[51, 51] }, type := 51, pos := "iter.go:52", after := #[{ on := 0, ground := Ground.data }, { on := 2, ground := Ground.data }], guard := none }, { dst := none, op := Op.store 51 (Operand.tmp 2) (Operand.tmp 11), type := 0, pos := "iter.go:52", after := #[{ on := 3, ground := Ground.data }, { on := 3, ground := Ground.chain }, { on := 0, ground := Ground.phase }, { on := 1, ground := Ground.phase }, { on := 2, ground := Ground.phase }, { on := 3, ground := Ground.phase }], guard := none }] false)
def apR (fn : FuncId) (sv : Value) (Bs D : Nat) (st : LoopState) (pend : Option Code) : Loop :=
  { state := st, pending := pend, fn, tmps := #[.slice none 0 0, sv, .pointer (some ⟨Bs, 0, none⟩), undef, .slice none 0 0, undef, sv, undef, undef, undef, undef, undef, undef], params := #[7], assign := apA, body := apB, defers := D }

/-- between two rounds -/
structure Got (w0 : World) (fn : FuncId) (sv : Value) (Bs l D : Nat) (ss : List Nat) (W : World) : Prop where
  box : ∃ v, W.heap[Bs]? = some (.cells #[v] 51 (0, 0)) ∧ W.ownsRow w0.heap.size 3 1 v ss.length (ss.map encN) ∧ (v = .slice none 0 0 ↔ ss = [])
  loop : W.heap[l]? = some (.loop (apR fn sv Bs D .ready none))
  later : W.heap[D]? = some (.deferred (some []))
  below : Below w0.heap.size w0 W

theorem Got.abides (w0 : World) (fn : FuncId) (sv : Value) (Bs l D B : Nat) (hB : w0.heap.size ≤ B) : AbidesFrom B (Got w0 fn sv Bs l D) := by
  intro s W W' row h hg hrow
  have hr := fun r e => (hrow r e).2
  obtain ⟨v, hv, ho, hn⟩ := h.box
  refine ⟨⟨v, ?_, row_still ho hg hr, hn⟩, ?_, ?_, h.below.grown hg h.below.size (fun k e => Nat.le_trans hB (hrow k e).1)⟩
  · rw [grownBy_keeps hg hr hv rfl]; exact hv
  · rw [grownBy_keeps hg hr h.loop rfl]; exact h.loop
  · rw [grownBy_keeps hg hr h.later rfl]; exact h.later

theorem info_int : (Try.prog.info? 3).map (fun i => (i.zero, i.size, i.bytes)) = some (some (.int .i64 0), 1, 8) := by kernel_rfl

set_option maxRecDepth 100000 in
set_option maxHeartbeats 2000000 in
/-- one round -/
theorem got_round (F : Fence) (k : Nat) (w0 : World) (fn : FuncId) (hfn : F.fn fn) (sv : Value) (Bs l D : Nat) (hBl : Bs ≠ l) (hDl : D ≠ l) (hDB : D ≠ Bs) (h0B : w0.heap.size ≤ Bs) (h0l : w0.heap.size ≤ l)
    (N : Nat) (hN : N ≤ 8192) (ss : List Nat) (x : Nat) (W : World) (h : Got w0 fn sv Bs l D ss W) (hlen : ss.length < N) :
    YieldAt F k Try.prog l #[encN x] W fun e W' => e = .returned (.bool true) ∧ Got w0 fn sv Bs l D (ss ++ [x]) W' ∧ KeepsWalks W W' := by
  obtain ⟨i0, hi, hz0, hz1, hz2⟩ := info_parts info_int
  obtain ⟨v, hv, hrow, _⟩ := h.box
  refine ⟨fn, #[.slice none 0 0, sv, .pointer (some ⟨Bs, 0, none⟩), undef, .slice none 0 0, undef, sv, .int .i64 (x : Int), undef, undef, undef, undef, undef], apA, apB, by simpa [apR, encN] using run_yield (P := Try.prog) (args := #[encN x]) h.loop rfl, roundIn_of_wpIn hfn ?_⟩
  have hl : l < W.heap.size := (Array.getElem?_eq_some_iff.1 h.loop).1
  have hbr := run_beginRound (P := Try.prog) h.loop rfl
  obtain ⟨W2, hW2⟩ : ∃ W2, W.putObj l (.loop { apR fn sv Bs D .ready none with state := .busy }) = W2 := ⟨_, rfl⟩
  rw [hW2] at hbr
  have hg2 : W.grownBy W2 (some l) := by rw [← hW2]; exact put_grown _ _ _
  have hk2 : KeepsWalks W W2 := by rw [← hW2]; exact KeepsWalks.putObj _ h.loop rfl
  have hv2 : W2.heap[Bs]? = some (.cells #[v] 51 (0, 0)) := by rw [← hW2]; exact (World.putObj_heap_other hBl).trans hv
  have hK2 : W2.heap[D]? = some (.deferred (some [])) := by rw [← hW2]; exact (World.putObj_heap_other hDl).trans h.later
  have hL2 : W2.heap[l]? = some (.loop { apR fn sv Bs D .ready none with state := .busy }) := by rw [← hW2]; exact World.putObj_heap_same hl
  have hrow2 : W2.ownsRow w0.heap.size 3 1 v ss.length (ss.map encN) := hrow.kept hg2 (row_apart hrow h.loop (fun cur e => by cases e))
  have hb2 : Below w0.heap.size w0 W2 := h.below.grown hg2 h.below.size (fun k e => by cases e; exact h0l)
  obtain ⟨hc2, hf2⟩ := box_cell hv2
  have hBlt : Bs < W2.heap.size := (Array.getElem?_eq_some_iff.1 hv2).1
  have hl2 : l < W2.heap.size := (Array.getElem?_eq_some_iff.1 hL2).1
  have hDlt : D < W2.heap.size := (Array.getElem?_eq_some_iff.1 hK2).1
  have hbs := hb2.size
  clear hW2
  unfold apA
  gi_wp2
  unfold apB
  have HROW := Lib.hid hrow2
  have HX : Hid (W2.heap[Bs]? = some (.cells #[v] 51 (0, 0)) ∧ W2.heap[D]? = some (.deferred (some [])) ∧ W2.heap[l]? = some (.loop { apR fn sv Bs D .ready none with state := .busy })) := Lib.hid ⟨hv2, hK2, hL2⟩
  clear hv2 hK2 hL2 hg2 hbr
  gi_wp2_with (first
    | (gi_at_builtin
       refine wpListIn_append_own _ rfl _ _ 51 rfl w0.heap.size 3 i0 (.int .i64 0) 1 8 Try.underlying51 hi hz0 hz1 hz2 rfl (by decide) _ _ _ rfl (HROW.out.alloc _) ⟨W2.heap.size, 0, none⟩ 1 1 [encN x] rfl rfl (cell_one_new _ _ _) (by simp [Value.oneCell', encN]) (by unfold maxLen; omega) (by omega) (by simp; omega) ?_
       intro v' w3 hown' hg3 hnil3
       have HG3 := Lib.hid hg3
       have HOWN := Lib.hid hown'
       obtain ⟨hb3, hc3, hf3, hv'⟩ : w3.heap[Bs]? = some (.cells #[v] 51 (0, 0)) ∧ w3.cell? ⟨Bs, 0, none⟩ = some v ∧ w3.frozen? ⟨Bs, 0, none⟩ = false ∧ ∃ g' cap', v' = .slice (some ⟨g', 0, none⟩) (ss.length + 1) cap' := by
         have hv3 : w3.heap[Bs]? = some (.cells #[v] 51 (0, 0)) := (hg3.block Bs (by simp; omega) (row_apart' HROW.out HX.out.1 (fun cur e => by cases e))).trans ((Below.heap_alloc _ _ Bs hBlt).trans HX.out.1)
         refine ⟨hv3, (box_cell hv3).1, (box_cell hv3).2, ?_⟩
         rcases hown'.2 with ⟨_, h0⟩ | ⟨g', cap', cur', h1, _⟩
         · exact absurd h0 (by omega)
         · exact ⟨g', cap', h1⟩
       obtain ⟨g', cap', rfl⟩ := hv'
       have HB3 := Lib.hid hb3
       clear hown' hg3 hb3
       go_frame)
    | (rw [Oper.semAt_eq _ _ _ (fun c h => by cases h)]; go_simp; try go_bits))
  have hO := HX.out
  have hL3 : w3.heap[l]? = some (.loop { apR fn sv Bs D .ready none with state := .busy }) := (HG3.out.block l (by simp; omega) (row_apart' HROW.out hO.2.2 (fun cur e => by cases e))).trans ((Below.heap_alloc _ _ l hl2).trans hO.2.2)
  have hK3 : w3.heap[D]? = some (.deferred (some [])) := (HG3.out.block D (by simp; omega) (row_apart' HROW.out hO.2.1 (fun cur e => by cases e))).trans ((Below.heap_alloc _ _ D hDlt).trans hO.2.1)
  obtain ⟨w4, hw4⟩ : ∃ w4, w3.setCell ⟨Bs, 0, none⟩ (.slice (some ⟨g', 0, none⟩) (ss.length + 1) cap') = w4 := ⟨_, rfl⟩
  rw [hw4]
  have hg4 : w3.grownBy w4 (some Bs) := by rw [← hw4]; exact cell_grown _ _ _
  have hv4 : w4.heap[Bs]? = some (.cells #[.slice (some ⟨g', 0, none⟩) (ss.length + 1) cap'] 51 (0, 0)) := by rw [← hw4]; exact box_set _ HB3.out
  have hL4 := (hg4.block l (Array.getElem?_eq_some_iff.1 hL3).1 (fun e => hBl (by cases e; rfl))).trans hL3
  have hK4 := (hg4.block D (Array.getElem?_eq_some_iff.1 hK3).1 (fun e => hDB (by cases e; rfl))).trans hK3
  have hrow4 := HOWN.out.kept hg4 (row_apart HOWN.out HB3.out (fun cur e => by cases e))
  have hb3 : Below w0.heap.size w0 w3 := (hb2.alloc hb2.size _).grown HG3.out (by simp; omega) (fun k e => (HROW.out.lt k e).1)
  have hb4 : Below w0.heap.size w0 w4 := hb3.grown hg4 hb3.size (fun k e => by cases e; exact h0B)
  have hk4 : KeepsWalks W w4 := ((hk2.trans (KeepsWalks.alloc _ _)).trans (KeepsWalks.of_grownBy HG3.out (row_walk (HROW.out.alloc _)))).trans (by rw [← hw4]; exact KeepsWalks.setCell _ _ _)
  clear hw4
  have hp5 := put_grown w4 l (.loop { { apR fn sv Bs D .ready none with state := .busy } with state := if (none : Option Code).isNone then .ready else .done, pending := none })
  refine ⟨_, _, run_endRound none hL4, rfl, ⟨⟨_, (World.putObj_heap_other hBl).trans hv4, ?_, by simp⟩, World.putObj_heap_same (Array.getElem?_eq_some_iff.1 hL4).1, (World.putObj_heap_other hDl).trans hK4, hb4.grown hp5 hb4.size (fun k e => by cases e; exact h0l)⟩, hk4.trans (KeepsWalks.putObj _ hL4 rfl)⟩
  have := hrow4.kept hp5 (row_apart hrow4 hL4 (fun cur e => by cases e))
  simpa using this
end Go.Proofs.Ytcbpgplmphgcgaa.dskw
