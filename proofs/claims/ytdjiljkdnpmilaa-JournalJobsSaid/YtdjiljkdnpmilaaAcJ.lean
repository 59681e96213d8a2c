/- An iterator over accounts: keys; what it gives, appended. -/
import Derived.Test.YtdjiljkdnpmilaaAcI
namespace Go.Proofs.Ytdjiljkdnpmilaa.acck
open Go.RowKit mem Go.WideShapes Go.ChangeMaps Go.WideMaps Go.Maps accm accn
set_option linter.unusedVariables false

theorem keys_in (F : Fence) (k : Nat) (hf : F.fn 38) (hro : F.round = none) (mb : Option Nat) (w : World) :
    CallsIn F k Try.prog 38 #[.map mb] w fun e w' => e = .returned (.func (.func 56) #[] #[.pointer (some ⟨w.heap.size, 0, none⟩)]) ∧ w' = w.alloc (.cells #[.map mb] 81) := by
  refine callsIn_of_wp Try.func38 rfl hf ?_ hro
  simp only [Try.ntmps38, List.size_toArray, List.length_cons, List.length_nil, Nat.reduceAdd, Nat.reduceSub, Array.replicate_succ, Array.replicate_zero, List.push_toArray, List.append_toArray, List.nil_append, List.cons_append]
  gi_wp2
  go_ret
  exact ⟨rfl, rfl⟩
theorem keys_give (F : Fence) (k : Nat) (hf : F.fn 56) (hro : F.round = none) (hk : 1 ≤ k) (Bm b n : Nat) (C : Ac → Option (List Int)) (w : World) (hBm : Bm < w.heap.size)
    (hm : w.cell? ⟨Bm, 0, none⟩ = some (.map (some b))) (hown : MapA w b n C) :
    SeqGives F k Try.prog 56 #[.pointer (some ⟨Bm, 0, none⟩)] acc (fun ss => KeysOf C ss ∧ ss.length ≤ n) n w := fun l J W hW hJ hY h0 =>
  keys1_in F k hf hro hk l Bm b n C J hY W hJ ((hW.cell (p := ⟨Bm, 0, none⟩) hBm).trans hm) (MapA.below hown hW) h0


theorem put_grown (W : World) (l : Nat) (o : Obj) : W.grownBy (W.putObj l o) (some l) := ⟨rfl, rfl, rfl, by simp, fun k _ hk => World.putObj_heap_other (fun e => hk (by rw [e]))⟩
theorem cell_grown (W : World) (b : Nat) (v : Value) : W.grownBy (W.setCell ⟨b, 0, none⟩ v) (some b) :=
  grown_of (Only.set (fun k => k = b) W b 0 v rfl)
theorem row_apart {W : World} {base : Nat} {e : TypeId} {size : Nat} {v : Value} {k : Nat} {xs : List Value} (h : W.ownsRow base e size v k xs) {j : Nat} {o : Obj} (hj : W.heap[j]? = some o) (hno : ∀ cur, o ≠ .cells cur e (0, 0)) : v.ownBlock = none ∨ v.ownBlock ≠ some j := by
  rcases h.2 with ⟨hv, _⟩ | ⟨g, cap, cur, hv, _, hgb, _⟩
  · left; rw [hv]; rfl
  · right
    rw [hv]
    intro e'
    have e2 : g = j := by simpa [Value.ownBlock] using e'
    rw [e2, hj] at hgb
    exact hno cur (Option.some.inj hgb)
theorem row_apart' {W : World} {base : Nat} {e : TypeId} {size : Nat} {v : Value} {k : Nat} {xs : List Value} (h : W.ownsRow base e size v k xs) {j : Nat} {o : Obj} (hj : W.heap[j]? = some o) (hno : ∀ cur, o ≠ .cells cur e (0, 0)) : some j ≠ v.ownBlock := by
  rcases row_apart h hj hno with e1 | e1
  · rw [e1]; simp
  · exact fun e2 => e1 e2.symm
theorem row_still {W W' : World} {row : Option Nat} {base : Nat} {e : TypeId} {size : Nat} {v : Value} {k : Nat} {xs : List Value} (h : W.ownsRow base e size v k xs) (hg : W.grownBy W' row) (hrow : ∀ r, row = some r → ∃ o : Obj, W.heap[r]? = some o ∧ o.isWalk = true) : W'.ownsRow base e size v k xs := by
  refine h.kept hg ?_
  cases hr : row with
  | none =>
    cases hb : v.ownBlock with
    | none => exact .inl rfl
    | some j => exact .inr (by simp)
  | some r =>
    obtain ⟨o, ho, hw⟩ := hrow r hr
    exact row_apart h ho (fun cur e' => by rw [e'] at hw; cases hw)
theorem row_walk {W : World} {base : Nat} {e : TypeId} {size : Nat} {v : Value} {k : Nat} {xs : List Value} (h : W.ownsRow base e size v k xs) : ∀ (j : Nat) (o : Obj), v.ownBlock = some j → W.heap[j]? = some o → o.isWalk = false := by
  intro j o hj ho
  cases hw : o.isWalk with
  | false => rfl
  | true =>
    rcases row_apart h ho (fun cur e' => by rw [e'] at hw; cases hw) with e1 | e1
    · rw [hj] at e1; cases e1
    · exact absurd hj e1
theorem box_cell {W : World} {B : Nat} {v : Value} {t : TypeId} (h : W.heap[B]? = some (.cells #[v] t (0, 0))) : W.cell? ⟨B, 0, none⟩ = some v ∧ W.frozen? ⟨B, 0, none⟩ = false := by
  constructor <;> simp [World.cell?, World.frozen?, h]
theorem box_set {W : World} {B : Nat} {v : Value} {t : TypeId} (v' : Value) (h : W.heap[B]? = some (.cells #[v] t (0, 0))) : (W.setCell ⟨B, 0, none⟩ v').heap[B]? = some (.cells #[v'] t (0, 0)) := by
  obtain ⟨hlt, hk⟩ := Array.getElem?_eq_some_iff.1 h
  show (W.heap.modify B _)[B]? = _
  rw [Array.getElem?_eq_getElem (by rw [Array.size_modify]; exact hlt), Array.getElem_modify_self, hk]
  rfl
def encA (a : Ac) : List Value := [.int .i64 a.k, .int .i64 a.n, .int .i64 a.g]
def av (ss : List Ac) : List Value := ss.flatMap encA
theorem av_append (a b : List Ac) : av (a ++ b) = av a ++ av b := by simp [av]
theorem av_length (ss : List Ac) : (av ss).length = ss.length * 3 := by
  induction ss with
  | nil => rfl
  | cons x r ih => show (encA x ++ av r).length = _; rw [List.length_append, ih, List.length_cons]; simp [encA]; omega
theorem alloc_newA (W : World) (cs : Array Value) (t : TypeId) (g i : Nat) (v : Value) (hg : g = W.heap.size) (h : cs[i]? = some v) : (W.alloc (.cells cs t)).cell? ⟨g, i, none⟩ = some v := by
  subst hg
  rw [Go.Joins.cell_of_block (cs := cs) (t := t) (fr := (0, 0)) (by rw [heap_alloc, if_pos rfl]), h]
theorem news_acc {W : World} {g : Nat} (x : Ac) (hg : g = W.heap.size) (t : TypeId) : ∀ j u, (encA x)[j]? = some u → (W.alloc (.cells #[.int .i64 x.k, .int .i64 x.n, .int .i64 x.g] t)).cell? ((Addr.mk g 0 none).add j) = some u := by
  intro j u h
  rw [mem.add_none, Nat.zero_add]
  exact alloc_newA _ _ _ _ _ _ hg (by rw [← h]; simp [encA])
theorem heap_two (W : World) (o1 o2 : Obj) (B : Nat) (h : B < W.heap.size) : ((W.alloc o1).alloc o2).heap[B]? = W.heap[B]? := (Below.heap_alloc _ _ B (by simp; omega)).trans (Below.heap_alloc _ _ B h)

def apA : Code := .region 2 #[{ dst := some 5, op := Op.alloc 38, type := 0, pos := "iter.go:51", after := #[], guard := none }, { dst := none, op := Op.store 38 (Operand.tmp 5) (Operand.tmp 7), type := 0, pos := "iter.go:51", after := #[{ on := 0, ground := Ground.data }, { on := 0, ground := Ground.phase }], guard := none }] false
def apB : Code := .block 1 (.region 3 #[{ dst := some 8, op := Op.load 55 (Operand.tmp 2), type := 55, pos := "iter.go:52", after := #[], guard := none }, { dst := some 9, op := Op.load 38 (Operand.tmp 5), type := 38, pos := "iter.go:52", after := #[], guard := none }, { dst := some 10, op := Op.buildSlice 55 1 #[(0, Operand.tmp 9)], type := 55, pos := "iter.go:52", after := #[{ on := 1, ground := Ground.data }], guard := none }, { dst := some 11, op := Op.call { callee := Callee.builtin Builtin.append, args := #[Operand.tmp 8, Operand.tmp 10], argTypes := #[55, 55] }, type := 55, pos := "iter.go:52", after := #[{ on := 0, ground := Ground.data }, { on := 2, ground := Ground.data }], guard := none }, { dst := none, op := Op.store 55 (Operand.tmp 2) (Operand.tmp 11), type := 0, pos := "iter.go:52", after := #[{ on := 3, ground := Ground.data }, { on := 3, ground := Ground.chain }, { on := 0, ground := Ground.phase }, { on := 1, ground := Ground.phase }, { on := 2, ground := Ground.phase }, { on := 3, ground := Ground.phase }], guard := none }] false)
def apR (fn : FuncId) (sv : Value) (Bs D : Nat) (st : LoopState) (pend : Option Code) : Loop :=
  { state := st, pending := pend, fn, tmps := #[.slice none 0 0, sv, .pointer (some ⟨Bs, 0, none⟩), undef, .slice none 0 0, undef, sv, undef, undef, undef, undef, undef, undef], params := #[7], assign := apA, body := apB, defers := D }

/-- between two rounds -/
structure Got (w0 : World) (fn : FuncId) (sv : Value) (Bs l D : Nat) (ss : List Ac) (W : World) : Prop where
  box : ∃ v, W.heap[Bs]? = some (.cells #[v] 55 (0, 0)) ∧ W.ownsRow w0.heap.size 38 3 v ss.length (av ss) ∧ (v = .slice none 0 0 ↔ ss = [])
  loop : W.heap[l]? = some (.loop (apR fn sv Bs D .ready none))
  later : W.heap[D]? = some (.deferred (some []))
  below : Below w0.heap.size w0 W

theorem Got.abides (w0 : World) (fn : FuncId) (sv : Value) (Bs l D B : Nat) (hB : w0.heap.size ≤ B) : AbidesFrom B (Got w0 fn sv Bs l D) := by
  intro s W W' row h hg hrow
  have hr := fun r e => (hrow r e).2
  obtain ⟨v, hv, ho, hn⟩ := h.box
  refine ⟨⟨v, ?_, row_still ho hg hr, hn⟩, ?_, ?_, h.below.grown hg h.below.size (fun k e => Nat.le_trans hB (hrow k e).1)⟩
  · rw [grownBy_keeps hg hr hv rfl]; exact hv
  · rw [grownBy_keeps hg hr h.loop rfl]; exact h.loop
  · rw [grownBy_keeps hg hr h.later rfl]; exact h.later

theorem info_acc : (Try.prog.info? 38).map (fun i => (i.zero, i.size, i.bytes)) = some (some (Value.agg #[.int .i64 0, .int .i64 0, .int .i64 0]), 3, 24) := by kernel_rfl
theorem info_partsA {o : Option TypeInfo} {z : Value} {a b : Nat} (h : o.map (fun i => (i.zero, i.size, i.bytes)) = some (some z, a, b)) : ∃ i, o = some i ∧ i.zero = some z ∧ i.size = a ∧ i.bytes = b := by
  obtain ⟨i, h1, h2⟩ := Option.map_eq_some_iff.1 h
  exact ⟨i, h1, by simpa using h2⟩

set_option maxRecDepth 100000 in
set_option maxHeartbeats 2000000 in
/-- one round -/
theorem got_round (F : Fence) (k : Nat) (w0 : World) (fn : FuncId) (hfn : F.fn fn) (sv : Value) (Bs l D : Nat) (hBl : Bs ≠ l) (hDl : D ≠ l) (hDB : D ≠ Bs) (h0B : w0.heap.size ≤ Bs) (h0l : w0.heap.size ≤ l)
    (N : Nat) (hN : N ≤ 20000000) (ss : List Ac) (x : Ac) (W : World) (h : Got w0 fn sv Bs l D ss W) (hlen : ss.length < N) :
    YieldAt F k Try.prog l #[acc x] W fun e W' => e = .returned (.bool true) ∧ Got w0 fn sv Bs l D (ss ++ [x]) W' ∧ KeepsWalks W W' := by
  obtain ⟨i0, hi, hz0, hz1, hz2⟩ := info_partsA info_acc
  obtain ⟨v, hv, hrow, _⟩ := h.box
  obtain ⟨xk, xn, xg⟩ := x
  refine ⟨fn, #[.slice none 0 0, sv, .pointer (some ⟨Bs, 0, none⟩), undef, .slice none 0 0, undef, sv, .agg #[.int .i64 xk, .int .i64 xn, .int .i64 xg], undef, undef, undef, undef, undef], apA, apB, by simpa [apR, acc, accV] using run_yield (P := Try.prog) (args := #[acc ⟨xk, xn, xg⟩]) h.loop rfl, roundIn_of_wpIn hfn ?_⟩
  have hl0 : l < W.heap.size := (Array.getElem?_eq_some_iff.1 h.loop).1
  have hB0 : Bs < W.heap.size := (Array.getElem?_eq_some_iff.1 hv).1
  have h1 : Got w0 fn sv Bs l D ss (W.alloc (.cells #[.int .i64 xk, .int .i64 xn, .int .i64 xg] 38)) := Got.abides w0 fn sv Bs l D w0.heap.size (Nat.le_refl _) ss W _ none h (World.grownBy_alloc _ _ none) (fun r e => by cases e)
  have hbr := run_beginRound (P := Try.prog) h1.loop rfl
  have HKA : Hid (KeepsWalks W (W.alloc (.cells #[.int .i64 xk, .int .i64 xn, .int .i64 xg] 38))) := Lib.hid (KeepsWalks.alloc _ _)
  obtain ⟨v, hv, hrow, _⟩ := h1.box
  have k0 : (W.alloc (.cells #[.int .i64 xk, .int .i64 xn, .int .i64 xg] 38)).heap[W.heap.size]? = some (.cells #[.int .i64 xk, .int .i64 xn, .int .i64 xg] 38 (0, 0)) := World.alloc_heap_new W _
  obtain ⟨q1, hq1⟩ : ∃ x, x = W.heap.size := ⟨_, rfl⟩
  have HW1 : Hid (∃ x, x = W.alloc (.cells #[.int .i64 xk, .int .i64 xn, .int .i64 xg] 38)) := Lib.hid ⟨_, rfl⟩
  obtain ⟨W1, hW1⟩ := HW1.out
  rw [← hW1] at h1 hbr HKA hv hrow k0
  rw [← hq1] at k0
  have hl : l < W1.heap.size := (Array.getElem?_eq_some_iff.1 h1.loop).1
  obtain ⟨W2, hW2⟩ : ∃ W2, W1.putObj l (.loop { apR fn sv Bs D .ready none with state := .busy }) = W2 := ⟨_, rfl⟩
  rw [hW2] at hbr
  have hg2 : W1.grownBy W2 (some l) := by rw [← hW2]; exact put_grown _ _ _
  have hk2 : KeepsWalks W W2 := HKA.out.trans (by rw [← hW2]; exact KeepsWalks.putObj _ h1.loop rfl)
  have hv2 : W2.heap[Bs]? = some (.cells #[v] 55 (0, 0)) := by rw [← hW2]; exact (World.putObj_heap_other hBl).trans hv
  have hK2 : W2.heap[D]? = some (.deferred (some [])) := by rw [← hW2]; exact (World.putObj_heap_other hDl).trans h1.later
  have hL2 : W2.heap[l]? = some (.loop { apR fn sv Bs D .ready none with state := .busy }) := by rw [← hW2]; exact World.putObj_heap_same hl
  have hrow2 : W2.ownsRow w0.heap.size 38 3 v ss.length (av ss) := hrow.kept hg2 (row_apart hrow h1.loop (fun cur e => by cases e))
  have hb2 : Below w0.heap.size w0 W2 := h1.below.grown hg2 h1.below.size (fun k e => by cases e; exact h0l)
  have k2 : W2.heap[q1]? = some (.cells #[.int .i64 xk, .int .i64 xn, .int .i64 xg] 38 (0, 0)) := by rw [← hW2]; exact (World.putObj_heap_other (by omega)).trans k0
  have d0 : W2.cell? ⟨q1, 0, none⟩ = some (.int .i64 xk) := by simp [World.cell?, k2]
  have d1 : W2.cell? ⟨q1, 1, none⟩ = some (.int .i64 xn) := by simp [World.cell?, k2]
  have d2 : W2.cell? ⟨q1, 2, none⟩ = some (.int .i64 xg) := by simp [World.cell?, k2]
  obtain ⟨hc2, hf2⟩ := box_cell hv2
  have hBlt : Bs < W2.heap.size := (Array.getElem?_eq_some_iff.1 hv2).1
  have hl2 : l < W2.heap.size := (Array.getElem?_eq_some_iff.1 hL2).1
  have hDlt : D < W2.heap.size := (Array.getElem?_eq_some_iff.1 hK2).1
  have hbs := hb2.size
  rw [hW1] at hbr
  clear hW1 k0 k2 hl h1
  clear hW2
  unfold apA
  gi_wp2_with (rw [Oper.semAt_eq _ _ _ (fun c h => by cases h)]; go_simp; try go_bits)
  simp only [← hq1]
  clear hq1
  unfold apB
  have HROW := Lib.hid hrow2
  have HX : Hid (W2.heap[Bs]? = some (.cells #[v] 55 (0, 0)) ∧ W2.heap[D]? = some (.deferred (some [])) ∧ W2.heap[l]? = some (.loop { apR fn sv Bs D .ready none with state := .busy })) := Lib.hid ⟨hv2, hK2, hL2⟩
  clear hv2 hK2 hL2 hg2 hbr
  gi_wp2_with (first
    | (gi_at_builtin
       refine wpListIn_append_own _ rfl _ _ 55 rfl w0.heap.size 38 i0 _ 3 24 Try.underlying55 hi hz0 hz1 hz2 rfl (by decide) _ _ _ rfl (HROW.out.alloc _) ⟨W2.heap.size, 0, none⟩ 1 1 (encA ⟨xk, xn, xg⟩) rfl rfl (news_acc ⟨xk, xn, xg⟩ rfl _) (by simp [Value.oneCell', encA]) (by unfold maxLen; omega) (by omega) (by simp; omega) ?_
       intro v' w3 hown' hg3 hnil3
       have HG3 := Lib.hid hg3
       have HOWN := Lib.hid hown'
       obtain ⟨hb3, hc3, hf3, hv'⟩ : w3.heap[Bs]? = some (.cells #[v] 55 (0, 0)) ∧ w3.cell? ⟨Bs, 0, none⟩ = some v ∧ w3.frozen? ⟨Bs, 0, none⟩ = false ∧ ∃ g' cap', v' = .slice (some ⟨g', 0, none⟩) (ss.length + 1) cap' := by
         have hv3 : w3.heap[Bs]? = some (.cells #[v] 55 (0, 0)) := (hg3.block Bs (by simp; omega) (row_apart' HROW.out HX.out.1 (fun cur e => by cases e))).trans ((Below.heap_alloc _ _ Bs hBlt).trans HX.out.1)
         refine ⟨hv3, (box_cell hv3).1, (box_cell hv3).2, ?_⟩
         rcases hown'.2 with ⟨_, h0⟩ | ⟨g', cap', cur', h1, _⟩
         · exact absurd h0 (by omega)
         · exact ⟨g', cap', h1⟩
       obtain ⟨g', cap', rfl⟩ := hv'
       have HB3 := Lib.hid hb3
       clear hown' hg3 hb3
       go_frame)
    | (rw [Oper.semAt_eq _ _ _ (fun c h => by cases h)]; go_simp; try go_bits))
  have hO := HX.out
  have hL3 : w3.heap[l]? = some (.loop { apR fn sv Bs D .ready none with state := .busy }) := (HG3.out.block l (by simp; omega) (row_apart' HROW.out hO.2.2 (fun cur e => by cases e))).trans ((Below.heap_alloc _ _ l hl2).trans hO.2.2)
  have hK3 : w3.heap[D]? = some (.deferred (some [])) := (HG3.out.block D (by simp; omega) (row_apart' HROW.out hO.2.1 (fun cur e => by cases e))).trans ((Below.heap_alloc _ _ D hDlt).trans hO.2.1)
  obtain ⟨w4, hw4⟩ : ∃ w4, w3.setCell ⟨Bs, 0, none⟩ (.slice (some ⟨g', 0, none⟩) (ss.length + 1) cap') = w4 := ⟨_, rfl⟩
  rw [hw4]
  have hg4 : w3.grownBy w4 (some Bs) := by rw [← hw4]; exact cell_grown _ _ _
  have hv4 : w4.heap[Bs]? = some (.cells #[.slice (some ⟨g', 0, none⟩) (ss.length + 1) cap'] 55 (0, 0)) := by rw [← hw4]; exact box_set _ HB3.out
  have hL4 := (hg4.block l (Array.getElem?_eq_some_iff.1 hL3).1 (fun e => hBl (by cases e; rfl))).trans hL3
  have hK4 := (hg4.block D (Array.getElem?_eq_some_iff.1 hK3).1 (fun e => hDB (by cases e; rfl))).trans hK3
  have hrow4 := HOWN.out.kept hg4 (row_apart HOWN.out HB3.out (fun cur e => by cases e))
  have hb3 : Below w0.heap.size w0 w3 := (hb2.alloc hb2.size _).grown HG3.out (by simp; omega) (fun k e => (HROW.out.lt k e).1)
  have hb4 : Below w0.heap.size w0 w4 := hb3.grown hg4 hb3.size (fun k e => by cases e; exact h0B)
  have hk4 : KeepsWalks W w4 := ((hk2.trans (KeepsWalks.alloc _ _)).trans (KeepsWalks.of_grownBy HG3.out (row_walk (HROW.out.alloc _)))).trans (by rw [← hw4]; exact KeepsWalks.setCell _ _ _)
  clear hw4
  have hp5 := put_grown w4 l (.loop { { apR fn sv Bs D .ready none with state := .busy } with state := if (none : Option Code).isNone then .ready else .done, pending := none })
  refine ⟨_, _, run_endRound none hL4, rfl, ⟨⟨_, (World.putObj_heap_other hBl).trans hv4, ?_, by simp⟩, World.putObj_heap_same (Array.getElem?_eq_some_iff.1 hL4).1, (World.putObj_heap_other hDl).trans hK4, hb4.grown hp5 hb4.size (fun k e => by cases e; exact h0l)⟩, hk4.trans (KeepsWalks.putObj _ hL4 rfl)⟩
  have := hrow4.kept hp5 (row_apart hrow4 hL4 (fun cur e => by cases e))
  simpa [av] using this
end Go.Proofs.Ytdjiljkdnpmilaa.acck
