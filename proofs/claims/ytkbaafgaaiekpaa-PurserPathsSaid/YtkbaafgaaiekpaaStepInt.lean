/- Rows of ints of the call's own, as values; appends to them inside a statement that draws its order. -/
import Derived.Test.YtkbaafgaaiekpaaTrE
import Derived.Test.YtkbaafgaaiekpaaStepApp
import Derived.Deep.RegionHeld3
namespace Go.Proofs.Ytkbaafgaaiekpaa.tre
open Go.RowKit mem
set_option linter.unusedVariables false

theorem run_append_none_any {P : Program} {w : World} (base : Nat) (t ty e : TypeId) (i : TypeInfo) (size : Nat) (ht : P.underlying t = some (.slice e)) (hi : P.info? e = some i)
    (v : Value) (n : Nat) (xs : List Value) (c : Nat) (hown : w.ownsRow base e size v n xs) :
    (Builtin.append_ #[t, t] ty #[v, .slice none 0 c]).run P w = .ok v w := by
  rcases hown.2 with ⟨rfl, rfl⟩ | ⟨g, cap, cur, rfl, _, _, hnc, _⟩
  · simp [Builtin.append_, run_underlying ht, sizeOf, typeInfo, hi, Builtin.lenOf, Builtin.firstCells]
  · simp [Builtin.append_, run_underlying ht, sizeOf, typeInfo, hi, Builtin.lenOf, Builtin.firstCells, hnc, storeCells]
theorem step_none_any {P : Program} {ops : Array Oper} {o : Oper} {a : Act} {w : World} {K : Act → World → Prop} {Q : Exit → Act → World → Prop} {E : Prop}
    (hg : o.guard = none) (s x : Operand) (t : TypeId) (ho : o.op = Op.call { callee := Callee.builtin Builtin.append, args := #[s, x], argTypes := #[t, t] })
    (base : Nat) (e : TypeId) (i : TypeInfo) (size : Nat) (ht : P.underlying t = some (.slice e)) (hi : P.info? e = some i)
    (v : Value) (n : Nat) (xs : List Value) (c : Nat) (hs : a.eval s = v) (hown : w.ownsRow base e size v n xs) (hx : a.eval x = .slice none 0 c)
    (hK : K (a.put o.dst v) w) : if Region.wanted o (yielded ops a.tmps) = true then Oper.wp P o a w K Q else E := by
  have hw : Region.wanted o (yielded ops a.tmps) = true := by simp [Region.wanted, hg]
  rw [if_pos hw]
  have hrun := run_append_none_any (P := P) (w := w) base t o.type e i size ht hi v n xs c hown
  unfold Oper.wp
  simp [execOp, ho, resolve, invoke, builtin, hs, hx, hrun, Result.andThen]
  exact hK

theorem iv_ones (l : List Int) : ∀ u ∈ iv l, u.oneCell' = true := by
  intro u hu
  simp only [iv, List.mem_map] at hu
  obtain ⟨x, _, rfl⟩ := hu
  rfl
theorem newsI {w : World} {x : Addr} {n : Nat} {ls : List Int} (h : ReadsI w (some x) n ls) : ∀ j u, (iv ls)[j]? = some u → w.cell? (x.add j) = some u := by
  intro j u hu
  have hj : j < ls.length := by
    rcases Nat.lt_or_ge j ls.length with h' | h'
    · exact h'
    · rw [List.getElem?_eq_none (by simpa [iv] using h')] at hu; cases hu
  rcases h.2.2.2 with h0 | ⟨b, off, ha, hc⟩
  · have := h.1; omega
  · obtain rfl : x = ⟨b, off, none⟩ := by injection ha
    rw [add_none]
    have := iv_get ls j hj
    rw [this] at hu
    have h2 := hc j (by rw [← h.1]; exact hj)
    rw [h2]
    exact hu
theorem ownI_lt {w : World} {v : Value} {l : List Int} (h : OwnI w v l) : ∀ q, v.ownBlock = some q → q < w.heap.size := by
  intro q hq
  rcases h.2 with ⟨hv, _⟩ | ⟨g, cap, cur, hv, hg, hh, _⟩
  · rw [hv] at hq; cases hq
  · rw [hv] at hq
    cases hq
    exact heap_lt hh
theorem OwnI.form {w : World} {v : Value} {l : List Int} (h : OwnI w v l) (hb : ∀ c ∈ l, -9223372036854775808 ≤ c ∧ c ≤ 9223372036854775807) (hm : l.length ≤ 1000000) : ∃ a c, v = .slice a l.length c ∧ ReadsI w a l.length l ∧ l.length ≤ c ∧ ∀ y, a = some y → v.ownBlock = some y.block := by
  have h0 := h
  rcases h.2 with ⟨hv, hn⟩ | ⟨g, cap, cur, hv, hg, hh, hc, hmm, _⟩
  · exact ⟨none, 0, by rw [hv, hn], ⟨rfl, by unfold maxLen; omega, hb, .inl hn⟩, by omega, fun y e => by cases e⟩
  · refine ⟨some ⟨g, 0, none⟩, cap, hv, ?_, hc, fun y e => by cases e; rw [hv]; rfl⟩
    have h1 : w.ownsRow 0 3 1 (.slice (some ⟨g, 0, none⟩) l.length cap) l.length (iv l) := by rw [← hv]; exact h0
    exact ReadsI.of_owns h1 (by unfold maxLen; omega) hb
theorem step_int {ops : Array Oper} {o : Oper} {a : Act} {w : World} {K : Act → World → Prop} {Q : Exit → Act → World → Prop} {E : Prop}
    (hg : o.guard = none) (s x : Operand) (ho : o.op = Op.call { callee := Callee.builtin Builtin.append, args := #[s, x], argTypes := #[28, 28] })
    (v : Value) (xs : List Int) (hs : a.eval s = v) (hown : OwnI w v xs) (ad : Option Addr) (m c : Nat) (ts : List Int) (hx : a.eval x = .slice ad m c) (hr : ReadsI w ad m ts) (hb : xs.length + m ≤ 1000000)
    (hK : ∀ v' w', OwnI w' v' (xs ++ ts) → w.grownBy w' v.ownBlock → (∀ k, v'.ownBlock = some k → v.ownBlock = some k ∨ w.heap.size ≤ k) → K (a.put o.dst v') w') :
    if Region.wanted o (yielded ops a.tmps) = true then Oper.wp Try.prog o a w K Q else E := by
  obtain ⟨i0, hi, hz0, hz1, hz2⟩ : ∃ i1, Try.prog.info? 3 = some i1 ∧ i1.zero = some (.int .i64 0) ∧ i1.size = 1 ∧ i1.bytes = 8 := by
    obtain ⟨i, h1, h2⟩ := Option.map_eq_some_iff.1 info_i64
    exact ⟨i, h1, by simpa using h2⟩
  rcases ad with _ | ad
  · have hm : m = 0 := hr.2.2.2.elim id (fun ⟨b, off, e, _⟩ => by cases e)
    subst hm
    have hl : ts = [] := List.eq_nil_of_length_eq_zero hr.1
    subst hl
    refine step_none_any hg s x 28 ho 0 3 i0 1 Try.underlying28 hi v xs.length _ c hs hown hx ?_
    exact hK v w (by rw [List.append_nil]; exact hown) ⟨rfl, rfl, rfl, Nat.le_refl _, fun _ _ _ => rfl⟩ (fun k hk => .inl hk)
  · refine step_mine hg s x 28 ho 3 i0 _ 1 8 Try.underlying28 hi hz0 hz1 hz2 rfl (by decide) v xs.length _ hs hown ad m c (iv ts) hx (by simp [iv, hr.1]) (newsI hr) (iv_ones ts) (by unfold maxLen; omega) (by omega) ?_
    intro v' w' h1 h2 h3
    refine hK v' w' ?_ h2 h3
    unfold OwnI
    rw [List.length_append, hr.1, iv_append]
    exact h1
end Go.Proofs.Ytkbaafgaaiekpaa.tre
