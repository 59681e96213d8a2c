/- Lines: a row of the call's own grows by those that a slice reads. -/
import Derived.Test.YtdfghdccbpnohaaTirL
namespace Go.Proofs.Ytdfghdccbpnohaa.tirw
open Go.RowKit mem tirm intm
set_option linter.unusedVariables false

theorem run_append_none_any {P : Program} {w : World} (base : Nat) (t ty e : TypeId) (i : TypeInfo) (size : Nat) (ht : P.underlying t = some (.slice e)) (hi : P.info? e = some i)
    (v : Value) (n : Nat) (xs : List Value) (c : Nat) (hown : w.ownsRow base e size v n xs) :
    (Builtin.append_ #[t, t] ty #[v, .slice none 0 c]).run P w = .ok v w := by
  rcases hown.2 with ⟨rfl, rfl⟩ | ⟨g, cap, cur, rfl, _, _, hnc, _⟩
  · simp [Builtin.append_, run_underlying ht, sizeOf, typeInfo, hi, Builtin.lenOf, Builtin.firstCells]
  · simp [Builtin.append_, run_underlying ht, sizeOf, typeInfo, hi, Builtin.lenOf, Builtin.firstCells, hnc, storeCells]
theorem append_none_any {P : Program} {w : World} {ops : Array Oper} {rest : List Oper} {o : Oper} {a : Act} {Q : Exit → Act → World → Prop} (hgd : o.guard = none) (s x : Operand) (t : TypeId)
    (ho : o.op = .call { callee := .builtin .append, args := #[s, x], argTypes := #[t, t] })
    (base : Nat) (e : TypeId) (i : TypeInfo) (size : Nat) (ht : P.underlying t = some (.slice e)) (hi : P.info? e = some i)
    (v : Value) (n : Nat) (xs : List Value) (c : Nat) (hs : a.eval s = v) (hown : w.ownsRow base e size v n xs) (hx : a.eval x = .slice none 0 c)
    (h : wpList P ops Q rest (a.put o.dst v) w) : wpList P ops Q (o :: rest) a w := by
  refine wpList_plain hgd fun K hK => ?_
  have hrun := run_append_none_any (P := P) (w := w) base t o.type e i size ht hi v n xs c hown
  unfold Oper.wp
  simp [execOp, ho, resolve, invoke, builtin, hs, hx, hrun, Result.andThen]
  exact hK _ _ h

theorem newsN {w : World} {x : Addr} {n : Nat} {ls : List Ln} (h : ReadsN w (some x) n ls) : ∀ j u, (lvn ls)[j]? = some u → w.cell? (x.add j) = some u := by
  intro j u hu
  have hj : j < ls.length * 3 := by
    rcases Nat.lt_or_ge j (ls.length * 3) with h' | h'
    · exact h'
    · rw [List.getElem?_eq_none (by rw [lvn_length]; exact h')] at hu; cases hu
  rcases h.2 with h0 | ⟨b, off, ha, hc⟩
  · have := h.1; omega
  · obtain rfl : x = ⟨b, off, none⟩ := by injection ha
    rw [add_none]
    have hi : j / 3 < n := by have := h.1; omega
    obtain ⟨c0, c1, c2⟩ := hc (j / 3) hi
    have hm : j % 3 = 0 ∨ j % 3 = 1 ∨ j % 3 = 2 := by omega
    have hg := lvn_get ls (j / 3) (j % 3) (by have := h.1; omega) (by omega)
    rw [show j / 3 * 3 + j % 3 = j by omega, hu] at hg
    rcases hm with e | e | e
    · rw [e] at hg
      rw [show off + j = off + j / 3 * 3 by omega, c0, hg]; rfl
    · rw [e] at hg
      rw [show off + j = off + j / 3 * 3 + 1 by omega, c1, hg]; rfl
    · rw [e] at hg
      rw [show off + j = off + j / 3 * 3 + 2 by omega, c2, hg]; rfl

theorem append_lines {w : World} {ops : Array Oper} {rest : List Oper} {o : Oper} {ac : Act} {Q : Exit → Act → World → Prop} (hgd : o.guard = none) (s x : Operand)
    (ho : o.op = .call { callee := .builtin .append, args := #[s, x], argTypes := #[22, 22] })
    (v : Value) (xs : List Ln) (hs : ac.eval s = v) (hown : OwnN w v xs) (a : Option Addr) (m c : Nat) (ls : List Ln) (hx : ac.eval x = .slice a m c) (hr : ReadsN w a m ls) (hb : xs.length + m ≤ 1000000)
    (h : ∀ v' w', OwnN w' v' (xs ++ ls) → w.grownBy w' v.ownBlock → (∀ k, v'.ownBlock = some k → v.ownBlock = some k ∨ w.heap.size ≤ k) → wpList Try.prog ops Q rest (ac.put o.dst v') w') : wpList Try.prog ops Q (o :: rest) ac w := by
  obtain ⟨i0, hi, hz0, hz1, hz2⟩ := info_parts info_line
  rcases a with _ | ad
  · have hm : m = 0 := hr.2.elim id (fun ⟨b, off, e, _⟩ => by cases e)
    subst hm
    have hl : ls = [] := List.eq_nil_of_length_eq_zero hr.1
    subst hl
    refine append_none_any hgd s x 22 ho 0 32 i0 3 Try.underlying22 hi v xs.length _ c hs hown hx ?_
    exact h v w (by rw [List.append_nil]; exact hown) ⟨rfl, rfl, rfl, Nat.le_refl _, fun _ _ _ => rfl⟩ (fun k hk => .inl hk)
  · refine append_mine hgd s x 22 ho 32 i0 _ 3 24 Try.underlying22 hi hz0 hz1 hz2 rfl (by decide) v xs.length _ hs hown ad m c (lvn ls) hx (by rw [lvn_length, hr.1]) (newsN hr) (lvn_one ls) (by unfold maxLen; omega) (by omega) ?_
    intro v' w' h1 h2 h3
    refine h v' w' ?_ h2 h3
    unfold OwnN
    rw [List.length_append, hr.1, lvn_append]
    exact h1
end Go.Proofs.Ytdfghdccbpnohaa.tirw
