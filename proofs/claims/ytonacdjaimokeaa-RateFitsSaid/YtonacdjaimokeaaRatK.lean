/- Rates: the law's to. -/
import Derived.Test.YtonacdjaimokeaaRatJ
import Derived.Test.YtonacdjaimokeaaLnsA
namespace Go.Proofs.Ytonacdjaimokeaa.tirw
open Go.RowKit mem tirm intm bigm bigw
set_option linter.unusedVariables false

set_option maxRecDepth 100000 in
set_option maxHeartbeats 1000000 in
theorem to_any (D F T G1 M1 B1 G2 M2 B2 : Int) (a1 a2 : Option Addr) (n1 n2 c1 c2 : Nat) (w : World) : Calls Try.prog 16 #[.agg #[.int .i64 D, .int .i64 F, .int .i64 T, .int .i64 G1, .int .i64 M1, .int .i64 B1, .slice a1 n1 c1, .int .i64 G2, .int .i64 M2, .int .i64 B2, .slice a2 n2 c2]] w fun e w' => e = .returned (.agg #[.int .i64 D, .int .i64 F, .int .i64 T, .int .i64 G1, .int .i64 M1, .int .i64 B1, .slice a1 n1 c1, .int .i64 G2, .int .i64 M2, .int .i64 B2, .slice a2 n2 c2]) ∧ Only (fun _ => False) w w' := by
  go_enter Try.func16, Try.ntmps16
  obtain ⟨p0, p1, p2, p3, p4, p5, p6, p7, p8, p9, p10⟩ := (PlanAt.new (w := w) D F T G1 M1 B1 G2 M2 B2 a1 a2 n1 n2 c1 c2 26).only ((Only.refl (fun _ => False) _).alloc (.cells #[.int .i64 0, .int .i64 0, .int .i64 0, .int .i64 0, .int .i64 0, .int .i64 0, .slice none 0 0, .int .i64 0, .int .i64 0, .int .i64 0, .slice none 0 0] 30)) (fun f => f)
  go_wp2_with fail
  refine bodyPost_ret (v := .agg #[.int .i64 D, .int .i64 F, .int .i64 T, .int .i64 G1, .int .i64 M1, .int .i64 B1, .slice a1 n1 c1, .int .i64 G2, .int .i64 M2, .int .i64 B2, .slice a2 n2 c2]) (by simp [results, Try.results16, go_sem]) rfl ⟨rfl, ((Only.refl _ w).alloc _).alloc _⟩

/-- a row of tiers of the call's own grows by what a slice reads -/
def OwnT (w : World) (v : Value) (ts : List Tr) : Prop := w.ownsRow 0 109 2 v ts.length (tv ts)
theorem tv_append (a b : List Tr) : tv (a ++ b) = tv a ++ tv b := by simp [tv]
theorem own_readsT3 {w : World} {v : Value} {ts : List Tr} (h : OwnT w v ts) (hb : ∀ x ∈ ts, InI x.u ∧ InI x.p) (hm : ts.length ≤ 1000000) : ∃ a cap, v = .slice a ts.length cap ∧ ReadsT w a ts.length ts := by
  have h0 := h
  rcases h.2 with ⟨hv, hn⟩ | ⟨g, cap, cur, hv, hg, hh, hc, hmm, _⟩
  · exact ⟨none, 0, by rw [hv, hn], ⟨rfl, by omega, hb, .inl hn⟩⟩
  · refine ⟨some ⟨g, 0, none⟩, cap, hv, ?_⟩
    have h1 : w.ownsRow 0 109 2 (.slice (some ⟨g, 0, none⟩) ts.length cap) ts.length (tv ts) := by rw [← hv]; exact h0
    exact own_readsT h1 (by omega) hb
theorem append_tiers {w : World} {ops : Array Oper} {rest : List Oper} {o : Oper} {ac : Act} {Q : Exit → Act → World → Prop} (hgd : o.guard = none) (s x : Operand)
    (ho : o.op = .call { callee := .builtin .append, args := #[s, x], argTypes := #[22, 22] })
    (v : Value) (xs : List Tr) (hs : ac.eval s = v) (hown : OwnT w v xs) (a : Option Addr) (m c : Nat) (ts : List Tr) (hx : ac.eval x = .slice a m c) (hr : ReadsT w a m ts) (hb : xs.length + m ≤ 1000000)
    (h : ∀ v' w', OwnT w' v' (xs ++ ts) → w.grownBy w' v.ownBlock → (∀ k, v'.ownBlock = some k → v.ownBlock = some k ∨ w.heap.size ≤ k) → wpList Try.prog ops Q rest (ac.put o.dst v') w') : wpList Try.prog ops Q (o :: rest) ac w := by
  obtain ⟨i0, hi, hz0, hz1, hz2⟩ := info_parts info_tier
  rcases a with _ | ad
  · have hm : m = 0 := hr.2.2.2.elim id (fun ⟨b, off, e, _⟩ => by cases e)
    subst hm
    have hl : ts = [] := List.eq_nil_of_length_eq_zero hr.1
    subst hl
    refine append_none_any hgd s x 22 ho 0 109 i0 2 Try.underlying22 hi v xs.length _ c hs hown hx ?_
    exact h v w (by rw [List.append_nil]; exact hown) ⟨rfl, rfl, rfl, Nat.le_refl _, fun _ _ _ => rfl⟩ (fun k hk => .inl hk)
  · refine append_mine hgd s x 22 ho 109 i0 _ 2 16 Try.underlying22 hi hz0 hz1 hz2 rfl (by decide) v xs.length _ hs hown ad m c (tv ts) hx (by rw [tv_length, hr.1]) (newsT hr) (tv_one ts) (by unfold maxLen; omega) (by omega) ?_
    intro v' w' h1 h2 h3
    refine h v' w' ?_ h2 h3
    unfold OwnT
    rw [List.length_append, hr.1, tv_append]
    exact h1
end Go.Proofs.Ytonacdjaimokeaa.tirw
