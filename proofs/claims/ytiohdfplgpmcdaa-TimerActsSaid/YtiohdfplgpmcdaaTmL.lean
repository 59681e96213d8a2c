/- TimerSteps' walk. -/
import Derived.Test.YtiohdfplgpmcdaaTmK
namespace Go.Proofs.Ytiohdfplgpmcdaa.tmw
open Go.RowKit mem rowz
set_option linter.unusedVariables false

theorem InT_iff (a g : Int) : InT ⟨a, g⟩ ↔ (1 ≤ g ∧ g ≤ 4611686018427387904) ∧ 0 ≤ a ∧ a ≤ 4611686018427387904 := Iff.rfl
instance (x : Tm) : Decidable (InT x) := inferInstanceAs (Decidable ((_ ∧ _) ∧ _ ∧ _))
def setE (l : List Tm) (a g : Int) : Int := if InT ⟨a, g⟩ then 0 else 1
def setL (l : List Tm) (a g : Int) : List Tm := if InT ⟨a, g⟩ then putM ⟨a, g⟩ l else l
theorem setL_len (l : List Tm) (a g : Int) : (setL l a g).length ≤ l.length + 1 := by
  unfold setL putM
  split
  · rw [insM_len]
    have := rem_le g l
    show (remM g l).length + 1 ≤ _
    omega
  · omega
set_option maxRecDepth 100000 in
theorem tset_bad (p : Nat) (a g : Int) (w : World) (h : ¬ InT ⟨a, g⟩) : Calls Try.prog 12 #[.pointer (some ⟨p, 0, none⟩), .int .i64 g, .int .i64 a] w fun e w' => e = .returned (.int .i64 1) ∧ Only (fun _ => False) w w' := by
  rw [InT_iff] at h
  go_enter Try.func12, Try.ntmps12
  by_cases h1 : g < 1
  · go_wp2_with fail
    go_ret
    exact ⟨rfl, Only.refl _ _⟩
  · by_cases h2 : 4611686018427387904 < g
    · go_wp2_with fail
      go_ret
      exact ⟨rfl, Only.refl _ _⟩
    · by_cases h3 : a < 0
      · go_wp2_with fail
        go_ret
        exact ⟨rfl, Only.refl _ _⟩
      · have h4 : 4611686018427387904 < a := by omega
        go_wp2_with fail
        go_ret
        exact ⟨rfl, Only.refl _ _⟩
/-- timers whose blocks are S -/
def TBS (S : Nat → Prop) (w : World) (p : Nat) (l : List Tm) : Prop := ∃ v, TmAt w p v l ∧ Good l ∧ S p ∧ ∀ q, v.ownBlock = some q → S q
theorem TBS.only {S Z : Nat → Prop} {w w' : World} {p : Nat} {l : List Tm} (h : TBS S w p l) (ho : Only Z w w') (hz : ∀ q, S q → ¬ Z q) : TBS S w' p l := by
  obtain ⟨v, h1, h2, h3, h4⟩ := h
  exact ⟨v, h1.only ho (hz _ h3) (fun q hq => hz _ (h4 q hq)), h2, h3, h4⟩
theorem TBS.good {S : Nat → Prop} {w : World} {p : Nat} {l : List Tm} (h : TBS S w p l) : Good l := by obtain ⟨v, _, h2, _⟩ := h; exact h2
def T2 (b : Nat) (S T : Nat → Prop) (w : World) (p : Nat) (l : List Tm) (q : Nat) (m : List Tm) : Prop := TBS S w p l ∧ TBS T w q m ∧ (∀ x, S x → ¬ T x) ∧ (∀ x, S x → b ≤ x ∧ x < w.heap.size) ∧ ∀ x, T x → b ≤ x ∧ x < w.heap.size
theorem T2.symm {b : Nat} {S T : Nat → Prop} {w : World} {p q : Nat} {l m : List Tm} (h : T2 b S T w p l q m) : T2 b T S w q m p l := ⟨h.2.1, h.1, fun x hx hy => h.2.2.1 x hy hx, h.2.2.2.2, h.2.2.2.1⟩
theorem T2.only {b : Nat} {S T : Nat → Prop} {w w' : World} {p q : Nat} {l m : List Tm} (h : T2 b S T w p l q m) (ho : Only (fun _ => False) w w') : T2 b S T w' p l q m :=
  ⟨h.1.only ho (fun _ _ f => f), h.2.1.only ho (fun _ _ f => f), h.2.2.1, fun x hx => ⟨(h.2.2.2.1 x hx).1, Nat.lt_of_lt_of_le (h.2.2.2.1 x hx).2 ho.size⟩, fun x hx => ⟨(h.2.2.2.2 x hx).1, Nat.lt_of_lt_of_le (h.2.2.2.2 x hx).2 ho.size⟩⟩
theorem two_set {b : Nat} {S T : Nat → Prop} {w : World} {p q : Nat} {l m : List Tm} {a g : Int} (h : T2 b S T w p l q m) (hl : l.length ≤ 1000) (hb : b ≤ b) :
    Calls Try.prog 12 #[.pointer (some ⟨p, 0, none⟩), .int .i64 g, .int .i64 a] w fun e w' => e = .returned (.int .i64 (setE l a g)) ∧ (∃ S', T2 b S' T w' p (setL l a g) q m) ∧ Only (fun x => b ≤ x) w w' := by
  by_cases hx : InT ⟨a, g⟩
  · unfold setE setL
    rw [if_pos hx, if_pos hx]
    obtain ⟨⟨v, h1, h2, h3, h4⟩, h5, h6, h7, h8⟩ := h
    refine (tset_any p v l a g w h1 h2.1 hx.1 hx.2).mono ?_
    rintro e w' ⟨hc, ho⟩
    have hs := ho.size
    have hO : Only S w w' := ho.mono fun q _ hq => by
      rcases hq with rfl | hq
      · exact h3
      · exact h4 q hq
    rcases hc with ⟨_, rfl, v', c2, c3⟩ | ⟨c1, _, _⟩
    · refine ⟨rfl, ⟨fun x => S x ∨ (w.heap.size ≤ x ∧ x < w'.heap.size), ⟨v', c2, h2.put hx, .inl h3, fun q hq => ?_⟩, h5.only hO (fun x hT hS => h6 x hS hT), fun x hS hT => ?_, fun x hS => ?_, fun x hT => ?_⟩, hO.mono fun x _ hS => (h7 x hS).1⟩
      · rcases c3 q hq with e | e
        · exact .inl (h4 q e)
        · exact .inr ⟨e, c2.2.2.1.lt hq⟩
      · rcases hS with e | e
        · exact h6 x e hT
        · have := h8 x hT; omega
      · rcases hS with e | e
        · have := h7 x e; omega
        · have := h7 p h3; omega
      · have := h8 x hT; omega
    · have := rem_le g l
      omega
  · unfold setE setL
    rw [if_neg hx, if_neg hx]
    refine (tset_bad p a g w hx).mono ?_
    rintro e w' ⟨rfl, ho⟩
    exact ⟨rfl, ⟨S, h.only ho⟩, ho.mono fun _ _ f => f.elim⟩
theorem leq_dw {α : Type} (f g : α → Bool) (hfg : ∀ x, f x = true → g x = true) : ∀ l : List α, l.takeWhile f ++ (l.dropWhile f).takeWhile g = l.takeWhile g ∧ (l.dropWhile f).dropWhile g = l.dropWhile g
  | [] => ⟨rfl, rfl⟩
  | x :: r => by
    by_cases hx : f x = true
    · rw [List.takeWhile_cons_of_pos hx, List.dropWhile_cons_of_pos hx, List.takeWhile_cons_of_pos (hfg x hx), List.dropWhile_cons_of_pos (hfg x hx)]
      obtain ⟨e1, e2⟩ := leq_dw f g hfg r
      exact ⟨by rw [List.cons_append, e1], e2⟩
    · rw [List.takeWhile_cons_of_neg hx, List.dropWhile_cons_of_neg hx]
      exact ⟨rfl, rfl⟩
theorem due_step {k n : Int} (h : k ≤ n) (l : List Tm) : (dueM k l).map Tm.i ++ (dueM n (leftM k l)).map Tm.i = (dueM n l).map Tm.i ∧ leftM n (leftM k l) = leftM n l := by
  obtain ⟨e1, e2⟩ := leq_dw (fun x : Tm => decide (x.a < k)) (fun x => decide (x.a < n)) (fun x hx => by simp only [decide_eq_true_eq] at hx ⊢; omega) l
  exact ⟨by rw [← List.map_append]; exact congrArg (List.map Tm.i) e1, e2⟩
theorem due_zero {l : List Tm} (h : Good l) : dueM 0 l = [] ∧ leftM 0 l = l := by
  cases l with
  | nil => exact ⟨rfl, rfl⟩
  | cons x r =>
    have := h.2.2 x List.mem_cons_self
    unfold InT at this
    unfold dueM leftM
    rw [List.takeWhile_cons_of_neg (by simp only [decide_eq_true_eq]; omega), List.dropWhile_cons_of_neg (by simp only [decide_eq_true_eq]; omega)]
    exact ⟨rfl, rfl⟩
def DueS (S : Nat → Prop) (p : Nat) (l : List Tm) (now : Int) (w : World) (e : Ending) (w' : World) : Prop :=
  ∃ a c, e = .returned (.slice a ((dueM now l).map Tm.i).length c) ∧ ReadsI w' a ((dueM now l).map Tm.i).length ((dueM now l).map Tm.i) ∧ (∀ y, a = some y → w.heap.size ≤ y.block) ∧ TBS S w' p (leftM now l) ∧ Only S w w'
theorem tdueS {S : Nat → Prop} {p : Nat} {l : List Tm} {w : World} (h : TBS S w p l) (now : Int) : Calls Try.prog 14 #[.pointer (some ⟨p, 0, none⟩), .int .i64 now] w (DueS S p l now w) := by
  obtain ⟨v, h1, h2, h3, h4⟩ := h
  refine (tdue_any p v l now w h1 h2.inK).mono ?_
  rintro e w' ⟨⟨a, c, rfl, h5, h6⟩, ⟨v', h7, h8⟩, h9⟩
  exact ⟨a, c, rfl, h5, h6, ⟨v', h7, h2.left now, h3, fun q hq => h4 q (by rw [← h8]; exact hq)⟩, h9.mono fun q _ hq => by
    rcases hq with rfl | hq
    · exact h3
    · exact h4 q hq⟩
theorem tlenS {S : Nat → Prop} {p : Nat} {l : List Tm} {w : World} (h : TBS S w p l) : Calls Try.prog 15 #[.pointer (some ⟨p, 0, none⟩)] w fun e w' => e = .returned (.int .i64 l.length) ∧ Only (fun _ => False) w w' := by
  obtain ⟨v, h1, _⟩ := h
  exact len_any p v l w h1
end Go.Proofs.Ytiohdfplgpmcdaa.tmw
