/- Timers: the program's and the document's, side by side. -/
import Derived.Test.YtiohdfplgpmcdaaTmP
namespace Go.Proofs.Ytiohdfplgpmcdaa.tmw
open Go.RowKit mem rowz
set_option linter.unusedVariables false

/-- the document's timers whose blocks are T -/
def UBS (T : Nat → Prop) (w : World) (q : Nat) (m : List Tm) : Prop := ∃ a c, UAt w q a c m ∧ T q ∧ (0 < m.length → ∀ y, a = some y → T y.block)
theorem UAt.onlyE {S : Nat → Prop} {w w' : World} {p c : Nat} {a : Option Addr} {m : List Tm} (h : UAt w p a c m) (ho : Only S w w') (hp : ¬ S p) (hs : 0 < m.length → ∀ x, a = some x → ¬ S x.block) : UAt w' p a c m := by
  by_cases h0 : m.length = 0
  · exact ⟨ho.cell' h.1 hp, by rw [ho.frozen (World.block_lt_of_cell? w _ h.1) hp]; exact h.2.1, ⟨rfl, .inl h0⟩, h.2.2.2⟩
  · exact h.only ho hp (hs (by omega))
theorem UBS.only {T Z : Nat → Prop} {w w' : World} {q : Nat} {m : List Tm} (h : UBS T w q m) (ho : Only Z w w') (hz : ∀ x, T x → ¬ Z x) : UBS T w' q m := by
  obtain ⟨a, c, h1, h2, h3⟩ := h
  exact ⟨a, c, h1.onlyE ho (hz _ h2) (fun h0 x e => hz _ (h3 h0 x e)), h2, h3⟩
theorem UAt.blk {w : World} {q c : Nat} {a : Option Addr} {m : List Tm} (h : UAt w q a c m) (h0 : 0 < m.length) : ∀ y, a = some y → y.block < w.heap.size := fun y e => by
  obtain ⟨b, off, e2, hc⟩ := h.2.2.1.2.resolve_left (by omega)
  rw [e2] at e
  rw [← Option.some.inj e]
  exact World.block_lt_of_cell? w _ (hc 0 h0).1
def R3 (b : Nat) (S T : Nat → Prop) (w : World) (p : Nat) (l : List Tm) (q : Nat) (m : List Tm) : Prop := TBS S w p l ∧ UBS T w q m ∧ (∀ x, S x → ¬ T x) ∧ (∀ x, S x → b ≤ x ∧ x < w.heap.size) ∧ ∀ x, T x → b ≤ x ∧ x < w.heap.size
theorem R3.only {b : Nat} {S T : Nat → Prop} {w w' : World} {p q : Nat} {l m : List Tm} (h : R3 b S T w p l q m) (ho : Only (fun _ => False) w w') : R3 b S T w' p l q m :=
  ⟨h.1.only ho (fun _ _ f => f), h.2.1.only ho (fun _ _ f => f), h.2.2.1, fun x hx => ⟨(h.2.2.2.1 x hx).1, Nat.lt_of_lt_of_le (h.2.2.2.1 x hx).2 ho.size⟩, fun x hx => ⟨(h.2.2.2.2 x hx).1, Nat.lt_of_lt_of_le (h.2.2.2.2 x hx).2 ho.size⟩⟩
theorem R3.left {b : Nat} {S T : Nat → Prop} {w w' : World} {p q : Nat} {l l' m : List Tm} {v v' : Value} (h : R3 b S T w p l q m) (hv : ∀ x, v.ownBlock = some x → S x) (hp : S p) (ho : Only (TmS p v) w w') (h' : TmAt w' p v' l') (hg : Good l') (hk : ∀ x, v'.ownBlock = some x → v.ownBlock = some x ∨ w.heap.size ≤ x) : (∃ S', R3 b S' T w' p l' q m) ∧ Only S w w' := by
  obtain ⟨h1, h2, h3, h4, h5⟩ := h
  have hs := ho.size
  have hO : Only S w w' := ho.mono fun x _ hx => by
    rcases hx with rfl | hx
    · exact hp
    · exact hv x hx
  refine ⟨⟨fun x => S x ∨ (w.heap.size ≤ x ∧ x < w'.heap.size), ⟨v', h', hg, .inl hp, fun x hx => ?_⟩, h2.only hO (fun x hT hS => h3 x hS hT), fun x hS hT => ?_, fun x hS => ?_, fun x hT => ?_⟩, hO⟩
  · rcases hk x hx with e | e
    · exact .inl (hv x e)
    · exact .inr ⟨e, h'.2.2.1.lt hx⟩
  · rcases hS with e | e
    · exact h3 x e hT
    · have := h5 x hT; omega
  · rcases hS with e | e
    · have := h4 x e; omega
    · have := h4 p hp; omega
  · have := h5 x hT; omega
theorem R3.right {b : Nat} {S T : Nat → Prop} {w w' : World} {p q : Nat} {l m m' : List Tm} {a a' : Option Addr} {c' : Nat} (h : R3 b S T w p l q m) (hv : 0 < m.length → ∀ y, a = some y → T y.block) (hq : T q) (ho : Only (fun x => x = q) w w') (h' : UAt w' q a' c' m') (hk : 0 < m'.length → ∀ y, a' = some y → (0 < m.length ∧ ∃ x, a = some x ∧ y.block = x.block) ∨ w.heap.size ≤ y.block) : (∃ T', R3 b S T' w' p l q m') ∧ Only T w w' := by
  obtain ⟨h1, h2, h3, h4, h5⟩ := h
  have hs := ho.size
  have hO : Only T w w' := ho.mono fun x _ hx => by have e : x = q := hx; rw [e]; exact hq
  refine ⟨⟨fun x => T x ∨ (w.heap.size ≤ x ∧ x < w'.heap.size), h1.only hO (fun x hS hT => h3 x hS hT), ⟨a', c', h', .inl hq, fun h0 y hy => ?_⟩, fun x hS hT => ?_, fun x hS => ?_, fun x hT => ?_⟩, hO⟩
  · rcases hk h0 y hy with ⟨h6, x, e, e2⟩ | e
    · rw [e2]; exact .inl (hv h6 x e)
    · exact .inr ⟨e, h'.blk h0 y hy⟩
  · rcases hT with e | e
    · exact h3 x hS e
    · have := h4 x hS; omega
  · have := h4 x hS; omega
  · rcases hT with e | e
    · have := h5 x e; omega
    · have := h5 q hq; omega
theorem r_tset {b : Nat} {S T : Nat → Prop} {w : World} {p q : Nat} {l m : List Tm} (a g : Int) (h : R3 b S T w p l q m) (hl : l.length ≤ 1000) :
    Calls Try.prog 12 #[.pointer (some ⟨p, 0, none⟩), .int .i64 g, .int .i64 a] w fun e w' => e = .returned (.int .i64 (setE l a g)) ∧ (∃ S', R3 b S' T w' p (setL l a g) q m) ∧ Only S w w' := by
  by_cases hx : InT ⟨a, g⟩
  · unfold setE setL
    rw [if_pos hx, if_pos hx]
    obtain ⟨v, h1, h2, h3, h4⟩ := h.1
    refine (tset_any p v l a g w h1 h2.1 hx.1 hx.2).mono ?_
    rintro e w' ⟨hc, ho⟩
    rcases hc with ⟨_, rfl, v', c2, c3⟩ | ⟨c1, _, _⟩
    · exact ⟨rfl, h.left h4 h3 ho c2 (h2.put hx) c3⟩
    · have := rem_le g l
      omega
  · unfold setE setL
    rw [if_neg hx, if_neg hx]
    refine (tset_bad p a g w hx).mono ?_
    rintro e w' ⟨rfl, ho⟩
    exact ⟨rfl, ⟨S, h.only ho⟩, ho.mono fun _ _ f => f.elim⟩
theorem r_tdrop {b : Nat} {S T : Nat → Prop} {w : World} {p q : Nat} {l m : List Tm} (g : Int) (h : R3 b S T w p l q m) :
    Calls Try.prog 13 #[.pointer (some ⟨p, 0, none⟩), .int .i64 g] w fun e w' => e = .returned (.int .i64 (if mIdx g 0 l < 0 then 7 else 0)) ∧ (∃ S', R3 b S' T w' p (remM g l) q m) ∧ Only S w w' := by
  obtain ⟨v, h1, h2, h3, h4⟩ := h.1
  refine (tdrop_any p v l g w h1).mono ?_
  rintro e w' ⟨rfl, ⟨v', c2, c3⟩, ho⟩
  exact ⟨rfl, h.left h4 h3 ho c2 (h2.rem g) (fun x hx => .inl (by rw [← c3]; exact hx))⟩
theorem r_udrop {b : Nat} {S T : Nat → Prop} {w : World} {p q : Nat} {l m : List Tm} (g : Int) (h : R3 b S T w p l q m) :
    Calls Try.prog 18 #[.pointer (some ⟨q, 0, none⟩), .int .i64 g] w fun e w' => e = .returned (.int .i64 (if mIdx g 0 m < 0 then 7 else 0)) ∧ (∃ T', R3 b S T' w' p l q (remM g m)) ∧ Only T w w' := by
  obtain ⟨a, c, h1, h2, h3⟩ := h.2.1
  refine (rdrop_any q a c m g w h1).mono ?_
  rintro e w' ⟨rfl, ⟨a', c', h4, h5⟩, ho⟩
  refine ⟨rfl, h.right h3 h2 ho h4 fun h0 y hy => ?_⟩
  rcases h5 y hy with e | e
  · exact .inl ⟨by have := rem_le g m; omega, y, e, rfl⟩
  · exact .inr e
set_option maxRecDepth 100000 in
theorem rset_bad (p : Nat) (a g : Int) (w : World) (h : ¬ InT ⟨a, g⟩) : Calls Try.prog 17 #[.pointer (some ⟨p, 0, none⟩), .int .i64 g, .int .i64 a] w fun e w' => e = .returned (.int .i64 1) ∧ Only (fun _ => False) w w' := by
  rw [InT_iff] at h
  go_enter Try.func17, Try.ntmps17
  by_cases h1 : g < 1
  · go_wp2_with fail
    go_ret
    exact ⟨rfl, Only.refl _ _⟩
  · by_cases h2 : 4611686018427387904 < g
    · go_wp2_with fail
      go_ret
      exact ⟨rfl, Only.refl _ _⟩
    · by_cases h3 : a < 0
      · go_wp2_with fail
        go_ret
        exact ⟨rfl, Only.refl _ _⟩
      · have h4 : 4611686018427387904 < a := by omega
        go_wp2_with fail
        go_ret
        exact ⟨rfl, Only.refl _ _⟩
theorem r_uset {b : Nat} {S T : Nat → Prop} {w : World} {p q : Nat} {l m : List Tm} (a g : Int) (h : R3 b S T w p l q m) (hm : Good m) (hl : m.length ≤ 900) :
    Calls Try.prog 17 #[.pointer (some ⟨q, 0, none⟩), .int .i64 g, .int .i64 a] w fun e w' => e = .returned (.int .i64 (setE m a g)) ∧ (∃ T', R3 b S T' w' p l q (setL m a g)) ∧ Only T w w' := by
  by_cases hx : InT ⟨a, g⟩
  · unfold setE setL
    rw [if_pos hx, if_pos hx]
    obtain ⟨a0, c, h1, h2, h3⟩ := h.2.1
    refine (rset_any q a0 c m a g w h1 hm.1 hl hx).mono ?_
    rintro e w' ⟨rfl, ⟨a', c', h4, h5⟩, ho⟩
    exact ⟨rfl, h.right h3 h2 ho h4 fun _ y hy => .inr (h5 y hy)⟩
  · unfold setE setL
    rw [if_neg hx, if_neg hx]
    refine (rset_bad q a g w hx).mono ?_
    rintro e w' ⟨rfl, ho⟩
    exact ⟨rfl, ⟨T, h.only ho⟩, ho.mono fun _ _ f => f.elim⟩
def DueR (ds : List Int) (w : World) (e : Ending) (w' : World) : Prop := ∃ ad cd, e = .returned (.slice ad ds.length cd) ∧ ReadsI w' ad ds.length ds ∧ ∀ y, ad = some y → w.heap.size ≤ y.block
theorem r_tdue {b : Nat} {S T : Nat → Prop} {w : World} {p q : Nat} {l m : List Tm} (now : Int) (h : R3 b S T w p l q m) :
    Calls Try.prog 14 #[.pointer (some ⟨p, 0, none⟩), .int .i64 now] w fun e w' => DueR ((dueM now l).map Tm.i) w e w' ∧ (∃ S', R3 b S' T w' p (leftM now l) q m) ∧ Only S w w' := by
  obtain ⟨v, h1, h2, h3, h4⟩ := h.1
  refine (tdue_any p v l now w h1 h2.inK).mono ?_
  rintro e w' ⟨h5, ⟨v', h7, h8⟩, h9⟩
  exact ⟨h5, h.left h4 h3 h9 h7 (h2.left now) (fun x hx => .inl (by rw [← h8]; exact hx))⟩
theorem r_udue {b : Nat} {S T : Nat → Prop} {w : World} {p q : Nat} {l m : List Tm} (now : Int) (h : R3 b S T w p l q m) (hm : Good m) :
    Calls Try.prog 20 #[.pointer (some ⟨q, 0, none⟩), .int .i64 now] w fun e w' => DueR ((dueM now m).map Tm.i) w e w' ∧ (∃ T', R3 b S T' w' p l q (leftM now m)) ∧ Only T w w' := by
  obtain ⟨a, c, h1, h2, h3⟩ := h.2.1
  refine (rdue_any q a c m now w h1 hm.inK).mono ?_
  rintro e w' ⟨h5, ⟨a', c', h4, h6⟩, ho⟩
  refine ⟨h5, h.right h3 h2 ho h4 fun h0 y hy => ?_⟩
  obtain ⟨x, hx, e2⟩ := h6 y hy
  have hl : (leftM now m).length ≤ m.length := (List.dropWhile_suffix _).length_le
  exact .inl ⟨by omega, x, hx, e2⟩
theorem r_next {b : Nat} {S T : Nat → Prop} {w : World} {p q : Nat} {l m : List Tm} (h : R3 b S T w p l q m) : Calls Try.prog 10 #[.pointer (some ⟨p, 0, none⟩)] w fun e w' => e = .returned (.tuple #[.int .i64 (nextV l), .bool (decide (0 < l.length))]) ∧ Only (fun _ => False) w w' := by
  obtain ⟨v, h1, _⟩ := h.1
  exact tnext_any p v l w h1
theorem r_len {b : Nat} {S T : Nat → Prop} {w : World} {p q : Nat} {l m : List Tm} (h : R3 b S T w p l q m) : Calls Try.prog 15 #[.pointer (some ⟨p, 0, none⟩)] w fun e w' => e = .returned (.int .i64 l.length) ∧ Only (fun _ => False) w w' := tlenS h.1
theorem r_at {b : Nat} {S T : Nat → Prop} {w : World} {p q : Nat} {l m : List Tm} (g : Int) (h : R3 b S T w p l q m) : Calls Try.prog 9 #[.pointer (some ⟨p, 0, none⟩), .int .i64 g] w fun e w' => e = .returned (.tuple #[.int .i64 (atV g l), .int .i64 (if mIdx g 0 l < 0 then 7 else 0)]) ∧ Only (fun _ => False) w w' := by
  obtain ⟨v, h1, _⟩ := h.1
  exact tat_any p v l g w h1
theorem r_find {b : Nat} {S T : Nat → Prop} {w : World} {p q : Nat} {l m : List Tm} (g : Int) (h : R3 b S T w p l q m) : Calls Try.prog 21 #[.pointer (some ⟨q, 0, none⟩), .int .i64 g] w fun e w' => e = .returned (.int .i64 (mIdx g 0 m)) ∧ Only (fun _ => False) w w' := by
  obtain ⟨a, c, h1, _⟩ := h.2.1
  exact rfind_any q a c m g w h1
end Go.Proofs.Ytiohdfplgpmcdaa.tmw
