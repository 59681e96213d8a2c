/- TimerSteps' walk. -/
import Derived.Test.YtephajjcdklloaaTmK
namespace Go.Proofs.Ytephajjcdklloaa.tmw
open Go.RowKit mem rowz
set_option linter.unusedVariables false

theorem InT_iff (a g : Int) : InT ⟨a, g⟩ ↔ (1 ≤ g ∧ g ≤ 4611686018427387904) ∧ 0 ≤ a ∧ a ≤ 4611686018427387904 := Iff.rfl
instance (x : Tm) : Decidable (InT x) := inferInstanceAs (Decidable ((_ ∧ _) ∧ _ ∧ _))
def setE (l : List Tm) (a g : Int) : Int := if InT ⟨a, g⟩ then 0 else 1
def setL (l : List Tm) (a g : Int) : List Tm := if InT ⟨a, g⟩ then putM ⟨a, g⟩ l else l
theorem setL_len (l : List Tm) (a g : Int) : (setL l a g).length ≤ l.length + 1 := by
  unfold setL putM
  split
  · rw [insM_len]
    have := rem_le g l
    show (remM g l).length + 1 ≤ _
    omega
  · omega
set_option maxRecDepth 100000 in
theorem tset_bad (p : Nat) (a g : Int) (w : World) (h : ¬ InT ⟨a, g⟩) : Calls Try.prog 19 #[.pointer (some ⟨p, 0, none⟩), .int .i64 g, .int .i64 a] w fun e w' => e = .returned (.int .i64 1) ∧ Only (fun _ => False) w w' := by
  rw [InT_iff] at h
  go_enter Try.func19, Try.ntmps19
  by_cases h1 : g < 1
  · go_wp2_with fail
    go_ret
    exact ⟨rfl, Only.refl _ _⟩
  · by_cases h2 : 4611686018427387904 < g
    · go_wp2_with fail
      go_ret
      exact ⟨rfl, Only.refl _ _⟩
    · by_cases h3 : a < 0
      · go_wp2_with fail
        go_ret
        exact ⟨rfl, Only.refl _ _⟩
      · have h4 : 4611686018427387904 < a := by omega
        go_wp2_with fail
        go_ret
        exact ⟨rfl, Only.refl _ _⟩
/-- timers whose blocks are S -/
def TBS (S : Nat → Prop) (w : World) (p : Nat) (l : List Tm) : Prop := ∃ v, TmAt w p v l ∧ Good l ∧ S p ∧ ∀ q, v.ownBlock = some q → S q
theorem TBS.only {S Z : Nat → Prop} {w w' : World} {p : Nat} {l : List Tm} (h : TBS S w p l) (ho : Only Z w w') (hz : ∀ q, S q → ¬ Z q) : TBS S w' p l := by
  obtain ⟨v, h1, h2, h3, h4⟩ := h
  exact ⟨v, h1.only ho (hz _ h3) (fun q hq => hz _ (h4 q hq)), h2, h3, h4⟩
theorem TBS.good {S : Nat → Prop} {w : World} {p : Nat} {l : List Tm} (h : TBS S w p l) : Good l := by obtain ⟨v, _, h2, _⟩ := h; exact h2
def T2 (b : Nat) (S T : Nat → Prop) (w : World) (p : Nat) (l : List Tm) (q : Nat) (m : List Tm) : Prop := TBS S w p l ∧ TBS T w q m ∧ (∀ x, S x → ¬ T x) ∧ (∀ x, S x → b ≤ x ∧ x < w.heap.size) ∧ ∀ x, T x → b ≤ x ∧ x < w.heap.size
theorem T2.symm {b : Nat} {S T : Nat → Prop} {w : World} {p q : Nat} {l m : List Tm} (h : T2 b S T w p l q m) : T2 b T S w q m p l := ⟨h.2.1, h.1, fun x hx hy => h.2.2.1 x hy hx, h.2.2.2.2, h.2.2.2.1⟩
theorem T2.only {b : Nat} {S T : Nat → Prop} {w w' : World} {p q : Nat} {l m : List Tm} (h : T2 b S T w p l q m) (ho : Only (fun _ => False) w w') : T2 b S T w' p l q m :=
  ⟨h.1.only ho (fun _ _ f => f), h.2.1.only ho (fun _ _ f => f), h.2.2.1, fun x hx => ⟨(h.2.2.2.1 x hx).1, Nat.lt_of_lt_of_le (h.2.2.2.1 x hx).2 ho.size⟩, fun x hx => ⟨(h.2.2.2.2 x hx).1, Nat.lt_of_lt_of_le (h.2.2.2.2 x hx).2 ho.size⟩⟩
theorem two_set {b : Nat} {S T : Nat → Prop} {w : World} {p q : Nat} {l m : List Tm} {a g : Int} (h : T2 b S T w p l q m) (hl : l.length ≤ 1000) (hb : b ≤ b) :
    Calls Try.prog 19 #[.pointer (some ⟨p, 0, none⟩), .int .i64 g, .int .i64 a] w fun e w' => e = .returned (.int .i64 (setE l a g)) ∧ (∃ S', T2 b S' T w' p (setL l a g) q m) ∧ Only (fun x => b ≤ x) w w' := by
  by_cases hx : InT ⟨a, g⟩
  · unfold setE setL
    rw [if_pos hx, if_pos hx]
    obtain ⟨⟨v, h1, h2, h3, h4⟩, h5, h6, h7, h8⟩ := h
    refine (tset_any p v l a g w h1 h2.1 hx.1 hx.2).mono ?_
    rintro e w' ⟨hc, ho⟩
    have hs := ho.size
    have hO : Only S w w' := ho.mono fun q _ hq => by
      rcases hq with rfl | hq
      · exact h3
      · exact h4 q hq
    rcases hc with ⟨_, rfl, v', c2, c3⟩ | ⟨c1, _, _⟩
    · refine ⟨rfl, ⟨fun x => S x ∨ (w.heap.size ≤ x ∧ x < w'.heap.size), ⟨v', c2, h2.put hx, .inl h3, fun q hq => ?_⟩, h5.only hO (fun x hT hS => h6 x hS hT), fun x hS hT => ?_, fun x hS => ?_, fun x hT => ?_⟩, hO.mono fun x _ hS => (h7 x hS).1⟩
      · rcases c3 q hq with e | e
        · exact .inl (h4 q e)
        · exact .inr ⟨e, c2.2.2.1.lt hq⟩
      · rcases hS with e | e
        · exact h6 x e hT
        · have := h8 x hT; omega
      · rcases hS with e | e
        · have := h7 x e; omega
        · have := h7 p h3; omega
      · have := h8 x hT; omega
    · have := rem_le g l
      omega
  · unfold setE setL
    rw [if_neg hx, if_neg hx]
    refine (tset_bad p a g w hx).mono ?_
    rintro e w' ⟨rfl, ho⟩
    exact ⟨rfl, ⟨S, h.only ho⟩, ho.mono fun _ _ f => f.elim⟩
theorem leq_dw {α : Type} (f g : α → Bool) (hfg : ∀ x, f x = true → g x = true) : ∀ l : List α, l.takeWhile f ++ (l.dropWhile f).takeWhile g = l.takeWhile g ∧ (l.dropWhile f).dropWhile g = l.dropWhile g
  | [] => ⟨rfl, rfl⟩
  | x :: r => by
    by_cases hx : f x = true
    · rw [List.takeWhile_cons_of_pos hx, List.dropWhile_cons_of_pos hx, List.takeWhile_cons_of_pos (hfg x hx), List.dropWhile_cons_of_pos (hfg x hx)]
      obtain ⟨e1, e2⟩ := leq_dw f g hfg r
      exact ⟨by rw [List.cons_append, e1], e2⟩
    · rw [List.takeWhile_cons_of_neg hx, List.dropWhile_cons_of_neg hx]
      exact ⟨rfl, rfl⟩
theorem due_step {k n : Int} (h : k ≤ n) (l : List Tm) : (dueM k l).map Tm.i ++ (dueM n (leftM k l)).map Tm.i = (dueM n l).map Tm.i ∧ leftM n (leftM k l) = leftM n l := by
  obtain ⟨e1, e2⟩ := leq_dw (fun x : Tm => decide (x.a < k)) (fun x => decide (x.a < n)) (fun x hx => by simp only [decide_eq_true_eq] at hx ⊢; omega) l
  exact ⟨by rw [← List.map_append]; exact congrArg (List.map Tm.i) e1, e2⟩
theorem due_zero {l : List Tm} (h : Good l) : dueM 0 l = [] ∧ leftM 0 l = l := by
  cases l with
  | nil => exact ⟨rfl, rfl⟩
  | cons x r =>
    have := h.2.2 x List.mem_cons_self
    unfold InT at this
    unfold dueM leftM
    rw [List.takeWhile_cons_of_neg (by simp only [decide_eq_true_eq]; omega), List.dropWhile_cons_of_neg (by simp only [decide_eq_true_eq]; omega)]
    exact ⟨rfl, rfl⟩
def DueS (S : Nat → Prop) (p : Nat) (l : List Tm) (now : Int) (w : World) (e : Ending) (w' : World) : Prop :=
  ∃ a c, e = .returned (.slice a ((dueM now l).map Tm.i).length c) ∧ ReadsI w' a ((dueM now l).map Tm.i).length ((dueM now l).map Tm.i) ∧ (∀ y, a = some y → w.heap.size ≤ y.block) ∧ TBS S w' p (leftM now l) ∧ Only S w w'
theorem tdueS {S : Nat → Prop} {p : Nat} {l : List Tm} {w : World} (h : TBS S w p l) (now : Int) : Calls Try.prog 21 #[.pointer (some ⟨p, 0, none⟩), .int .i64 now] w (DueS S p l now w) := by
  obtain ⟨v, h1, h2, h3, h4⟩ := h
  refine (tdue_any p v l now w h1 h2.inK).mono ?_
  rintro e w' ⟨⟨a, c, rfl, h5, h6⟩, ⟨v', h7, h8⟩, h9⟩
  exact ⟨a, c, rfl, h5, h6, ⟨v', h7, h2.left now, h3, fun q hq => h4 q (by rw [← h8]; exact hq)⟩, h9.mono fun q _ hq => by
    rcases hq with rfl | hq
    · exact h3
    · exact h4 q hq⟩
theorem tlenS {S : Nat → Prop} {p : Nat} {l : List Tm} {w : World} (h : TBS S w p l) : Calls Try.prog 22 #[.pointer (some ⟨p, 0, none⟩)] w fun e w' => e = .returned (.int .i64 l.length) ∧ Only (fun _ => False) w w' := by
  obtain ⟨v, h1, _⟩ := h
  exact len_any p v l w h1
set_option maxRecDepth 100000 in
set_option maxHeartbeats 8000000 in
theorem tsteps_any (a : Option Addr) (len cap : Nat) (at_ : Option Addr) (lt ct : Nat) (ts : List Int) (w : World) (hr : RowA w a len) (h : ReadsI w at_ lt ts) :
    Calls Try.prog 5 #[.slice a len cap, .slice at_ lt ct] w fun e w' => e = .returned (.bool true) ∧ Only (fun _ => False) w w' := by
  obtain ⟨i1, hj, hy0, hy1, hy2⟩ := info_parts info_i64
  have HR := Lib.hid h
  have HA := Lib.hid hr.2
  have hlm := hr.1
  unfold maxLen at hlm
  clear h hr
  have hlt := HR.out.2.1
  unfold maxLen at hlt
  go_enter Try.func5, Try.ntmps5
  go_wp2_with fail
  refine (tnew_any w).mono ?_
  rintro _ w1 ⟨rfl, ht1, ho1⟩
  have hs1 : w.heap.size < w1.heap.size := World.block_lt_of_cell? w1 _ ht1.1
  have HT1 := Lib.hid ht1
  have HO1 := Lib.hid ho1
  clear ht1 ho1
  go_wp2_with fail
  refine (tnew_any w1).mono ?_
  rintro _ w2 ⟨rfl, ht2, ho2⟩
  have hs2 : w1.heap.size < w2.heap.size := World.block_lt_of_cell? w2 _ ht2.1
  have HT2 : Hid (T2 w.heap.size (fun x => x = w.heap.size) (fun x => x = w1.heap.size) w2 w.heap.size [] w1.heap.size []) := Lib.hid ⟨⟨_, HT1.out.only ho2 (fun f => f) (fun _ _ f => f), Good.nil, rfl, fun q e => by cases e⟩, ⟨_, ht2, Good.nil, rfl, fun q e => by cases e⟩, fun x h1 h2 => by dsimp only at h1 h2; omega, fun x h1 => by dsimp only at h1; omega, fun x h1 => by dsimp only at h1; omega⟩
  have HO2 := Lib.hid (HO1.out.trans ho2)
  clear ht2 ho2 HT1 HO1
  obtain ⟨p, hp⟩ : ∃ p, p = w.heap.size := ⟨_, rfl⟩
  obtain ⟨q, hq⟩ : ∃ q, q = w1.heap.size := ⟨_, rfl⟩
  obtain ⟨S0, hS0⟩ : ∃ S0 : Nat → Prop, S0 = (fun x => x = w.heap.size) := ⟨_, rfl⟩
  obtain ⟨T0, hT0⟩ : ∃ T0 : Nat → Prop, T0 = (fun x => x = w1.heap.size) := ⟨_, rfl⟩
  have HT : Hid (T2 w.heap.size S0 T0 w2 p [] q []) := by rw [hS0, hT0, hp, hq]; exact HT2
  clear hS0 hT0 HT2
  rw [← hp, ← hq]
  clear hp hq hs1
  go_wp2_with fail
  refine (timers_any _).mono ?_
  rintro _ w3 ⟨rfl, ho⟩
  have HT3 := Lib.hid (HT.out.only ho)
  have HO3 := Lib.hid (HO2.out.trans ho)
  clear ho HT HO2 hs2
  go_upto_block 0 with fail
  go_cut [8] from 19 to 55 (fun v8 wx => ∃ (l : List Tm) (S T : Nat → Prop), Hid (l.length ≤ 60) ∧ Hid (T2 w.heap.size S T wx p l q l) ∧ Hid (Only (fun _ => False) w wx))
  case first =>
    go_wp2_with fail
    go_loopw [8] (fun iv wr => ∃ (i : Nat) (l : List Tm) (S T : Nat → Prop), i ≤ len ∧ i ≤ 60 ∧ iv = .int .i64 i ∧ Hid (l.length ≤ i) ∧ Hid (T2 w.heap.size S T wr p l q l) ∧ Hid (Only (fun _ => False) w wr)) (fun iv _ => 60 - (intOf iv).toNat)
    case atStart => exact ⟨0, [], S0, T0, by omega, by omega, rfl, Lib.hid (Nat.le_refl _), HT3, HO3⟩
    case round =>
      obtain ⟨i, l, S, T, hil, hi4, rfl, HL, h, HO⟩ := hrel
      have hs := HO.out.size
      by_cases h8 : i < len ∧ i < 60
      · obtain ⟨h8, h9⟩ := h8
        have k1 : (i : Int) < len := by omega
        have k2 : (i : Int) < 60 := by omega
        have k3 : (0 : Int) ≤ i := by omega
        obtain ⟨b, off, rfl, hc⟩ := HA.out.resolve_left (by omega)
        obtain ⟨x, y, z, hin, c0, c1, c2⟩ := hc i h8
        have hbw : b < w.heap.size := World.block_lt_of_cell? w _ c1
        have HSL : Hid (∀ w', Only (fun q => w.heap.size ≤ q) wr w' → Only (fun q => w.heap.size ≤ q) wr w' ∧ w'.cell? ⟨b, off + i * 3 + 1, none⟩ = some (.int .i64 y) ∧ w'.cell? ⟨b, off + i * 3 + 2, none⟩ = some (.int .i64 z)) := Lib.hid (fun w' ho => by
          have hh : ∀ {p : Addr} {v : Value}, p.block < w.heap.size → w.cell? p = some v → w'.cell? p = some v := fun hb h => ho.cell' (HO.out.cell' h (fun f => f)) (by omega)
          exact ⟨ho, hh hbw c1, hh hbw c2⟩)
        clear hc c0 c1 c2 hin hbw
        have hlen : l.length ≤ 1000 := by have := HL.out; omega
        have hwb : w.heap.size ≤ w.heap.size := Nat.le_refl _
        go_upto_region 8 with fail
        refine wp_region_noPanic ?_
        refine wp_region_held_drew (S := (fun w' => Only (fun q => w.heap.size ≤ q) wr w' ∧ w'.cell? ⟨b, off + i * 3 + 1, none⟩ = some (.int .i64 y) ∧ w'.cell? ⟨b, off + i * 3 + 2, none⟩ = some (.int .i64 z))) (by kernel_rfl) (HSL.out _ ((Only.refl _ _).drew)) (fun hHeld => ?_)
        have hot := Lib.hid ((Only.refl (fun _ => False) wr).drew)
        refine wpAnyH_take (i := 0) (v := ?_) rfl (by kernel_rfl) (by kernel_rfl) (by kernel_rfl) (fun _ _ _ h => h) (Or.inl ⟨by rfl, ?_⟩) (by assumption) ?_
        rotate_left 1
        · intro w' hSw
          try dsimp only at hSw
          go_simp
          try with_reducible rfl
        try simp only [List.getElem_toArray, List.getElem_cons_zero, Act.put, List.setIfInBounds_toArray, List.set_cons_zero, List.set_cons_succ]
        refine wpAnyH_take (i := 1) (v := ?_) rfl (by kernel_rfl) (by kernel_rfl) (by kernel_rfl) (fun _ _ _ h => h) (Or.inl ⟨by rfl, ?_⟩) (by assumption) ?_
        rotate_left 1
        · intro w' hSw
          try dsimp only at hSw
          go_simp
          try with_reducible rfl
        try simp only [List.getElem_toArray, List.getElem_cons_zero, List.getElem_cons_succ, Act.put, List.setIfInBounds_toArray, List.set_cons_zero, List.set_cons_succ]
        refine wpAnyH_take (i := 2) (v := ?_) rfl (by kernel_rfl) (by kernel_rfl) (by kernel_rfl) (fun _ _ _ h => h) (Or.inl ⟨by rfl, ?_⟩) (by assumption) ?_
        rotate_left 1
        · intro w' hSw
          try dsimp only at hSw
          go_simp
          try with_reducible rfl
        try simp only [List.getElem_toArray, List.getElem_cons_zero, List.getElem_cons_succ, Act.put, List.setIfInBounds_toArray, List.set_cons_zero, List.set_cons_succ]
        refine wpAnyH_take (i := 3) (v := ?_) rfl (by kernel_rfl) (by kernel_rfl) (by kernel_rfl) (fun _ _ _ h => h) (Or.inl ⟨by rfl, ?_⟩) (by assumption) ?_
        rotate_left 1
        · intro w' hSw
          try dsimp only at hSw
          go_simp
          try with_reducible rfl
        try simp only [List.getElem_toArray, List.getElem_cons_zero, List.getElem_cons_succ, Act.put, List.setIfInBounds_toArray, List.set_cons_zero, List.set_cons_succ]
        refine wpAnyH_take (i := 4) (v := ?_) rfl (by kernel_rfl) (by kernel_rfl) (by kernel_rfl) (fun _ _ _ h => h) (Or.inl ⟨by rfl, ?_⟩) (by assumption) ?_
        rotate_left 1
        · intro w' hSw
          try dsimp only at hSw
          go_simp
          try with_reducible rfl
        try simp only [List.getElem_toArray, List.getElem_cons_zero, List.getElem_cons_succ, Act.put, List.setIfInBounds_toArray, List.set_cons_zero, List.set_cons_succ]
        refine wpAnyH_take (i := 5) (v := ?_) rfl (by kernel_rfl) (by kernel_rfl) (by kernel_rfl) (fun _ _ _ h => h) (Or.inl ⟨by rfl, ?_⟩) (by assumption) ?_
        rotate_left 1
        · intro w' hSw
          try dsimp only at hSw
          go_simp
          try with_reducible rfl
        try simp only [List.getElem_toArray, List.getElem_cons_zero, List.getElem_cons_succ, Act.put, List.setIfInBounds_toArray, List.set_cons_zero, List.set_cons_succ]
        refine wpAnyH_take (i := 6) (v := ?_) rfl (by kernel_rfl) (by kernel_rfl) (by kernel_rfl) (fun _ _ _ h => h) (Or.inl ⟨by rfl, ?_⟩) (by assumption) ?_
        rotate_left 1
        · intro w' hSw
          try dsimp only at hSw
          go_simp
          try with_reducible rfl
        try simp only [List.getElem_toArray, List.getElem_cons_zero, List.getElem_cons_succ, Act.put, List.setIfInBounds_toArray, List.set_cons_zero, List.set_cons_succ]
        refine wpAnyH_take (i := 7) (v := ?_) rfl (by kernel_rfl) (by kernel_rfl) (by kernel_rfl) (fun _ _ _ h => h) (Or.inl ⟨by rfl, ?_⟩) (by assumption) ?_
        rotate_left 1
        · intro w' hSw
          try dsimp only at hSw
          go_simp
          try with_reducible rfl
        try simp only [List.getElem_toArray, List.getElem_cons_zero, List.getElem_cons_succ, Act.put, List.setIfInBounds_toArray, List.set_cons_zero, List.set_cons_succ]
        refine wpAnyH_take (i := 8) (v := ?_) rfl (by kernel_rfl) (by kernel_rfl) (by kernel_rfl) (fun _ _ _ h => h) (Or.inl ⟨by rfl, ?_⟩) (by assumption) ?_
        rotate_left 1
        · intro w' hSw
          try dsimp only at hSw
          go_simp
          try with_reducible rfl
        try simp only [List.getElem_toArray, List.getElem_cons_zero, List.getElem_cons_succ, Act.put, List.setIfInBounds_toArray, List.set_cons_zero, List.set_cons_succ]
        refine wpAnyH_take (i := 9) (v := ?_) rfl (by kernel_rfl) (by kernel_rfl) (by kernel_rfl) (fun _ _ _ h => h) (Or.inl ⟨by rfl, ?_⟩) (by assumption) ?_
        rotate_left 1
        · intro w' hSw
          try dsimp only at hSw
          go_simp
          try with_reducible rfl
        try simp only [List.getElem_toArray, List.getElem_cons_zero, List.getElem_cons_succ, Act.put, List.setIfInBounds_toArray, List.set_cons_zero, List.set_cons_succ]
        refine wpAnyH_take (i := 10) (v := ?_) rfl (by kernel_rfl) (by kernel_rfl) (by kernel_rfl) (fun _ _ _ h => h) (Or.inl ⟨by rfl, ?_⟩) (by assumption) ?_
        rotate_left 1
        · intro w' hSw
          try dsimp only at hSw
          go_simp
          try with_reducible rfl
        try simp only [List.getElem_toArray, List.getElem_cons_zero, List.getElem_cons_succ, Act.put, List.setIfInBounds_toArray, List.set_cons_zero, List.set_cons_succ]
        refine wpAnyH_take (i := 12) (v := ?_) rfl (by kernel_rfl) (by kernel_rfl) (by kernel_rfl) (fun _ _ _ h => h) (Or.inl ⟨by rfl, ?_⟩) (by assumption) ?_
        rotate_left 1
        · intro w' hSw
          try dsimp only at hSw
          go_simp
          try with_reducible rfl
        try simp only [List.getElem_toArray, List.getElem_cons_zero, List.getElem_cons_succ, Act.put, List.setIfInBounds_toArray, List.set_cons_zero, List.set_cons_succ]
        refine wpAnyH_take (i := 13) (v := ?_) rfl (by kernel_rfl) (by kernel_rfl) (by kernel_rfl) (fun _ _ _ h => h) (Or.inl ⟨by rfl, ?_⟩) (by assumption) ?_
        rotate_left 1
        · intro w' hSw
          try dsimp only at hSw
          go_simp
          try with_reducible rfl
        try simp only [List.getElem_toArray, List.getElem_cons_zero, List.getElem_cons_succ, Act.put, List.setIfInBounds_toArray, List.set_cons_zero, List.set_cons_succ]
        refine wpAnyH_take (i := 14) (v := ?_) rfl (by kernel_rfl) (by kernel_rfl) (by kernel_rfl) (fun _ _ _ h => h) (Or.inl ⟨by rfl, ?_⟩) (by assumption) ?_
        rotate_left 1
        · intro w' hSw
          try dsimp only at hSw
          go_simp
          try with_reducible rfl
        try simp only [List.getElem_toArray, List.getElem_cons_zero, List.getElem_cons_succ, Act.put, List.setIfInBounds_toArray, List.set_cons_zero, List.set_cons_succ]
        refine wpAnyH_take (i := 15) (v := ?_) rfl (by kernel_rfl) (by kernel_rfl) (by kernel_rfl) (fun _ _ _ h => h) (Or.inl ⟨by rfl, ?_⟩) (by assumption) ?_
        rotate_left 1
        · intro w' hSw
          try dsimp only at hSw
          go_simp
          try with_reducible rfl
        try simp only [List.getElem_toArray, List.getElem_cons_zero, List.getElem_cons_succ, Act.put, List.setIfInBounds_toArray, List.set_cons_zero, List.set_cons_succ]
        refine wpAnyH_take (i := 16) (v := ?_) rfl (by kernel_rfl) (by kernel_rfl) (by kernel_rfl) (fun _ _ _ h => h) (Or.inl ⟨by rfl, ?_⟩) (by assumption) ?_
        rotate_left 1
        · intro w' hSw
          try dsimp only at hSw
          go_simp
          try with_reducible rfl
        try simp only [List.getElem_toArray, List.getElem_cons_zero, List.getElem_cons_succ, Act.put, List.setIfInBounds_toArray, List.set_cons_zero, List.set_cons_succ]
        refine wpAnyH_take (i := 17) (v := ?_) rfl (by kernel_rfl) (by kernel_rfl) (by kernel_rfl) (fun _ _ _ h => h) (Or.inl ⟨by rfl, ?_⟩) (by assumption) ?_
        rotate_left 1
        · intro w' hSw
          try dsimp only at hSw
          go_simp
          try with_reducible rfl
        try simp only [List.getElem_toArray, List.getElem_cons_zero, List.getElem_cons_succ, Act.put, List.setIfInBounds_toArray, List.set_cons_zero, List.set_cons_succ]
        refine wpAnyH_take (i := 18) (v := ?_) rfl (by kernel_rfl) (by kernel_rfl) (by kernel_rfl) (fun _ _ _ h => h) (Or.inl ⟨by rfl, ?_⟩) (by assumption) ?_
        rotate_left 1
        · intro w' hSw
          try dsimp only at hSw
          go_simp
          try with_reducible rfl
        try simp only [List.getElem_toArray, List.getElem_cons_zero, List.getElem_cons_succ, Act.put, List.setIfInBounds_toArray, List.set_cons_zero, List.set_cons_succ]
        refine wpAnyH_take (i := 19) (v := ?_) rfl (by kernel_rfl) (by kernel_rfl) (by kernel_rfl) (fun _ _ _ h => h) (Or.inl ⟨by rfl, ?_⟩) (by assumption) ?_
        rotate_left 1
        · intro w' hSw
          try dsimp only at hSw
          go_simp
          try with_reducible rfl
        try simp only [List.getElem_toArray, List.getElem_cons_zero, List.getElem_cons_succ, Act.put, List.setIfInBounds_toArray, List.set_cons_zero, List.set_cons_succ]
        refine wpAnyH_take (i := 20) (v := ?_) rfl (by kernel_rfl) (by kernel_rfl) (by kernel_rfl) (fun _ _ _ h => h) (Or.inl ⟨by rfl, ?_⟩) (by assumption) ?_
        rotate_left 1
        · intro w' hSw
          try dsimp only at hSw
          go_simp
          try with_reducible rfl
        try simp only [List.getElem_toArray, List.getElem_cons_zero, List.getElem_cons_succ, Act.put, List.setIfInBounds_toArray, List.set_cons_zero, List.set_cons_succ]
        refine wpAnyH_take (i := 21) (v := ?_) rfl (by kernel_rfl) (by kernel_rfl) (by kernel_rfl) (fun _ _ _ h => h) (Or.inl ⟨by rfl, ?_⟩) (by assumption) ?_
        rotate_left 1
        · intro w' hSw
          try dsimp only at hSw
          go_simp
          try with_reducible rfl
        try simp only [List.getElem_toArray, List.getElem_cons_zero, List.getElem_cons_succ, Act.put, List.setIfInBounds_toArray, List.set_cons_zero, List.set_cons_succ]
        refine wpAnyH_take (i := 22) (v := ?_) rfl (by kernel_rfl) (by kernel_rfl) (by kernel_rfl) (fun _ _ _ h => h) (Or.inl ⟨by rfl, ?_⟩) (by assumption) ?_
        rotate_left 1
        · intro w' hSw
          try dsimp only at hSw
          go_simp
          try with_reducible rfl
        try simp only [List.getElem_toArray, List.getElem_cons_zero, List.getElem_cons_succ, Act.put, List.setIfInBounds_toArray, List.set_cons_zero, List.set_cons_succ]
        refine wpAnyH_ready (rs := [11]) (by kernel_rfl) (by simp) ?_
        refine AllReadyH.cons rfl (fun K hK => ?_) AllReadyH.nil
        try simp only [List.getElem_toArray, List.getElem_cons_zero, List.getElem_cons_succ]
        go_simp
        go_at_call 19
        with_reducible refine (two_set (h.out.only hot.out) hlen hwb).mono ?_
        rintro _ wn ⟨rfl, ⟨S', ht⟩, ho⟩
        replace hot := Lib.hid ((hot.out.mono (fun q _ f => f.elim)).trans ho)
        have h2 := Lib.hid ht
        clear ho ht
        try dsimp only
        refine hK.out _ _ (HSL.out _ hot.out) (fun hHeld1 => ?_)
        clear hK K
        try simp only [List.getElem_toArray, List.getElem_cons_zero, List.getElem_cons_succ, Act.put, List.setIfInBounds_toArray, List.set_cons_zero, List.set_cons_succ]
        refine wpAnyH_ready (rs := [23]) (by kernel_rfl) (by simp) ?_
        refine AllReadyH.cons rfl (fun K hK => ?_) AllReadyH.nil
        try simp only [List.getElem_toArray, List.getElem_cons_zero, List.getElem_cons_succ]
        go_simp
        go_at_call 19
        with_reducible refine (two_set h2.out.symm hlen hwb).mono ?_
        rintro _ wm ⟨rfl, ⟨T', ht⟩, ho⟩
        replace hot := Lib.hid (hot.out.trans ho)
        have h3 := Lib.hid ht.symm
        clear ho ht
        try dsimp only
        refine hK.out _ _ (HSL.out _ hot.out) (fun hHeld2 => ?_)
        clear hK K
        try simp only [List.getElem_toArray, List.getElem_cons_zero, List.getElem_cons_succ, Act.put, List.setIfInBounds_toArray, List.set_cons_zero, List.set_cons_succ]
        refine wpAnyH_take (i := 24) (v := ?_) rfl (by kernel_rfl) (by kernel_rfl) (by kernel_rfl) (fun _ _ _ h => h) (Or.inl ⟨by rfl, ?_⟩) (by assumption) ?_
        rotate_left 1
        · intro w' hSw
          try dsimp only at hSw
          go_simp
          try with_reducible rfl
        try simp only [List.getElem_toArray, List.getElem_cons_zero, List.getElem_cons_succ, Act.put, List.setIfInBounds_toArray, List.set_cons_zero, List.set_cons_succ]
        refine wpAnyH_take (i := 25) (v := ?_) rfl (by kernel_rfl) (by kernel_rfl) (by kernel_rfl) (fun _ _ _ h => h) (Or.inl ⟨by rfl, ?_⟩) (by assumption) ?_
        rotate_left 1
        · intro w' hSw
          try dsimp only at hSw
          go_simp
          try with_reducible rfl
        try simp only [List.getElem_toArray, List.getElem_cons_zero, List.getElem_cons_succ, Act.put, List.setIfInBounds_toArray, List.set_cons_zero, List.set_cons_succ]
        refine wpAnyH_done (by kernel_rfl) ?_ _
        refine NoPanic.normal ?_
        have HLN := Lib.hid (setL_len l z y)
        generalize setL l z y = l' at *
        generalize setE l z y = e' at *
        have hee : (e' != e') = false := by simp
        have HOF := Lib.hid (HO.out.then hot.out (fun q hq e => by omega))
        go_wp2_with fail
        go_roundw
        case rel => exact ⟨i + 1, l', S', T', by omega, by omega, by go_num, Lib.hid (by have := HLN.out; have := HL.out; omega), h3, HOF⟩
        case measure => simp [intOf]; omega
      · have HL4 : Hid (l.length ≤ 60) := Lib.hid (Nat.le_trans HL.out hi4)
        by_cases h9 : i < len
        · have k1 : (i : Int) < len := by omega
          have k2 : ¬ (i : Int) < 60 := by omega
          go_wp2_with fail
          go_meet
          exact ⟨l, S, T, HL4, h, HO⟩
        · have k1 : ¬ (i : Int) < len := by omega
          go_wp2_with fail
          go_meet
          exact ⟨l, S, T, HL4, h, HO⟩
  case rest =>
    obtain ⟨l, S, T, HL, h, HO⟩ := hcut
    rename World => W1
    clear HT3 HO3
    have hll : l.length ≤ 60 := HL.out
    go_wp2_with fail
    refine (tlenS h.out.1).mono ?_
    rintro _ W2 ⟨rfl, ho⟩
    have H2 := Lib.hid (h.out.only ho)
    have HO2 := Lib.hid (HO.out.trans ho)
    clear ho HO h
    obtain ⟨z1, z2⟩ := due_zero H2.out.1.good
    have HZ1 : Hid ((dueM 0 l).map Tm.i = [] ∧ leftM 0 l = l) := Lib.hid ⟨by rw [z1]; rfl, z2⟩
    clear z1 z2
    have HTS := Lib.hid H2.out.2.1
    have HSS : Hid (TBS S W2 p (leftM 0 l)) := Lib.hid (by rw [HZ1.out.2]; exact H2.out.1)
    have HDJ := Lib.hid H2.out.2.2.1
    have HSW := Lib.hid (fun x hx => (H2.out.2.2.2.1 x hx).2)
    have HTW := Lib.hid (fun x hx => (H2.out.2.2.2.2 x hx).2)
    have HSB := Lib.hid (fun x hx => (H2.out.2.2.2.1 x hx).1)
    have HTB := Lib.hid (fun x hx => (H2.out.2.2.2.2 x hx).1)
    have HG := Lib.hid H2.out.1.good
    have HK : Hid (∀ now : Int, ∀ c ∈ (dueM now l).map Tm.i, InK c) := Lib.hid (fun now c hc => by
      obtain ⟨x, hx, rfl⟩ := List.mem_map.1 hc
      exact HG.out.inK x ((due_mem now l x).2 (.inl hx)))
    have HDL : Hid (∀ now : Int, ((dueM now l).map Tm.i).length + (leftM now l).length = l.length) := Lib.hid (fun now => by
      rw [List.length_map, ← List.length_append, due_left])
    have hsw := HO2.out.size
    clear H2
    go_upto_block 2 with fail
    go_cut [11, 12] from 58 to 81 (fun nv gv wx => ∃ now : Int, nv = .int .i64 now ∧ Hid (TBS S wx p (leftM now l)) ∧ Hid (OwnI wx gv ((dueM now l).map Tm.i)) ∧ Hid (∀ x, gv.ownBlock = some x → W2.heap.size ≤ x) ∧ Hid (Only S W2 wx))
    case first =>
      go_wp2_with fail
      go_loopw [11, 12, 13] (fun nv gv iv wr => ∃ (i : Nat) (now : Int) (v : Value), i ≤ lt ∧ i ≤ 40 ∧ iv = .int .i64 i ∧ nv = .int .i64 now ∧ v = gv ∧ Hid (0 ≤ now ∧ now ≤ i * 36028797018963968) ∧ Hid (TBS S wr p (leftM now l)) ∧ Hid (OwnI wr v ((dueM now l).map Tm.i)) ∧ Hid (∀ x, v.ownBlock = some x → W2.heap.size ≤ x) ∧ Hid (Only S W2 wr)) (fun _ _ iv _ => 40 - (intOf iv).toNat)
      case atStart => exact ⟨0, 0, _, by omega, by omega, rfl, rfl, rfl, Lib.hid (by omega), HSS, Lib.hid (by rw [HZ1.out.1]; exact OwnI.nil _), Lib.hid (fun x e => by cases e), Lib.hid (Only.refl _ _)⟩
      case round =>
        obtain ⟨i, now, v, hil, hi4, rfl, rfl, rfl, HN, HT, HW, HB, HO3⟩ := hrel
        by_cases h8 : i < lt ∧ i < 40
        · obtain ⟨h8, h9⟩ := h8
          have k1 : (i : Int) < lt := by omega
          have k2 : (i : Int) < 40 := by omega
          have k3 : (0 : Int) ≤ i := by omega
          obtain ⟨b, off, rfl, hc⟩ := HR.out.2.2.2.resolve_left (by omega)
          have c1 := hc i h8
          have hbw : b < w.heap.size := World.block_lt_of_cell? w _ c1
          have e1 := HO3.out.cell' (HO2.out.cell' c1 (fun f => f)) (fun hS => by have := HSB.out b hS; omega)
          clear hc c1 hbw
          generalize ts.getD i 0 = z at *
          have hz := tmod_in z 36028797018963968 (by decide) (by decide)
          have hN := HN.out
          generalize hzv : wrap64 ((IntKind.u64.wrap z).tmod 36028797018963968) = zv at hz
          have HZV := Lib.hid hzv
          have hws : wrap64 (now + zv) = now + zv := by rw [wrap64_eq]; omega
          have HN2 : Hid (0 ≤ now + zv ∧ now + zv ≤ ((i + 1 : Nat) : Int) * 36028797018963968) := Lib.hid (by omega)
          have HLE : Hid (now ≤ now + zv) := Lib.hid (by omega)
          clear hz hN
          go_wp2_with fail
          refine (tdueS HT.out (now + zv)).mono ?_
          rintro _ W4 ⟨a4, c4, rfl, hr4, ha4, ht4, ho4⟩
          obtain ⟨d1, d2⟩ := due_step HLE.out l
          rw [d2] at ht4
          have HT4 := Lib.hid ht4
          have HR4 := Lib.hid hr4
          have HD4 := Lib.hid d1
          have HW4 := Lib.hid (HW.out.only ho4 (fun x e hS => by have := HB.out x e; have := HSW.out x hS; omega))
          have HO4 := Lib.hid (HO3.out.trans ho4)
          have hsW := HO3.out.size
          have hs4 := ho4.size
          clear ht4 hr4 d1 d2 ho4 HO3 HT HW ha4
          have hk1 : ((dueM now l).map Tm.i).length ≤ 60 := by have := HDL.out now; omega
          have hk2 : ((dueM (now + zv) (leftM now l)).map Tm.i).length ≤ 60 := by
            have e := congrArg List.length HD4.out
            have := HDL.out (now + zv)
            rw [List.length_append] at e
            omega
          generalize hnd : (dueM (now + zv) l).map Tm.i = nd at *
          generalize (dueM now l).map Tm.i = d0 at *
          generalize (dueM (now + zv) (leftM now l)).map Tm.i = d4 at *
          generalize hm : d4.length = m at *
          generalize hn0 : d0.length = n0 at *
          have HMM := Lib.hid hm
          have HNN := Lib.hid hn0
          have HND := Lib.hid hnd
          clear hm hn0 hnd HDL HK HLE
          have HWO : Hid (W4.ownsRow 0 3 1 v n0 (iv d0)) := Lib.hid (by have h9 := HW4.out; unfold OwnI at h9; rw [HNN.out] at h9; exact h9)
          rcases a4 with _ | x4
          · have h0 : m = 0 := by
              rcases HR4.out.2.2.2 with h0 | ⟨_, _, e, _⟩
              · exact h0
              · cases e
            subst h0
            have HNE : Hid (nd = d0) := Lib.hid (by rw [← HD4.out, List.eq_nil_of_length_eq_zero HMM.out, List.append_nil])
            have HBN : Hid (W2.heap.size ≤ W4.heap.size) := Lib.hid (by omega)
            rcases HW4.out.2 with ⟨hv, hn⟩ | ⟨gv, cpv, _, hv, _, _, hcc, _, _⟩
            · subst hv
              have HW5 : Hid (OwnI W4 _ nd) := Lib.hid (by rw [HNE.out]; exact HW4.out)
              clear HWO HW4 HD4
              go_wp2_with fail
              go_roundw
              case rel => exact ⟨i + 1, now + zv, _, by omega, by omega, by go_num, rfl, rfl, HN2, HT4, by rw [HND.out]; exact HW5, HB, HO4⟩
              case measure => simp [intOf]; omega
            · subst hv
              have HW5 : Hid (OwnI W4 _ nd) := Lib.hid (by rw [HNE.out]; exact HW4.out)
              rw [HNN.out] at HW5 hcc
              clear HWO HW4 HD4
              rw [HNN.out]
              go_wp2_with fail
              go_roundw
              case rel => exact ⟨i + 1, now + zv, _, by omega, by omega, by go_num, rfl, rfl, HN2, HT4, by rw [HND.out]; exact HW5, HB, HO4⟩
              case measure => simp [intOf]; omega
          · go_wp2_with (at_builtin; refine append_mine rfl _ _ 22 rfl 3 i1 _ 1 8 Try.underlying22 hj hy0 hy1 hy2 rfl (by decide) _ n0 _ rfl HWO.out x4 m c4 (iv d4) rfl ?c1 ?c2 ?c3 ?c4 ?c5 ?_)
            case c1 => rw [iv_length, HMM.out, Nat.mul_one]
            case c2 => exact newsI HR4.out
            case c3 => exact iv_one d4
            case c4 => unfold maxLen; omega
            case c5 => omega
            intro v5 W5 hown hgrow hkk
            have HW5 : Hid (OwnI W5 v5 nd) := Lib.hid (by unfold OwnI; rw [← HD4.out, List.length_append, HMM.out, HNN.out, iv_append]; exact hown)
            have HT5 : Hid (TBS S W5 p (leftM (now + zv) l)) := Lib.hid (HT4.out.only (Only.of_grown hgrow) (fun x hS e => by have := HB.out x e; have := HSW.out x hS; omega))
            have HO5 : Hid (Only S W2 W5) := Lib.hid (HO4.out.then (Only.of_grown hgrow) (fun x hx e => by have := HB.out x e; omega))
            have HB5 : Hid (∀ x, v5.ownBlock = some x → W2.heap.size ≤ x) := Lib.hid (fun x hx => by
              rcases hkk x hx with e | e
              · exact HB.out x e
              · omega)
            clear hown hgrow hkk HWO HW4 HD4 HB HT4 HO4
            go_wp2_with fail
            go_roundw
            case rel => exact ⟨i + 1, now + zv, _, by omega, by omega, by go_num, rfl, rfl, HN2, HT5, by rw [HND.out]; exact HW5, HB5, HO5⟩
            case measure => simp [intOf]; omega
        · have HNX : Hid (0 ≤ now) := Lib.hid HN.out.1
          by_cases h9 : i < lt
          · have k1 : (i : Int) < lt := by omega
            have k2 : ¬ (i : Int) < 40 := by omega
            go_wp2_with fail
            go_meet
            exact ⟨now, rfl, HT, HW, HB, HO3⟩
          · have k1 : ¬ (i : Int) < lt := by omega
            go_wp2_with fail
            go_meet
            exact ⟨now, rfl, HT, HW, HB, HO3⟩
    case rest =>
      obtain ⟨now, rfl, HT, HW, HB, HO3⟩ := hcut
      rename World => W5
      clear HSS HZ1
      have HTU := Lib.hid (HTS.out.only HO3.out (fun x hT hS => HDJ.out x hS hT))
      have hdl := HDL.out now
      have HOX := Lib.hid (HO2.out.then HO3.out (fun x hx e => by have := HSB.out x e; omega))
      have hd60 : ((dueM now l).map Tm.i).length ≤ 60 := by omega
      obtain ⟨ag, cg, rfl, hrg⟩ := HW.out.reads (HK.out now) (by omega)
      have HRG := Lib.hid hrg
      have HBG : Hid (∀ y, ag = some y → ¬ T y.block) := Lib.hid (fun y e hT => by
        subst e
        have h1 := HB.out y.block rfl
        have h2 := HTW.out y.block hT
        omega)
      clear HDJ HDL HK HTS HO2 HO3 hrg HW HB
      have HTL := Lib.hid (tlenS HT.out)
      have HDU := Lib.hid (fun w' (ho : Only (fun _ => False) W5 w') => tdueS (HTU.out.only ho (fun _ _ f => f)) now)
      have HTR : Hid (∀ w', TBS T w' q (leftM now l) → Calls Try.prog 22 #[.pointer (some ⟨q, 0, none⟩)] w' fun e w'' => e = .returned (.int .i64 (leftM now l).length) ∧ Only (fun _ => False) w' w'') := Lib.hid fun w' hw => tlenS hw
      unfold DueS at HDU
      generalize (leftM now l).length = r at *
      generalize (dueM now l).map Tm.i = ds at *
      generalize hdn : ds.length = dn at *
      generalize l.length = L at *
      have hsum : wrap64 ((r : Int) + dn) = L := by rw [wrap64_eq]; omega
      go_wp2_with fail
      refine HTL.out.mono ?_
      rintro _ W6 ⟨rfl, ho6⟩
      have H6 := Lib.hid ho6
      clear ho6 HTL
      go_wp2_with fail
      refine (HDU.out W6 H6.out).mono ?_
      rintro _ W7 ⟨a7, c7, rfl, hr7, ha7, ht7, ho7⟩
      have HR7 := Lib.hid hr7
      have HT7 := Lib.hid ht7
      have HG7 := Lib.hid ((HRG.out.only H6.out (fun _ _ f => f)).only ho7 HBG.out)
      have HO7 := Lib.hid ((HOX.out.trans H6.out).then ho7 (fun x hx e => by have := HTB.out x e; omega))
      clear hr7 ha7 ht7 ho7 HRG HDU HOX H6
      go_wp2_with fail
      refine (same_any ag a7 dn cg c7 ds W7 HG7.out HR7.out).mono ?_
      rintro _ W8 ⟨rfl, ho8⟩
      have H8 := Lib.hid ho8
      clear ho8 HG7 HR7
      go_wp2_with fail
      refine (HTR.out W8 (HT7.out.only H8.out (fun _ _ f => f))).mono ?_
      rintro _ W9 ⟨rfl, ho9⟩
      have H9 := Lib.hid (HO7.out.trans (H8.out.trans ho9))
      clear ho9 H8 HO7 HT7
      go_wp2_with fail
      go_ret
      exact ⟨rfl, H9.out⟩
theorem tsteps_walk (a : Option Addr) (len cap : Nat) (at_ : Option Addr) (lt ct : Nat) (w : World) (hr : RowA w a len) (h : ∃ l, IntsR w at_ lt ct l) :
    Calls Try.prog 5 #[.slice a len cap, .slice at_ lt ct] w fun e w' => e = .returned (.bool true) ∧ Below w.heap.size w w' :=
  h.elim fun l h => (tsteps_any a len cap at_ lt ct l w hr h.1).mono fun _ _ ⟨h1, h2⟩ => ⟨h1, h2.none⟩
end Go.Proofs.Ytephajjcdklloaa.tmw
