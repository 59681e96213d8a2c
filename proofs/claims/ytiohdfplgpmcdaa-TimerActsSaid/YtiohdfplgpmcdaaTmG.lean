/- Timers: Set. -/
import Derived.Test.YtiohdfplgpmcdaaTmF
namespace Go.Proofs.Ytiohdfplgpmcdaa.tmw
open Go.RowKit mem rowz
set_option linter.unusedVariables false

theorem tins_any (v : Value) (l : List Tm) (k : Nat) (xa xi : Int) (vb : Nat) (w : World) (h : OwnM w v l) (hx : w.heap[vb]? = some (.cells #[.int .i64 xa, .int .i64 xi] 80 (0, 0))) (hl : l.length ≤ 2000) (hk : k ≤ l.length) (hvb : v.ownBlock ≠ some vb) :
    Calls Try.prog 42 #[v, .int .i64 k, .slice (some ⟨vb, 0, none⟩) 1 1] w (InsAt v l k xa xi w) := by
  by_cases he : k = l.length
  · subst he; exact tins_end v l xa xi vb w h hx hl
  · rcases h.form with ⟨_, h2⟩ | ⟨g, cap, rfl, _⟩
    · subst h2; simp at hk; exact absurd hk (by simpa using he)
    · by_cases hr : l.length + 1 ≤ cap
      · exact tins_shift g cap l k xa xi vb w h hx hl (by omega) hr (fun e => hvb (by rw [e]; rfl))
      · exact tins_grow g cap l k xa xi vb w h hx hl (by omega) (by omega)
/-- where it belongs -/
def insM (x : Tm) : List Tm → List Tm
  | [] => [x]
  | y :: r => if ltM y x then y :: insM x r else x :: y :: r
theorem ins_at (x : Tm) : ∀ (l : List Tm) (k : Nat), k ≤ l.length → (∀ j, j < k → ltM (l.getD j default) x) → (∀ j, k ≤ j → j < l.length → ¬ ltM (l.getD j default) x) → l.take k ++ x :: l.drop k = insM x l := by
  intro l
  induction l with
  | nil => intro k h1 h2 h3; simp [insM]
  | cons y r ih =>
    intro k h1 h2 h3
    unfold insM
    cases k with
    | zero =>
      have := h3 0 (by omega) (by simp)
      rw [if_neg (by simpa [List.getD] using this)]
      rfl
    | succ k =>
      have := h2 0 (by omega)
      rw [if_pos (by simpa [List.getD] using this), List.take_succ_cons, List.drop_succ_cons, List.cons_append, ih k (by simpa using h1) (fun j hj => by simpa [List.getD] using h2 (j + 1) (by omega)) (fun j hj hl => by simpa [List.getD] using h3 (j + 1) (by omega) (by simpa using hl))]
theorem remM_sub (g : Int) : ∀ l : List Tm, (remM g l).Sublist l
  | [] => List.Sublist.slnil
  | p :: r => by
    unfold remM
    split
    · exact List.sublist_cons_self _ _
    · exact (remM_sub g r).cons_cons p
theorem only_tr {S T : Nat → Prop} {a b c : World} (h : Only S a b) (k : Only T b c) (hT : ∀ q, T q → S q) : Only S a c := h.trans (k.mono (fun q _ e => hT q e))
def SetAt (p : Nat) (v : Value) (l : List Tm) (at_ g : Int) (w : World) (e : Ending) (w' : World) : Prop :=
  (((remM g l).length < 1024 ∧ e = .returned (.int .i64 0) ∧ ∃ v', TmAt w' p v' (insM ⟨at_, g⟩ (remM g l)) ∧ ∀ q, v'.ownBlock = some q → v.ownBlock = some q ∨ w.heap.size ≤ q) ∨ (1024 ≤ (remM g l).length ∧ e = .returned (.int .i64 10) ∧ ∃ v', TmAt w' p v' (remM g l) ∧ v'.ownBlock = v.ownBlock)) ∧ Only (TmS p v) w w'
set_option maxRecDepth 100000 in
set_option maxHeartbeats 4000000 in
theorem tset_any (p : Nat) (v : Value) (l : List Tm) (at_ g : Int) (w : World) (h : TmAt w p v l) (hs : l.Pairwise ltM) (h1 : 1 ≤ g ∧ g ≤ 4611686018427387904) (h2 : 0 ≤ at_ ∧ at_ ≤ 4611686018427387904) :
    Calls Try.prog 12 #[.pointer (some ⟨p, 0, none⟩), .int .i64 g, .int .i64 at_] w (SetAt p v l at_ g w) := by
  have HD := Lib.hid (tdrop_any p v l g w h)
  generalize (if mIdx g 0 l < 0 then (7 : Int) else 0) = dr at HD
  have HSO : Hid ((remM g l).Pairwise ltM) := Lib.hid (hs.sublist (remM_sub g l))
  have HPW : Hid (p < w.heap.size) := Lib.hid (World.block_lt_of_cell? w _ h.1)
  clear h hs
  have g1 : ¬ g < 1 := by omega
  have g2 : ¬ 4611686018427387904 < g := by omega
  have g3 : ¬ at_ < 0 := by omega
  have g4 : ¬ 4611686018427387904 < at_ := by omega
  clear h1 h2
  go_enter Try.func12, Try.ntmps12
  go_wp2_with fail
  refine HD.out.mono ?_
  rintro _ W1 ⟨rfl, ⟨v1, hT1, hb1⟩, k1⟩
  have K1 := Lib.hid k1
  have HT1 := Lib.hid hT1
  have HB1 := Lib.hid hb1
  obtain ⟨c1p, c1f, c1o, c1n, c1l⟩ := hT1
  obtain ⟨a1, c1, rfl, hcap1, hrd1⟩ := c1o.reads
  obtain ⟨n1, hn1⟩ : ∃ n, (remM g l).length = n := ⟨_, rfl⟩
  have HN1 := Lib.hid hn1
  clear k1 HD hb1
  by_cases hfull : 1024 ≤ n1
  · have HQ : Hid (SetAt p v l at_ g w (.returned (.int .i64 10)) W1) := Lib.hid ⟨.inr ⟨by omega, rfl, _, HT1.out, HB1.out⟩, K1.out⟩
    rw [hn1] at c1p
    have hf : (1024 : Int) ≤ n1 := by omega
    generalize SetAt p v l at_ g w = Q at *
    clear hrd1 c1o c1n c1l
    go_wp2_with fail
    exact HQ.out
  · have hf : ¬ (1024 : Int) ≤ n1 := by omega
    have hn2 : n1 ≤ 2000 := by omega
    obtain ⟨W2, hW2⟩ : ∃ x, x = W1.alloc (.cells #[.int .i64 at_, .int .i64 g] 80) := ⟨_, rfl⟩
    obtain ⟨xb, hxb⟩ : ∃ x, x = W1.heap.size := ⟨_, rfl⟩
    have HO2 : Hid (Only (fun _ => False) W1 W2) := Lib.hid (by rw [hW2]; exact (Only.refl _ _).alloc _)
    have HX2 : Hid (W2.cell? ⟨xb, 0, none⟩ = some (.int .i64 at_) ∧ W2.cell? ⟨xb, 1, none⟩ = some (.int .i64 g)) := Lib.hid (by rw [hW2, hxb]; exact ⟨alloc_newM _ _ _ _ _ _ rfl rfl, alloc_newM _ _ _ _ _ _ rfl rfl⟩)
    have HR2 := Lib.hid (hrd1.only HO2.out (fun _ _ f => f))
    have HOW2 := Lib.hid (c1o.only HO2.out (fun _ _ f => f))
    have HPN : Hid ((Value.slice a1 (remM g l).length c1).ownBlock ≠ some p) := Lib.hid c1n
    have HC2 : Hid (W2.cell? ⟨p, 0, none⟩ = some (.slice a1 n1 c1) ∧ W2.frozen? ⟨p, 0, none⟩ = false) := Lib.hid (by
      rw [← hn1]
      exact ⟨HO2.out.cell' c1p (fun f => f), (HO2.out.frozen (p := ⟨p, 0, none⟩) (World.block_lt_of_cell? _ _ c1p) (fun f => f)).trans c1f⟩)
    have HXL : Hid (∀ q, (Value.slice a1 (remM g l).length c1).ownBlock = some q → q < W2.heap.size) := Lib.hid (fun q hq => HOW2.out.lt hq)
    rw [hn1] at c1p HR2 HPN HXL
    have HOW2 : Hid (OwnM W2 (.slice a1 n1 c1) (remM g l)) := by rw [hn1] at HOW2; exact HOW2
    have HSR : Hid (∀ w', Only (fun _ => False) W2 w' → Calls Try.prog 40 #[.slice a1 n1 c1, .agg #[.int .i64 at_, .int .i64 g], .func (.func 41) #[] #[]] w' (SrchAt (remM g l) n1 at_ g w')) := Lib.hid (fun w' ho => tsearch_any a1 n1 c1 (remM g l) at_ g w' (HR2.out.only ho (fun _ _ f => f)) hn2 HSO.out)
    unfold SrchAt at HSR
    have HS7 : Hid (∀ w', Only (fun _ => False) W2 w' → Only (fun _ => False) W2 w' ∧ w'.cell? ⟨p, 0, none⟩ = some (.slice a1 n1 c1) ∧ w'.cell? ⟨xb, 0, none⟩ = some (.int .i64 at_) ∧ w'.cell? ⟨xb, 1, none⟩ = some (.int .i64 g)) := Lib.hid (fun w' ho => ⟨ho, ho.cell' HC2.out.1 (fun f => f), ho.cell' HX2.out.1 (fun f => f), ho.cell' HX2.out.2 (fun f => f)⟩)
    have HPW1 : Hid (p < xb) := Lib.hid (by rw [hxb]; have := K1.out.size; have := HPW.out; omega)
    have HXL1 : Hid (∀ q, (Value.slice a1 n1 c1).ownBlock = some q → q < xb) := Lib.hid (fun q hq => by rw [hxb]; rw [hn1] at c1o; exact c1o.lt hq)
    clear hrd1 c1o c1n c1l
    go_upto_region 7 with fail
    rw [← hW2, ← hxb]
    clear hW2 hxb c1p
    go_cut [8, 9] from 40 to 48 (fun v8 v9 wx => ∃ (k : Nat) (f : Bool), v8 = .int .i64 k ∧ v9 = .bool f ∧ Hid (k ≤ n1 ∧ (∀ j, j < k → ltM ((remM g l).getD j default) ⟨at_, g⟩) ∧ (∀ j, k ≤ j → j < n1 → ¬ ltM ((remM g l).getD j default) ⟨at_, g⟩)) ∧ Hid (Only (fun _ => False) W2 wx))
    case first =>
      refine wp_region_noPanic ?_
      refine wp_region_held_drew (S := (fun w' => Only (fun _ => False) W2 w' ∧ w'.cell? ⟨p, 0, none⟩ = some (.slice a1 n1 c1) ∧ w'.cell? ⟨xb, 0, none⟩ = some (.int .i64 at_) ∧ w'.cell? ⟨xb, 1, none⟩ = some (.int .i64 g))) (by kernel_rfl) (HS7.out _ (Only.refl _ _).drew) (fun hHeld => ?_)
      have hot := Lib.hid ((Only.refl (fun _ => False) W2).drew)
      refine wpAnyH_take (i := 0) (v := ?_) rfl (by kernel_rfl) (by kernel_rfl) (by kernel_rfl) (fun _ _ _ h => h) (Or.inl ⟨by rfl, ?_⟩) (by assumption) ?_
      rotate_left 1
      · intro w' hSw
        try dsimp only at hSw
        go_simp
        try with_reducible rfl
      try simp only [List.getElem_toArray, List.getElem_cons_zero, Act.put, List.setIfInBounds_toArray, List.set_cons_zero, List.set_cons_succ]
      refine wpAnyH_take (i := 1) (v := ?_) rfl (by kernel_rfl) (by kernel_rfl) (by kernel_rfl) (fun _ _ _ h => h) (Or.inl ⟨by rfl, ?_⟩) (by assumption) ?_
      rotate_left 1
      · intro w' hSw
        try dsimp only at hSw
        go_simp
        try with_reducible rfl
      try simp only [List.getElem_toArray, List.getElem_cons_zero, List.getElem_cons_succ, Act.put, List.setIfInBounds_toArray, List.set_cons_zero, List.set_cons_succ]
      refine wpAnyH_take (i := 2) (v := ?_) rfl (by kernel_rfl) (by kernel_rfl) (by kernel_rfl) (fun _ _ _ h => h) (Or.inl ⟨by rfl, ?_⟩) (by assumption) ?_
      rotate_left 1
      · intro w' hSw
        try dsimp only at hSw
        go_simp
        try with_reducible rfl
      try simp only [List.getElem_toArray, List.getElem_cons_zero, List.getElem_cons_succ, Act.put, List.setIfInBounds_toArray, List.set_cons_zero, List.set_cons_succ]
      refine wpAnyH_take (i := 3) (v := ?_) rfl (by kernel_rfl) (by kernel_rfl) (by kernel_rfl) (fun _ _ _ h => h) (Or.inl ⟨by rfl, ?_⟩) (by assumption) ?_
      rotate_left 1
      · intro w' hSw
        try dsimp only at hSw
        go_simp
        try with_reducible rfl
      try simp only [List.getElem_toArray, List.getElem_cons_zero, List.getElem_cons_succ, Act.put, List.setIfInBounds_toArray, List.set_cons_zero, List.set_cons_succ]
      refine wpAnyH_take (i := 4) (v := ?_) rfl (by kernel_rfl) (by kernel_rfl) (by kernel_rfl) (fun _ _ _ h => h) (Or.inl ⟨by rfl, ?_⟩) (by assumption) ?_
      rotate_left 1
      · intro w' hSw
        try dsimp only at hSw
        go_simp
        try with_reducible rfl
      try simp only [List.getElem_toArray, List.getElem_cons_zero, List.getElem_cons_succ, Act.put, List.setIfInBounds_toArray, List.set_cons_zero, List.set_cons_succ]
      refine wpAnyH_ready (rs := [5]) (by kernel_rfl) (by simp) ?_
      refine AllReadyH.cons rfl (fun K hK => ?_) AllReadyH.nil
      try simp only [List.getElem_toArray, List.getElem_cons_zero, List.getElem_cons_succ]
      go_simp
      go_at_call 40
      with_reducible refine (HSR.out _ hot.out).mono ?_
      rintro _ wn ⟨⟨k, f, rfl, hk, hk1, hk2⟩, ho⟩
      replace hot := Lib.hid (hot.out.trans ho)
      have HK := Lib.hid (And.intro hk (And.intro hk1 hk2))
      clear ho hk hk1 hk2
      try dsimp only
      refine hK.out _ _ (HS7.out _ hot.out) (fun hHeld1 => ?_)
      clear hK K
      try simp only [List.getElem_toArray, List.getElem_cons_zero, List.getElem_cons_succ, Act.put, List.setIfInBounds_toArray, List.set_cons_zero, List.set_cons_succ]
      refine wpAnyH_take (i := 6) (v := ?_) rfl (by kernel_rfl) (by kernel_rfl) (by kernel_rfl) (fun _ _ _ h => h) (Or.inl ⟨by rfl, ?_⟩) (by assumption) ?_
      rotate_left 1
      · intro w' hSw
        try dsimp only at hSw
        go_simp
        try with_reducible rfl
      try simp only [List.getElem_toArray, List.getElem_cons_zero, List.getElem_cons_succ, Act.put, List.setIfInBounds_toArray, List.set_cons_zero, List.set_cons_succ]
      refine wpAnyH_take (i := 7) (v := ?_) rfl (by kernel_rfl) (by kernel_rfl) (by kernel_rfl) (fun _ _ _ h => h) (Or.inl ⟨by rfl, ?_⟩) (by assumption) ?_
      rotate_left 1
      · intro w' hSw
        try dsimp only at hSw
        go_simp
        try with_reducible rfl
      try simp only [List.getElem_toArray, List.getElem_cons_zero, List.getElem_cons_succ, Act.put, List.setIfInBounds_toArray, List.set_cons_zero, List.set_cons_succ]
      refine wpAnyH_take (i := 8) (v := ?_) rfl (by kernel_rfl) (by kernel_rfl) (by kernel_rfl) (fun _ _ _ h => h) (Or.inl ⟨by rfl, ?_⟩) (by assumption) ?_
      rotate_left 1
      · intro w' hSw
        try dsimp only at hSw
        go_simp
        try with_reducible rfl
      try simp only [List.getElem_toArray, List.getElem_cons_zero, List.getElem_cons_succ, Act.put, List.setIfInBounds_toArray, List.set_cons_zero, List.set_cons_succ]
      refine wpAnyH_take (i := 9) (v := ?_) rfl (by kernel_rfl) (by kernel_rfl) (by kernel_rfl) (fun _ _ _ h => h) (Or.inl ⟨by rfl, ?_⟩) (by assumption) ?_
      rotate_left 1
      · intro w' hSw
        try dsimp only at hSw
        go_simp
        try with_reducible rfl
      try simp only [List.getElem_toArray, List.getElem_cons_zero, List.getElem_cons_succ, Act.put, List.setIfInBounds_toArray, List.set_cons_zero, List.set_cons_succ]
      refine wpAnyH_take (i := 10) (v := ?_) rfl (by kernel_rfl) (by kernel_rfl) (by kernel_rfl) (fun _ _ _ h => h) (Or.inl ⟨by rfl, ?_⟩) (by assumption) ?_
      rotate_left 1
      · intro w' hSw
        try dsimp only at hSw
        go_simp
        try with_reducible rfl
      try simp only [List.getElem_toArray, List.getElem_cons_zero, List.getElem_cons_succ, Act.put, List.setIfInBounds_toArray, List.set_cons_zero, List.set_cons_succ]
      refine wpAnyH_done (by kernel_rfl) ?_ _
      refine NoPanic.normal ?_
      go_wp2_with fail
      go_meet
      exact ⟨k, f, rfl, rfl, HK, hot⟩
    case rest =>
      obtain ⟨k, f, rfl, rfl, HK, HO3⟩ := hcut
      rename World => W3
      have HP3 := Lib.hid (HO3.out.cell' HC2.out.1 (fun f => f))
      have HF3 := Lib.hid ((HO3.out.frozen (p := ⟨p, 0, none⟩) (World.block_lt_of_cell? _ _ HC2.out.1) (fun f => f)).trans HC2.out.2)
      have HIN : Hid (∀ w', Only (fun _ => False) W3 w' → ∀ vb, w'.heap[vb]? = some (.cells #[.int .i64 at_, .int .i64 g] 80 (0, 0)) → W3.heap.size ≤ vb → ∀ (k : Nat), (k ≤ n1 ∧ (∀ j, j < k → ltM ((remM g l).getD j default) ⟨at_, g⟩) ∧ (∀ j, k ≤ j → j < n1 → ¬ ltM ((remM g l).getD j default) ⟨at_, g⟩)) → Calls Try.prog 42 #[.slice a1 n1 c1, .int .i64 k, .slice (some ⟨vb, 0, none⟩) 1 1] w' (InsAt (.slice a1 n1 c1) (remM g l) k at_ g w')) := Lib.hid (fun w' ho vb hv hvs k hk => tins_any (.slice a1 n1 c1) (remM g l) k at_ g vb w' (HOW2.out.only (HO3.out.trans ho) (fun _ _ f => f)) hv (by omega) (by omega) (fun e => by have := HXL.out vb e; have := HO3.out.size; omega))
      unfold InsAt at HIN
      have HS8 : Hid (∀ w', Only (TmS p (.slice a1 n1 c1)) W3 w' → Only (TmS p (.slice a1 n1 c1)) W3 w' ∧ w'.cell? ⟨xb, 0, none⟩ = some (.int .i64 at_) ∧ w'.cell? ⟨xb, 1, none⟩ = some (.int .i64 g)) := Lib.hid (fun w' ho => by
        have hx3 := HO3.out.cell' HX2.out.1 (fun f => f)
        have hx4 := HO3.out.cell' HX2.out.2 (fun f => f)
        have hnx : ¬ TmS p (.slice a1 n1 c1) xb := fun e => by
          rcases e with e | e
          · have := HPW1.out; omega
          · have := HXL1.out xb e; omega
        exact ⟨ho, ho.cell' hx3 hnx, ho.cell' hx4 hnx⟩)
      have HFIN : Hid (∀ (k : Nat), (k ≤ n1 ∧ (∀ j, j < k → ltM ((remM g l).getD j default) ⟨at_, g⟩) ∧ (∀ j, k ≤ j → j < n1 → ¬ ltM ((remM g l).getD j default) ⟨at_, g⟩)) → ∀ v2 W9, W9.cell? ⟨p, 0, none⟩ = some v2 → W9.frozen? ⟨p, 0, none⟩ = false → OwnM W9 v2 ((remM g l).take k ++ ⟨at_, g⟩ :: (remM g l).drop k) → (∀ q, v2.ownBlock = some q → (Value.slice a1 n1 c1).ownBlock = some q ∨ W3.heap.size ≤ q) → Only (TmS p (.slice a1 n1 c1)) W3 W9 → SetAt p v l at_ g w (.returned (.int .i64 0)) W9) := Lib.hid (fun k hk v2 W9 e1 e2 e3 e4 e5 => by
        have hn1' := HN1.out
        have hsub := remM_sub g l
        refine ⟨.inl ⟨by omega, rfl, v2, ⟨e1, e2, ?_, fun e => ?_, ?_⟩, fun q hq => ?_⟩, ?_⟩
        · rw [← ins_at ⟨at_, g⟩ (remM g l) k (by omega) hk.2.1 (fun j h1 h2 => hk.2.2 j h1 (by omega))]
          exact e3
        · rcases e4 p e with h9 | h9
          · exact HPN.out h9
          · have := HPW1.out; have := HO3.out.size; have := HO2.out.size; have := HPW.out; have := K1.out.size; omega
        · rw [← ins_at ⟨at_, g⟩ (remM g l) k (by omega) hk.2.1 (fun j h1 h2 => hk.2.2 j h1 (by omega)), List.length_append, List.length_cons, List.length_take, List.length_drop]
          omega
        · rcases e4 q hq with h9 | h9
          · left; rw [← HB1.out, hn1']; exact h9
          · right; have := HO3.out.size; have := HO2.out.size; have := K1.out.size; omega
        · refine (K1.out.trans ((HO2.out.mono (fun _ _ f => f.elim)).trans ((HO3.out.mono (fun _ _ f => f.elim)).trans (e5.mono (fun q _ e => ?_)))))
          rcases e with e | e
          · exact .inl e
          · right; rw [← HB1.out, hn1']; exact e)
      clear HS7 HSR HX2
      go_upto_region 8 with fail
      refine wp_region_noPanic ?_
      refine wp_region_held_drew (S := (fun w' => Only (TmS p (.slice a1 n1 c1)) W3 w' ∧ w'.cell? ⟨xb, 0, none⟩ = some (.int .i64 at_) ∧ w'.cell? ⟨xb, 1, none⟩ = some (.int .i64 g))) (by kernel_rfl) (HS8.out _ (Only.refl _ _).drew) (fun hHeld => ?_)
      obtain ⟨u0, hu0⟩ : ∃ x, x = W3.drew := ⟨_, rfl⟩
      rw [← hu0]
      have hot : Hid (Only (fun _ => False) W3 u0) := Lib.hid (by rw [hu0]; exact (Only.refl _ _).drew)
      have hp0 := hot.out.cell' HP3.out (fun f => f)
      have hHeld0 := HS8.out _ (hot.out.mono (fun _ _ f => f.elim))
      clear hHeld hu0
      refine wpAnyH_take (i := 0) (v := ?_) rfl (by kernel_rfl) (by kernel_rfl) (by kernel_rfl) (fun _ _ _ h => h) (Or.inl ⟨by rfl, ?_⟩) (by assumption) ?_
      rotate_left 1
      · intro w' hSw
        try dsimp only at hSw
        go_simp
        try with_reducible rfl
      try simp only [List.getElem_toArray, List.getElem_cons_zero, Act.put, List.setIfInBounds_toArray, List.set_cons_zero, List.set_cons_succ]
      refine wpAnyH_take (i := 1) (v := ?_) rfl (by kernel_rfl) (by kernel_rfl) (by kernel_rfl) (fun _ _ _ h => h) (Or.inl ⟨by rfl, ?_⟩) (by assumption) ?_
      rotate_left 1
      · intro w' hSw
        try dsimp only at hSw
        go_simp
        try with_reducible rfl
      try simp only [List.getElem_toArray, List.getElem_cons_zero, List.getElem_cons_succ, Act.put, List.setIfInBounds_toArray, List.set_cons_zero, List.set_cons_succ]
      refine wpAnyH_take (i := 2) (v := ?_) rfl (by kernel_rfl) (by kernel_rfl) (by kernel_rfl) (fun _ _ _ h => h) (Or.inl ⟨by rfl, ?_⟩) (by assumption) ?_
      rotate_left 1
      · intro w' hSw
        try dsimp only at hSw
        go_simp
        try with_reducible rfl
      try simp only [List.getElem_toArray, List.getElem_cons_zero, List.getElem_cons_succ, Act.put, List.setIfInBounds_toArray, List.set_cons_zero, List.set_cons_succ]
      refine wpAnyH_take (i := 3) (v := ?_) rfl (by kernel_rfl) (by kernel_rfl) (by kernel_rfl) (fun _ _ _ h => h) (Or.inl ⟨by rfl, ?_⟩) (by assumption) ?_
      rotate_left 1
      · intro w' hSw
        try dsimp only at hSw
        go_simp
        try with_reducible rfl
      try simp only [List.getElem_toArray, List.getElem_cons_zero, List.getElem_cons_succ, Act.put, List.setIfInBounds_toArray, List.set_cons_zero, List.set_cons_succ]
      refine wpAnyH_take (i := 5) (v := ?_) rfl (by kernel_rfl) (by kernel_rfl) (by kernel_rfl) (fun _ _ _ h => h) (Or.inl ⟨by rfl, ?_⟩) (by assumption) ?_
      rotate_left 1
      · intro w' hSw
        try dsimp only at hSw
        go_simp
        try with_reducible rfl
      try simp only [List.getElem_toArray, List.getElem_cons_zero, List.getElem_cons_succ, Act.put, List.setIfInBounds_toArray, List.set_cons_zero, List.set_cons_succ]
      refine wpAnyH_take (i := 6) (v := ?_) rfl (by kernel_rfl) (by kernel_rfl) (by kernel_rfl) (fun _ _ _ h => h) (Or.inl ⟨by rfl, ?_⟩) (by assumption) ?_
      rotate_left 1
      · intro w' hSw
        try dsimp only at hSw
        go_simp
        try with_reducible rfl
      try simp only [List.getElem_toArray, List.getElem_cons_zero, List.getElem_cons_succ, Act.put, List.setIfInBounds_toArray, List.set_cons_zero, List.set_cons_succ]
      refine wpAnyH_ready (rs := [4, 7]) (by kernel_rfl) (by simp) ?_
      refine AllReadyH.cons rfl (fun K hK => ?_) (AllReadyH.cons rfl (fun K hK => ?_) AllReadyH.nil)
      · try simp only [List.getElem_toArray, List.getElem_cons_zero, List.getElem_cons_succ]
        go_simp
        refine hK.out _ _ (HS8.out _ (hot.out.mono (fun _ _ f => f.elim))) (fun hHeld1 => ?_)
        clear hK K
        try simp only [List.getElem_toArray, List.getElem_cons_zero, List.getElem_cons_succ, Act.put, List.setIfInBounds_toArray, List.set_cons_zero, List.set_cons_succ]
        refine wpAnyH_ready (rs := [7]) (by kernel_rfl) (by simp) ?_
        refine AllReadyH.cons rfl (fun K hK => ?_) AllReadyH.nil
        try simp only [List.getElem_toArray, List.getElem_cons_zero, List.getElem_cons_succ]
        go_simp
        obtain ⟨u2, hu2⟩ : ∃ x, x = u0.alloc (.cells #[.int .i64 at_, .int .i64 g] 80) := ⟨_, rfl⟩
        rw [← hu2]
        have HV : Hid (u2.heap[u0.heap.size]? = some (.cells #[.int .i64 at_, .int .i64 g] 80 (0, 0))) := Lib.hid (by rw [hu2]; exact heap_alloc_new u0 _)
        have hvs := hot.out.size
        replace hot : Hid (Only (fun _ => False) W3 u2) := Lib.hid (by rw [hu2]; exact hot.out.alloc _)
        obtain ⟨vb, hvb⟩ : ∃ x, x = u0.heap.size := ⟨_, rfl⟩
        rw [← hvb] at HV hvs
        try rw [← hvb]
        have hp1 := hot.out.cell' HP3.out (fun f => f)
        clear hu2 hp0
        refine hK.out _ _ (HS8.out _ (hot.out.mono (fun _ _ f => f.elim))) (fun hHeld2 => ?_)
        clear hK K
        clear hvb
        try simp only [List.getElem_toArray, List.getElem_cons_zero, List.getElem_cons_succ, Act.put, List.setIfInBounds_toArray, List.set_cons_zero, List.set_cons_succ]
        refine wpAnyH_ready (rs := [8]) (by kernel_rfl) (by simp) ?_
        refine AllReadyH.cons rfl (fun K hK => ?_) AllReadyH.nil
        try simp only [List.getElem_toArray, List.getElem_cons_zero, List.getElem_cons_succ]
        go_simp
        go_at_call 42
        with_reducible refine (HIN.out _ hot.out _ HV.out hvs k HK.out).mono ?_
        rintro _ wn ⟨v2, rfl, hown, hblk, ho⟩
        obtain ⟨a2, c2, hv2, _, _⟩ := hown.reads
        generalize ((remM g l).take k ++ (⟨at_, g⟩ : Tm) :: (remM g l).drop k).length = m2 at hv2
        subst hv2
        have hp2 := ho.cell' hp1 HPN.out
        have f2 : wn.frozen? ⟨p, 0, none⟩ = false := (ho.frozen (p := ⟨p, 0, none⟩) (World.block_lt_of_cell? _ _ hp1) HPN.out).trans ((hot.out.frozen (p := ⟨p, 0, none⟩) (World.block_lt_of_cell? _ _ HP3.out) (fun f => f)).trans HF3.out)
        have HSZ := Lib.hid hot.out.size
        have HO4 : Hid (Only (TmS p (.slice a1 n1 c1)) W3 wn) := Lib.hid (only_tr (hot.out.mono (fun _ _ f => f.elim)) ho (fun q e => .inr e))
        have HOWN := Lib.hid hown
        have HBK := Lib.hid hblk
        clear ho hown hblk hp1
        try dsimp only
        refine hK.out _ _ (HS8.out _ HO4.out) (fun hHeld3 => ?_)
        clear hK K
        try simp only [List.getElem_toArray, List.getElem_cons_zero, List.getElem_cons_succ, Act.put, List.setIfInBounds_toArray, List.set_cons_zero, List.set_cons_succ]
        refine wpAnyH_take (i := 9) (v := ?_) rfl (by kernel_rfl) (by kernel_rfl) (by kernel_rfl) (fun _ _ _ h => h) (Or.inl ⟨by rfl, ?_⟩) (by assumption) ?_
        rotate_left 1
        · intro w' hSw
          try dsimp only at hSw
          go_simp
          try with_reducible rfl
        try simp only [List.getElem_toArray, List.getElem_cons_zero, List.getElem_cons_succ, Act.put, List.setIfInBounds_toArray, List.set_cons_zero, List.set_cons_succ]
        refine wpAnyH_take (i := 10) (v := ?_) rfl (by kernel_rfl) (by kernel_rfl) (by kernel_rfl) (fun _ _ _ h => h) (Or.inl ⟨by rfl, ?_⟩) (by assumption) ?_
        rotate_left 1
        · intro w' hSw
          try dsimp only at hSw
          go_simp
          try with_reducible rfl
        try simp only [List.getElem_toArray, List.getElem_cons_zero, List.getElem_cons_succ, Act.put, List.setIfInBounds_toArray, List.set_cons_zero, List.set_cons_succ]
        refine wpAnyH_ready (rs := [11]) (by kernel_rfl) (by simp) ?_
        refine AllReadyH.cons rfl (fun K hK => ?_) AllReadyH.nil
        try simp only [List.getElem_toArray, List.getElem_cons_zero, List.getElem_cons_succ]
        go_simp
        obtain ⟨W9, hW9⟩ : ∃ x, x = wn.setCell ⟨p, 0, none⟩ (.slice a2 m2 c2) := ⟨_, rfl⟩
        rw [← hW9]
        have HST : Hid (Only (fun x => x = p) wn W9) := Lib.hid (by rw [hW9]; exact Only.set (fun x => x = p) wn p 0 _ rfl)
        have HC9 : Hid (W9.cell? ⟨p, 0, none⟩ = some (.slice a2 m2 c2)) := Lib.hid (by rw [hW9]; exact cell_same hp2)
        have HF9 : Hid (W9.frozen? ⟨p, 0, none⟩ = false) := Lib.hid (by rw [hW9]; exact frozen_set.trans f2)
        have HO9 : Hid (Only (TmS p (.slice a1 n1 c1)) W3 W9) := Lib.hid (only_tr HO4.out HST.out (fun q e => .inl e))
        clear hW9 hp2 f2
        refine hK.out _ _ (HS8.out _ HO9.out) (fun hHeld4 => ?_)
        clear hK K
        try simp only [List.getElem_toArray, List.getElem_cons_zero, List.getElem_cons_succ, Act.put, List.setIfInBounds_toArray, List.set_cons_zero, List.set_cons_succ]
        refine wpAnyH_done (by kernel_rfl) ?_ _
        refine NoPanic.normal ?_
        have HQ := Lib.hid (HFIN.out k HK.out (.slice a2 m2 c2) W9 HC9.out HF9.out (HOWN.out.only HST.out (fun q hq e => by
          have e' : q = p := e
          rcases HBK.out q hq with h9 | h9
          · exact HPN.out (by rw [← e']; exact h9)
          · have := HSZ.out; have := HPW.out; have := HO3.out.size; have := HO2.out.size; have := K1.out.size; omega)) (fun q hq => (HBK.out q hq).imp_right (fun h9 => by have := HSZ.out; omega)) HO9.out)
        generalize SetAt p v l at_ g w = Q at *
        go_wp2_with fail
        exact HQ.out

      · try simp only [List.getElem_toArray, List.getElem_cons_zero, List.getElem_cons_succ]
        go_simp
        obtain ⟨u5, hu5⟩ : ∃ x, x = u0.alloc (.cells #[.int .i64 at_, .int .i64 g] 80) := ⟨_, rfl⟩
        rw [← hu5]
        have HV : Hid (u5.heap[u0.heap.size]? = some (.cells #[.int .i64 at_, .int .i64 g] 80 (0, 0))) := Lib.hid (by rw [hu5]; exact heap_alloc_new u0 _)
        have hvs := hot.out.size
        replace hot : Hid (Only (fun _ => False) W3 u5) := Lib.hid (by rw [hu5]; exact hot.out.alloc _)
        obtain ⟨vb, hvb⟩ : ∃ x, x = u0.heap.size := ⟨_, rfl⟩
        rw [← hvb] at HV hvs
        try rw [← hvb]
        have hp1 := hot.out.cell' HP3.out (fun f => f)
        clear hu5 hp0
        refine hK.out _ _ (HS8.out _ (hot.out.mono (fun _ _ f => f.elim))) (fun hHeld5 => ?_)
        clear hK K
        clear hvb
        try simp only [List.getElem_toArray, List.getElem_cons_zero, List.getElem_cons_succ, Act.put, List.setIfInBounds_toArray, List.set_cons_zero, List.set_cons_succ]
        refine wpAnyH_ready (rs := [4]) (by kernel_rfl) (by simp) ?_
        refine AllReadyH.cons rfl (fun K hK => ?_) AllReadyH.nil
        try simp only [List.getElem_toArray, List.getElem_cons_zero, List.getElem_cons_succ]
        go_simp
        refine hK.out _ _ (HS8.out _ (hot.out.mono (fun _ _ f => f.elim))) (fun hHeld6 => ?_)
        clear hK K
        try simp only [List.getElem_toArray, List.getElem_cons_zero, List.getElem_cons_succ, Act.put, List.setIfInBounds_toArray, List.set_cons_zero, List.set_cons_succ]
        refine wpAnyH_ready (rs := [8]) (by kernel_rfl) (by simp) ?_
        refine AllReadyH.cons rfl (fun K hK => ?_) AllReadyH.nil
        try simp only [List.getElem_toArray, List.getElem_cons_zero, List.getElem_cons_succ]
        go_simp
        go_at_call 42
        with_reducible refine (HIN.out _ hot.out _ HV.out hvs k HK.out).mono ?_
        rintro _ wn ⟨v2, rfl, hown, hblk, ho⟩
        obtain ⟨a2, c2, hv2, _, _⟩ := hown.reads
        generalize ((remM g l).take k ++ (⟨at_, g⟩ : Tm) :: (remM g l).drop k).length = m2 at hv2
        subst hv2
        have hp2 := ho.cell' hp1 HPN.out
        have f2 : wn.frozen? ⟨p, 0, none⟩ = false := (ho.frozen (p := ⟨p, 0, none⟩) (World.block_lt_of_cell? _ _ hp1) HPN.out).trans ((hot.out.frozen (p := ⟨p, 0, none⟩) (World.block_lt_of_cell? _ _ HP3.out) (fun f => f)).trans HF3.out)
        have HSZ := Lib.hid hot.out.size
        have HO4 : Hid (Only (TmS p (.slice a1 n1 c1)) W3 wn) := Lib.hid (only_tr (hot.out.mono (fun _ _ f => f.elim)) ho (fun q e => .inr e))
        have HOWN := Lib.hid hown
        have HBK := Lib.hid hblk
        clear ho hown hblk hp1
        try dsimp only
        refine hK.out _ _ (HS8.out _ HO4.out) (fun hHeld7 => ?_)
        clear hK K
        try simp only [List.getElem_toArray, List.getElem_cons_zero, List.getElem_cons_succ, Act.put, List.setIfInBounds_toArray, List.set_cons_zero, List.set_cons_succ]
        refine wpAnyH_take (i := 9) (v := ?_) rfl (by kernel_rfl) (by kernel_rfl) (by kernel_rfl) (fun _ _ _ h => h) (Or.inl ⟨by rfl, ?_⟩) (by assumption) ?_
        rotate_left 1
        · intro w' hSw
          try dsimp only at hSw
          go_simp
          try with_reducible rfl
        try simp only [List.getElem_toArray, List.getElem_cons_zero, List.getElem_cons_succ, Act.put, List.setIfInBounds_toArray, List.set_cons_zero, List.set_cons_succ]
        refine wpAnyH_take (i := 10) (v := ?_) rfl (by kernel_rfl) (by kernel_rfl) (by kernel_rfl) (fun _ _ _ h => h) (Or.inl ⟨by rfl, ?_⟩) (by assumption) ?_
        rotate_left 1
        · intro w' hSw
          try dsimp only at hSw
          go_simp
          try with_reducible rfl
        try simp only [List.getElem_toArray, List.getElem_cons_zero, List.getElem_cons_succ, Act.put, List.setIfInBounds_toArray, List.set_cons_zero, List.set_cons_succ]
        refine wpAnyH_ready (rs := [11]) (by kernel_rfl) (by simp) ?_
        refine AllReadyH.cons rfl (fun K hK => ?_) AllReadyH.nil
        try simp only [List.getElem_toArray, List.getElem_cons_zero, List.getElem_cons_succ]
        go_simp
        obtain ⟨W9, hW9⟩ : ∃ x, x = wn.setCell ⟨p, 0, none⟩ (.slice a2 m2 c2) := ⟨_, rfl⟩
        rw [← hW9]
        have HST : Hid (Only (fun x => x = p) wn W9) := Lib.hid (by rw [hW9]; exact Only.set (fun x => x = p) wn p 0 _ rfl)
        have HC9 : Hid (W9.cell? ⟨p, 0, none⟩ = some (.slice a2 m2 c2)) := Lib.hid (by rw [hW9]; exact cell_same hp2)
        have HF9 : Hid (W9.frozen? ⟨p, 0, none⟩ = false) := Lib.hid (by rw [hW9]; exact frozen_set.trans f2)
        have HO9 : Hid (Only (TmS p (.slice a1 n1 c1)) W3 W9) := Lib.hid (only_tr HO4.out HST.out (fun q e => .inl e))
        clear hW9 hp2 f2
        refine hK.out _ _ (HS8.out _ HO9.out) (fun hHeld8 => ?_)
        clear hK K
        try simp only [List.getElem_toArray, List.getElem_cons_zero, List.getElem_cons_succ, Act.put, List.setIfInBounds_toArray, List.set_cons_zero, List.set_cons_succ]
        refine wpAnyH_done (by kernel_rfl) ?_ _
        refine NoPanic.normal ?_
        have HQ := Lib.hid (HFIN.out k HK.out (.slice a2 m2 c2) W9 HC9.out HF9.out (HOWN.out.only HST.out (fun q hq e => by
          have e' : q = p := e
          rcases HBK.out q hq with h9 | h9
          · exact HPN.out (by rw [← e']; exact h9)
          · have := HSZ.out; have := HPW.out; have := HO3.out.size; have := HO2.out.size; have := K1.out.size; omega)) (fun q hq => (HBK.out q hq).imp_right (fun h9 => by have := HSZ.out; omega)) HO9.out)
        generalize SetAt p v l at_ g w = Q at *
        go_wp2_with fail
        exact HQ.out
end Go.Proofs.Ytiohdfplgpmcdaa.tmw
