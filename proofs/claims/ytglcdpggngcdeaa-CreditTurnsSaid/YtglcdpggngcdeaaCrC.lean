/- A table of sessions without grants: Add, End. -/
import Derived.Test.YtglcdpggngcdeaaCrB
namespace Go.Proofs.Ytglcdpggngcdeaa.crd
open Go.RowKit mem rowz owi
set_option linter.unusedVariables false

theorem step_sess {ops : Array Oper} {o : Oper} {a : Act} {w : World} {K : Act → World → Prop} {Q : Exit → Act → World → Prop} {E : Prop}
    (hg : o.guard = none) (s x : Operand) (ho : o.op = Op.call { callee := Callee.builtin Builtin.append, args := #[s, x], argTypes := #[91, 91] })
    (v : Value) (xs : List Se) (hs : a.eval s = v) (hown : OwnS w v xs) (g c : Nat) (d : Se) (hx : a.eval x = .slice (some ⟨g, 0, none⟩) 1 c) (hn : ∀ j u, (encS d)[j]? = some u → w.cell? ⟨g, j, none⟩ = some u) (hb : xs.length ≤ 1000)
    (hK : ∀ v' w', OwnS w' v' (xs ++ [d]) → w.grownBy w' v.ownBlock → (∀ k, v'.ownBlock = some k → v.ownBlock = some k ∨ w.heap.size ≤ k) → K (a.put o.dst v') w') :
    if Region.wanted o (yielded ops a.tmps) = true then Oper.wp Try.prog o a w K Q else E := by
  obtain ⟨i0, hi, hz0, hz1, hz2⟩ := info_parts info_ss
  refine step_mine hg s x 91 ho 25 i0 _ 5 56 Try.underlying91 hi hz0 hz1 hz2 rfl (by decide) v xs.length _ hs hown ⟨g, 0, none⟩ 1 c (encS d) hx rfl (fun j u h => by rw [add_none, Nat.zero_add]; exact hn j u h) (fun u hu => sv_one [d] u (by simpa [sv] using hu)) (by unfold maxLen; omega) (by omega) ?_
  intro v' w' h1 h2 h3
  refine hK v' w' ?_ h2 h3
  unfold OwnS
  rw [List.length_append, sv_append]
  have e : sv [d] = encS d := by simp [sv]
  rw [e]
  exact h1
set_option maxRecDepth 100000 in
set_option maxHeartbeats 4000000 in
theorem cadd_stale {S : Nat → Prop} (p : Nat) (places last : Int) (v : Value) (L : List Se) (i nd : Int) (w : World) (h : CtAt S w p places last v L) (h1 : 1 ≤ i) (h2 : i ≤ 4611686018427387904) (h3 : 1 ≤ nd) (h4 : nd ≤ 32) (h5 : i ≤ last) : Calls Try.prog 16 #[.pointer (some ⟨p, 0, none⟩), .agg #[.int .i64 i, .int .i64 nd, .int .i64 0, .int .i64 0, .slice none 0 0]] w fun e w' => e = .returned (.int .i64 13) ∧ Only (fun _ => False) w w' := by
  obtain ⟨w1, hw⟩ : ∃ x, x = w.alloc (.cells #[.int .i64 i, .int .i64 nd, .int .i64 0, .int .i64 0, .slice none 0 0] 25) := ⟨_, rfl⟩
  obtain ⟨g, hg⟩ : ∃ x, x = w.heap.size := ⟨_, rfl⟩
  have HBX := Lib.hid (sbox hw hg)
  have HCT := Lib.hid h
  have hgp : g ≠ p := by have := h.lt; omega
  clear h
  obtain ⟨b0, b1, b2, b3, b4, -⟩ := HBX.out
  go_enter Try.func16, Try.ntmps16
  go_upto_region 1 with fail
  simp only [← hw, ← hg]
  clear hw hg
  go_wp2_with fail
  refine (issess_any i nd _ h1 h2 h3 h4).mono ?_
  rintro _ w2 ⟨rfl, ho⟩
  have HO2 := Lib.hid (HBX.out.2.2.2.2.2.trans ho)
  have HX2 : Hid (∀ w', Only (fun _ => False) w2 w' → w'.cell? ⟨g, 0, none⟩ = some (.int .i64 i) ∧ w'.cell? ⟨g, 1, none⟩ = some (.int .i64 nd) ∧ w'.cell? ⟨g, 2, none⟩ = some (.int .i64 0) ∧ w'.cell? ⟨g, 3, none⟩ = some (.int .i64 0) ∧ w'.cell? ⟨g, 4, none⟩ = some (.slice none 0 0)) := Lib.hid (fun w' ho2 => ⟨(ho.trans ho2).cell' HBX.out.1 (fun f => f), (ho.trans ho2).cell' HBX.out.2.1 (fun f => f), (ho.trans ho2).cell' HBX.out.2.2.1 (fun f => f), (ho.trans ho2).cell' HBX.out.2.2.2.1 (fun f => f), (ho.trans ho2).cell' HBX.out.2.2.2.2.1 (fun f => f)⟩)
  have HS3 : Hid (∀ w', Only (fun _ => False) w2 w' → w'.cell? ⟨g, 0, none⟩ = some (.int .i64 i) ∧ w'.cell? ⟨p, 1, none⟩ = some (.int .i64 last)) := Lib.hid (fun w' ho2 => ⟨(HX2.out w' ho2).1, (HCT.out.quiet (HO2.out.trans ho2)).c1⟩)
  clear ho b0 b1 b2 b3 b4
  go_upto_region 3 with fail
  refine wp_region_noPanic ?_
  refine wp_region_held_drew (S := (fun w' => w'.cell? ⟨g, 0, none⟩ = some (.int .i64 i) ∧ w'.cell? ⟨p, 1, none⟩ = some (.int .i64 last))) (by kernel_rfl) (HS3.out _ (Only.refl _ _).drew) (fun hHeld => ?_)
  obtain ⟨w3, hw3⟩ : ∃ x, x = w2.drew := ⟨_, rfl⟩
  rw [← hw3] at hHeld ⊢
  have h23 : Only (fun _ => False) w2 w3 := by rw [hw3]; exact (Only.refl _ _).drew
  clear hw3
  refine wpAnyH_take (i := 0) (v := ?_) rfl (by kernel_rfl) (by kernel_rfl) (by kernel_rfl) (fun _ _ _ h => h) (Or.inl ⟨by rfl, ?_⟩) (by assumption) ?_
  rotate_left 1
  · intro w' hSw
    try dsimp only at hSw
    go_simp
    try with_reducible rfl
  try simp only [List.getElem_toArray, List.getElem_cons_zero, Act.put, List.setIfInBounds_toArray, List.set_cons_zero, List.set_cons_succ]
  refine wpAnyH_take (i := 1) (v := ?_) rfl (by kernel_rfl) (by kernel_rfl) (by kernel_rfl) (fun _ _ _ h => h) (Or.inl ⟨by rfl, ?_⟩) (by assumption) ?_
  rotate_left 1
  · intro w' hSw
    try dsimp only at hSw
    go_simp
    try with_reducible rfl
  try simp only [List.getElem_toArray, List.getElem_cons_zero, List.getElem_cons_succ, Act.put, List.setIfInBounds_toArray, List.set_cons_zero, List.set_cons_succ]
  refine wpAnyH_take (i := 2) (v := ?_) rfl (by kernel_rfl) (by kernel_rfl) (by kernel_rfl) (fun _ _ _ h => h) (Or.inl ⟨by rfl, ?_⟩) (by assumption) ?_
  rotate_left 1
  · intro w' hSw
    try dsimp only at hSw
    go_simp
    try with_reducible rfl
  try simp only [List.getElem_toArray, List.getElem_cons_zero, List.getElem_cons_succ, Act.put, List.setIfInBounds_toArray, List.set_cons_zero, List.set_cons_succ]
  refine wpAnyH_take (i := 3) (v := ?_) rfl (by kernel_rfl) (by kernel_rfl) (by kernel_rfl) (fun _ _ _ h => h) (Or.inl ⟨by rfl, ?_⟩) (by assumption) ?_
  rotate_left 1
  · intro w' hSw
    try dsimp only at hSw
    go_simp
    try with_reducible rfl
  try simp only [List.getElem_toArray, List.getElem_cons_zero, List.getElem_cons_succ, Act.put, List.setIfInBounds_toArray, List.set_cons_zero, List.set_cons_succ]
  refine wpAnyH_take (i := 4) (v := ?_) rfl (by kernel_rfl) (by kernel_rfl) (by kernel_rfl) (fun _ _ _ h => h) (Or.inl ⟨by rfl, ?_⟩) (by assumption) ?_
  rotate_left 1
  · intro w' hSw
    try dsimp only at hSw
    go_simp
    try with_reducible rfl
  try simp only [List.getElem_toArray, List.getElem_cons_zero, List.getElem_cons_succ, Act.put, List.setIfInBounds_toArray, List.set_cons_zero, List.set_cons_succ]
  refine wpAnyH_take (i := 5) (v := ?_) rfl (by kernel_rfl) (by kernel_rfl) (by kernel_rfl) (fun _ _ _ h => h) (Or.inl ⟨by rfl, ?_⟩) (by assumption) ?_
  rotate_left 1
  · intro w' hSw
    try dsimp only at hSw
    go_simp
    try with_reducible rfl
  try simp only [List.getElem_toArray, List.getElem_cons_zero, List.getElem_cons_succ, Act.put, List.setIfInBounds_toArray, List.set_cons_zero, List.set_cons_succ]
  refine wpAnyH_take (i := 6) (v := ?_) rfl (by kernel_rfl) (by kernel_rfl) (by kernel_rfl) (fun _ _ _ h => h) (Or.inl ⟨by rfl, ?_⟩) (by assumption) ?_
  rotate_left 1
  · intro w' hSw
    try dsimp only at hSw
    go_simp
    try with_reducible rfl
  try simp only [List.getElem_toArray, List.getElem_cons_zero, List.getElem_cons_succ, Act.put, List.setIfInBounds_toArray, List.set_cons_zero, List.set_cons_succ]
  refine wpAnyH_done (by kernel_rfl) ?_ _
  refine NoPanic.normal ?_
  have HO3 := Lib.hid (HO2.out.trans h23)
  clear hHeld h23
  go_wp2_with fail
  go_ret
  exact ⟨rfl, HO3.out⟩
def Added (S : Nat → Prop) (p : Nat) (places : Int) (i : Int) (L' : List Se) (w : World) (e : Ending) (w' : World) : Prop := e = .returned (.int .i64 0) ∧ (∃ v', CtAt (fun q => S q ∨ w.heap.size ≤ q) w' p places i v' L') ∧ Only S w w'
set_option maxRecDepth 100000 in
set_option maxHeartbeats 4000000 in
theorem cadd_yes {S : Nat → Prop} (p : Nat) (places last : Int) (v : Value) (L : List Se) (i nd : Int) (w : World) (h : CtAt S w p places last v L) (h1 : 1 ≤ i) (h2 : i ≤ 4611686018427387904) (h3 : 1 ≤ nd) (h4 : nd ≤ 32) (h5 : last < i) (h6 : (L.length : Int) < places) (h7 : L.length ≤ 50) : Calls Try.prog 16 #[.pointer (some ⟨p, 0, none⟩), .agg #[.int .i64 i, .int .i64 nd, .int .i64 0, .int .i64 0, .slice none 0 0]] w (Added S p places i (L ++ [⟨i, nd⟩]) w) := by
  obtain ⟨ao, cap, hv, hcc, hrd⟩ := h.own.reads
  subst hv
  clear hrd
  have h5n : ¬ i ≤ last := by omega
  have h6n : ¬ places ≤ (L.length : Int) := by omega
  have HOW := Lib.hid h.own
  have HNP : Hid ((.slice ao L.length cap : Value).ownBlock ≠ some p) := Lib.hid h.np
  have HNG : Hid ((.slice ao L.length cap : Value).ownBlock ≠ some w.heap.size) := Lib.hid (fun e => by have := h.own.lt e; omega)
  obtain ⟨w1, hw⟩ : ∃ x, x = w.alloc (.cells #[.int .i64 i, .int .i64 nd, .int .i64 0, .int .i64 0, .slice none 0 0] 25) := ⟨_, rfl⟩
  obtain ⟨g, hg⟩ : ∃ x, x = w.heap.size := ⟨_, rfl⟩
  have HBX := Lib.hid (sbox hw hg)
  have HCT := Lib.hid h
  have hgp : g ≠ p := by have := h.lt; omega
  clear h
  obtain ⟨b0, b1, b2, b3, b4, -⟩ := HBX.out
  go_enter Try.func16, Try.ntmps16
  go_upto_region 1 with fail
  simp only [← hw, ← hg]
  rw [← hg] at HNG
  clear hw hg
  go_wp2_with fail
  refine (issess_any i nd _ h1 h2 h3 h4).mono ?_
  rintro _ w2 ⟨rfl, ho⟩
  have HO2 := Lib.hid (HBX.out.2.2.2.2.2.trans ho)
  have HX2 : Hid (∀ w', Only (fun _ => False) w2 w' → w'.cell? ⟨g, 0, none⟩ = some (.int .i64 i) ∧ w'.cell? ⟨g, 1, none⟩ = some (.int .i64 nd) ∧ w'.cell? ⟨g, 2, none⟩ = some (.int .i64 0) ∧ w'.cell? ⟨g, 3, none⟩ = some (.int .i64 0) ∧ w'.cell? ⟨g, 4, none⟩ = some (.slice none 0 0)) := Lib.hid (fun w' ho2 => ⟨(ho.trans ho2).cell' HBX.out.1 (fun f => f), (ho.trans ho2).cell' HBX.out.2.1 (fun f => f), (ho.trans ho2).cell' HBX.out.2.2.1 (fun f => f), (ho.trans ho2).cell' HBX.out.2.2.2.1 (fun f => f), (ho.trans ho2).cell' HBX.out.2.2.2.2.1 (fun f => f)⟩)
  have HS3 : Hid (∀ w', Only (fun _ => False) w2 w' → w'.cell? ⟨g, 0, none⟩ = some (.int .i64 i) ∧ w'.cell? ⟨p, 1, none⟩ = some (.int .i64 last)) := Lib.hid (fun w' ho2 => ⟨(HX2.out w' ho2).1, (HCT.out.quiet (HO2.out.trans ho2)).c1⟩)
  clear ho b0 b1 b2 b3 b4
  go_upto_region 3 with fail
  refine wp_region_noPanic ?_
  refine wp_region_held_drew (S := (fun w' => w'.cell? ⟨g, 0, none⟩ = some (.int .i64 i) ∧ w'.cell? ⟨p, 1, none⟩ = some (.int .i64 last))) (by kernel_rfl) (HS3.out _ (Only.refl _ _).drew) (fun hHeld => ?_)
  obtain ⟨w3, hw3⟩ : ∃ x, x = w2.drew := ⟨_, rfl⟩
  rw [← hw3] at hHeld ⊢
  have h23 : Only (fun _ => False) w2 w3 := by rw [hw3]; exact (Only.refl _ _).drew
  clear hw3
  refine wpAnyH_take (i := 0) (v := ?_) rfl (by kernel_rfl) (by kernel_rfl) (by kernel_rfl) (fun _ _ _ h => h) (Or.inl ⟨by rfl, ?_⟩) (by assumption) ?_
  rotate_left 1
  · intro w' hSw
    try dsimp only at hSw
    go_simp
    try with_reducible rfl
  try simp only [List.getElem_toArray, List.getElem_cons_zero, Act.put, List.setIfInBounds_toArray, List.set_cons_zero, List.set_cons_succ]
  refine wpAnyH_take (i := 1) (v := ?_) rfl (by kernel_rfl) (by kernel_rfl) (by kernel_rfl) (fun _ _ _ h => h) (Or.inl ⟨by rfl, ?_⟩) (by assumption) ?_
  rotate_left 1
  · intro w' hSw
    try dsimp only at hSw
    go_simp
    try with_reducible rfl
  try simp only [List.getElem_toArray, List.getElem_cons_zero, List.getElem_cons_succ, Act.put, List.setIfInBounds_toArray, List.set_cons_zero, List.set_cons_succ]
  refine wpAnyH_take (i := 2) (v := ?_) rfl (by kernel_rfl) (by kernel_rfl) (by kernel_rfl) (fun _ _ _ h => h) (Or.inl ⟨by rfl, ?_⟩) (by assumption) ?_
  rotate_left 1
  · intro w' hSw
    try dsimp only at hSw
    go_simp
    try with_reducible rfl
  try simp only [List.getElem_toArray, List.getElem_cons_zero, List.getElem_cons_succ, Act.put, List.setIfInBounds_toArray, List.set_cons_zero, List.set_cons_succ]
  refine wpAnyH_take (i := 3) (v := ?_) rfl (by kernel_rfl) (by kernel_rfl) (by kernel_rfl) (fun _ _ _ h => h) (Or.inl ⟨by rfl, ?_⟩) (by assumption) ?_
  rotate_left 1
  · intro w' hSw
    try dsimp only at hSw
    go_simp
    try with_reducible rfl
  try simp only [List.getElem_toArray, List.getElem_cons_zero, List.getElem_cons_succ, Act.put, List.setIfInBounds_toArray, List.set_cons_zero, List.set_cons_succ]
  refine wpAnyH_take (i := 4) (v := ?_) rfl (by kernel_rfl) (by kernel_rfl) (by kernel_rfl) (fun _ _ _ h => h) (Or.inl ⟨by rfl, ?_⟩) (by assumption) ?_
  rotate_left 1
  · intro w' hSw
    try dsimp only at hSw
    go_simp
    try with_reducible rfl
  try simp only [List.getElem_toArray, List.getElem_cons_zero, List.getElem_cons_succ, Act.put, List.setIfInBounds_toArray, List.set_cons_zero, List.set_cons_succ]
  refine wpAnyH_take (i := 5) (v := ?_) rfl (by kernel_rfl) (by kernel_rfl) (by kernel_rfl) (fun _ _ _ h => h) (Or.inl ⟨by rfl, ?_⟩) (by assumption) ?_
  rotate_left 1
  · intro w' hSw
    try dsimp only at hSw
    go_simp
    try with_reducible rfl
  try simp only [List.getElem_toArray, List.getElem_cons_zero, List.getElem_cons_succ, Act.put, List.setIfInBounds_toArray, List.set_cons_zero, List.set_cons_succ]
  refine wpAnyH_take (i := 6) (v := ?_) rfl (by kernel_rfl) (by kernel_rfl) (by kernel_rfl) (fun _ _ _ h => h) (Or.inl ⟨by rfl, ?_⟩) (by assumption) ?_
  rotate_left 1
  · intro w' hSw
    try dsimp only at hSw
    go_simp
    try with_reducible rfl
  try simp only [List.getElem_toArray, List.getElem_cons_zero, List.getElem_cons_succ, Act.put, List.setIfInBounds_toArray, List.set_cons_zero, List.set_cons_succ]
  refine wpAnyH_done (by kernel_rfl) ?_ _
  refine NoPanic.normal ?_
  have HO3 := Lib.hid (HO2.out.trans h23)
  have HS5 : Hid (∀ w', Only (fun _ => False) w3 w' → w'.cell? ⟨p, 0, none⟩ = some (.int .i64 places) ∧ w'.cell? ⟨p, 2, none⟩ = some (.slice ao L.length cap)) := Lib.hid (fun w' ho2 => ⟨(HCT.out.quiet (HO3.out.trans ho2)).c0, (HCT.out.quiet (HO3.out.trans ho2)).c2⟩)
  replace HX2 : Hid (∀ w', Only (fun _ => False) w3 w' → _) := Lib.hid (fun w' (ho2 : Only (fun _ => False) w3 w') => HX2.out w' (h23.trans ho2))
  clear hHeld h23 HS3
  go_upto_region 5 with fail
  refine wp_region_noPanic ?_
  refine wp_region_held_drew (S := (fun w' => w'.cell? ⟨p, 0, none⟩ = some (.int .i64 places) ∧ w'.cell? ⟨p, 2, none⟩ = some (.slice ao L.length cap))) (by kernel_rfl) (HS5.out _ (Only.refl _ _).drew) (fun hHeld => ?_)
  obtain ⟨w4, hw4⟩ : ∃ x, x = w3.drew := ⟨_, rfl⟩
  rw [← hw4] at hHeld ⊢
  have h34 : Only (fun _ => False) w3 w4 := by rw [hw4]; exact (Only.refl _ _).drew
  clear hw4
  refine wpAnyH_take (i := 0) (v := ?_) rfl (by kernel_rfl) (by kernel_rfl) (by kernel_rfl) (fun _ _ _ h => h) (Or.inl ⟨by rfl, ?_⟩) (by assumption) ?_
  rotate_left 1
  · intro w' hSw
    try dsimp only at hSw
    go_simp
    try with_reducible rfl
  try simp only [List.getElem_toArray, List.getElem_cons_zero, Act.put, List.setIfInBounds_toArray, List.set_cons_zero, List.set_cons_succ]
  refine wpAnyH_take (i := 1) (v := ?_) rfl (by kernel_rfl) (by kernel_rfl) (by kernel_rfl) (fun _ _ _ h => h) (Or.inl ⟨by rfl, ?_⟩) (by assumption) ?_
  rotate_left 1
  · intro w' hSw
    try dsimp only at hSw
    go_simp
    try with_reducible rfl
  try simp only [List.getElem_toArray, List.getElem_cons_zero, List.getElem_cons_succ, Act.put, List.setIfInBounds_toArray, List.set_cons_zero, List.set_cons_succ]
  refine wpAnyH_take (i := 2) (v := ?_) rfl (by kernel_rfl) (by kernel_rfl) (by kernel_rfl) (fun _ _ _ h => h) (Or.inl ⟨by rfl, ?_⟩) (by assumption) ?_
  rotate_left 1
  · intro w' hSw
    try dsimp only at hSw
    go_simp
    try with_reducible rfl
  try simp only [List.getElem_toArray, List.getElem_cons_zero, List.getElem_cons_succ, Act.put, List.setIfInBounds_toArray, List.set_cons_zero, List.set_cons_succ]
  refine wpAnyH_take (i := 3) (v := ?_) rfl (by kernel_rfl) (by kernel_rfl) (by kernel_rfl) (fun _ _ _ h => h) (Or.inl ⟨by rfl, ?_⟩) (by assumption) ?_
  rotate_left 1
  · intro w' hSw
    try dsimp only at hSw
    go_simp
    try with_reducible rfl
  try simp only [List.getElem_toArray, List.getElem_cons_zero, List.getElem_cons_succ, Act.put, List.setIfInBounds_toArray, List.set_cons_zero, List.set_cons_succ]
  refine wpAnyH_take (i := 4) (v := ?_) rfl (by kernel_rfl) (by kernel_rfl) (by kernel_rfl) (fun _ _ _ h => h) (Or.inl ⟨by rfl, ?_⟩) (by assumption) ?_
  rotate_left 1
  · intro w' hSw
    try dsimp only at hSw
    go_simp
    try with_reducible rfl
  try simp only [List.getElem_toArray, List.getElem_cons_zero, List.getElem_cons_succ, Act.put, List.setIfInBounds_toArray, List.set_cons_zero, List.set_cons_succ]
  refine wpAnyH_take (i := 5) (v := ?_) rfl (by kernel_rfl) (by kernel_rfl) (by kernel_rfl) (fun _ _ _ h => h) (Or.inl ⟨by rfl, ?_⟩) (by assumption) ?_
  rotate_left 1
  · intro w' hSw
    try dsimp only at hSw
    go_simp
    try with_reducible rfl
  try simp only [List.getElem_toArray, List.getElem_cons_zero, List.getElem_cons_succ, Act.put, List.setIfInBounds_toArray, List.set_cons_zero, List.set_cons_succ]
  refine wpAnyH_take (i := 6) (v := ?_) rfl (by kernel_rfl) (by kernel_rfl) (by kernel_rfl) (fun _ _ _ h => h) (Or.inl ⟨by rfl, ?_⟩) (by assumption) ?_
  rotate_left 1
  · intro w' hSw
    try dsimp only at hSw
    go_simp
    try with_reducible rfl
  try simp only [List.getElem_toArray, List.getElem_cons_zero, List.getElem_cons_succ, Act.put, List.setIfInBounds_toArray, List.set_cons_zero, List.set_cons_succ]
  refine wpAnyH_take (i := 7) (v := ?_) rfl (by kernel_rfl) (by kernel_rfl) (by kernel_rfl) (fun _ _ _ h => h) (Or.inl ⟨by rfl, ?_⟩) (by assumption) ?_
  rotate_left 1
  · intro w' hSw
    try dsimp only at hSw
    go_simp
    try with_reducible rfl
  try simp only [List.getElem_toArray, List.getElem_cons_zero, List.getElem_cons_succ, Act.put, List.setIfInBounds_toArray, List.set_cons_zero, List.set_cons_succ]
  refine wpAnyH_take (i := 8) (v := ?_) rfl (by kernel_rfl) (by kernel_rfl) (by kernel_rfl) (fun _ _ _ h => h) (Or.inl ⟨by rfl, ?_⟩) (by assumption) ?_
  rotate_left 1
  · intro w' hSw
    try dsimp only at hSw
    go_simp
    try with_reducible rfl
  try simp only [List.getElem_toArray, List.getElem_cons_zero, List.getElem_cons_succ, Act.put, List.setIfInBounds_toArray, List.set_cons_zero, List.set_cons_succ]
  refine wpAnyH_take (i := 9) (v := ?_) rfl (by kernel_rfl) (by kernel_rfl) (by kernel_rfl) (fun _ _ _ h => h) (Or.inl ⟨by rfl, ?_⟩) (by assumption) ?_
  rotate_left 1
  · intro w' hSw
    try dsimp only at hSw
    go_simp
    try with_reducible rfl
  try simp only [List.getElem_toArray, List.getElem_cons_zero, List.getElem_cons_succ, Act.put, List.setIfInBounds_toArray, List.set_cons_zero, List.set_cons_succ]
  refine wpAnyH_done (by kernel_rfl) ?_ _
  refine NoPanic.normal ?_
  have HO4 := Lib.hid (HO3.out.trans h34)
  have HS7 : Hid (∀ w', Only (fun _ => False) w4 w' → w'.cell? ⟨g, 0, none⟩ = some (.int .i64 i) ∧ w'.cell? ⟨g, 1, none⟩ = some (.int .i64 nd) ∧ w'.cell? ⟨g, 2, none⟩ = some (.int .i64 0) ∧ w'.cell? ⟨g, 3, none⟩ = some (.int .i64 0) ∧ w'.cell? ⟨g, 4, none⟩ = some (.slice none 0 0) ∧ w'.cell? ⟨p, 2, none⟩ = some (.slice ao L.length cap)) := Lib.hid (fun w' ho2 => by
    obtain ⟨q0, q1, q2, q3, q4⟩ := HX2.out w' (h34.trans ho2)
    exact ⟨q0, q1, q2, q3, q4, (HCT.out.quiet (HO4.out.trans ho2)).c2⟩)
  clear hHeld h34 HS5 HX2
  go_upto_region 7 with fail
  refine wp_region_noPanic ?_
  refine late.region (fun w' => w'.cell? ⟨g, 0, none⟩ = some (.int .i64 i) ∧ w'.cell? ⟨g, 1, none⟩ = some (.int .i64 nd) ∧ w'.cell? ⟨g, 2, none⟩ = some (.int .i64 0) ∧ w'.cell? ⟨g, 3, none⟩ = some (.int .i64 0) ∧ w'.cell? ⟨g, 4, none⟩ = some (.slice none 0 0) ∧ w'.cell? ⟨p, 2, none⟩ = some (.slice ao L.length cap)) (fun j => [11].contains j) (by kernel_rfl) (HS7.out _ (Only.refl _ _).drew) (fun hHeld => ?_)
  obtain ⟨y0, hy0⟩ : ∃ x, x = w4.drew := ⟨_, rfl⟩
  rw [← hy0] at hHeld ⊢
  have hot : Hid (Only (fun _ => False) w4 y0) := Lib.hid (by rw [hy0]; exact (Only.refl _ _).drew)
  clear hy0
  refine late.take (i := 0) [9, 10, 11] (v := ?_) rfl (by kernel_rfl) (by kernel_rfl) (by kernel_rfl) (by kernel_rfl) (fun _ _ _ h => h) (Or.inl ⟨by rfl, ?_⟩) (by assumption) ?_
  rotate_left 1
  · intro w' hSw
    try dsimp only at hSw
    go_simp
    try with_reducible rfl
  try simp only [List.getElem_toArray, List.getElem_cons_zero, Act.put, List.setIfInBounds_toArray, List.set_cons_zero, List.set_cons_succ]
  refine late.take (i := 1) [2, 3, 4, 8, 9, 10, 11] (v := ?_) rfl (by kernel_rfl) (by kernel_rfl) (by kernel_rfl) (by kernel_rfl) (fun _ _ _ h => h) (Or.inl ⟨by rfl, ?_⟩) (by assumption) ?_
  rotate_left 1
  · intro w' hSw
    try dsimp only at hSw
    go_simp
    try with_reducible rfl
  try simp only [List.getElem_toArray, List.getElem_cons_zero, List.getElem_cons_succ, Act.put, List.setIfInBounds_toArray, List.set_cons_zero, List.set_cons_succ]
  refine late.take (i := 2) [3, 4, 8, 9, 10, 11] (v := ?_) rfl (by kernel_rfl) (by kernel_rfl) (by kernel_rfl) (by kernel_rfl) (fun _ _ _ h => h) (Or.inl ⟨by rfl, ?_⟩) (by assumption) ?_
  rotate_left 1
  · intro w' hSw
    try dsimp only at hSw
    go_simp
    try with_reducible rfl
  try simp only [List.getElem_toArray, List.getElem_cons_zero, List.getElem_cons_succ, Act.put, List.setIfInBounds_toArray, List.set_cons_zero, List.set_cons_succ]
  refine late.take (i := 3) [4, 8, 9, 10, 11] (v := ?_) rfl (by kernel_rfl) (by kernel_rfl) (by kernel_rfl) (by kernel_rfl) (fun _ _ _ h => h) (Or.inl ⟨by rfl, ?_⟩) (by assumption) ?_
  rotate_left 1
  · intro w' hSw
    try dsimp only at hSw
    go_simp
    try with_reducible rfl
  try simp only [List.getElem_toArray, List.getElem_cons_zero, List.getElem_cons_succ, Act.put, List.setIfInBounds_toArray, List.set_cons_zero, List.set_cons_succ]
  refine late.take (i := 4) [8, 9, 10, 11] (v := ?_) rfl (by kernel_rfl) (by kernel_rfl) (by kernel_rfl) (by kernel_rfl) (fun _ _ _ h => h) (Or.inl ⟨by rfl, ?_⟩) (by assumption) ?_
  rotate_left 1
  · intro w' hSw
    try dsimp only at hSw
    go_simp
    try with_reducible rfl
  try simp only [List.getElem_toArray, List.getElem_cons_zero, List.getElem_cons_succ, Act.put, List.setIfInBounds_toArray, List.set_cons_zero, List.set_cons_succ]
  refine late.take (i := 5) [6, 7, 8, 9, 10, 11] (v := ?_) rfl (by kernel_rfl) (by kernel_rfl) (by kernel_rfl) (by kernel_rfl) (fun _ _ _ h => h) (Or.inl ⟨by rfl, ?_⟩) (by assumption) ?_
  rotate_left 1
  · intro w' hSw
    try dsimp only at hSw
    go_simp
    try with_reducible rfl
  try simp only [List.getElem_toArray, List.getElem_cons_zero, List.getElem_cons_succ, Act.put, List.setIfInBounds_toArray, List.set_cons_zero, List.set_cons_succ]
  refine late.ready (rs := [6]) (by kernel_rfl) (by simp) ?_
  refine late.Each.cons rfl (fun K hK => ?_) late.Each.nil
  try simp only [List.getElem_toArray, List.getElem_cons_zero, List.getElem_cons_succ]
  go_simp
  go_at_call 46
  with_reducible refine (sclone_any i nd _).mono ?_
  rintro _ W1 ⟨rfl, ho⟩
  replace hot := Lib.hid (hot.out.trans ho)
  clear ho
  try dsimp only
  refine hK.out _ _ (fun _ => HS7.out _ hot.out) (fun hHeld1 => ?_)
  replace hHeld1 := hHeld1 rfl
  clear hK K
  try simp only [List.getElem_toArray, List.getElem_cons_zero, List.getElem_cons_succ, Act.put, List.setIfInBounds_toArray, List.set_cons_zero, List.set_cons_succ]
  refine late.ready (rs := [7]) (by kernel_rfl) (by simp) ?_
  refine late.Each.cons rfl (fun K hK => ?_) late.Each.nil
  try simp only [List.getElem_toArray, List.getElem_cons_zero, List.getElem_cons_succ]
  go_simp
  obtain ⟨W2, hW2⟩ : ∃ x, x = W1.alloc (.cells #[.int .i64 i, .int .i64 nd, .int .i64 0, .int .i64 0, .slice none 0 0] 25) := ⟨_, rfl⟩
  obtain ⟨g2, hg2⟩ : ∃ x, x = W1.heap.size := ⟨_, rfl⟩
  rw [← hW2, ← hg2]
  have hsb := sbox hW2 hg2
  have HNW : Hid (∀ j u, (encS ⟨i, nd⟩)[j]? = some u → W2.cell? ⟨g2, j, none⟩ = some u) := Lib.hid (fun j u hu => by
    rw [hW2, hg2, Go.Joins.cell_of_block (cs := #[.int .i64 i, .int .i64 nd, .int .i64 0, .int .i64 0, .slice none 0 0]) (t := 25) (fr := (0, 0)) (by rw [heap_alloc, if_pos rfl])]
    rw [← hu]; simp [encS])
  replace hot := Lib.hid (hot.out.trans hsb.2.2.2.2.2)
  clear hW2 hg2 hsb
  refine hK.out _ _ (fun _ => HS7.out _ hot.out) (fun hHeld2 => ?_)
  replace hHeld2 := hHeld2 rfl
  clear hK K
  try simp only [List.getElem_toArray, List.getElem_cons_zero, List.getElem_cons_succ, Act.put, List.setIfInBounds_toArray, List.set_cons_zero, List.set_cons_succ]
  refine late.ready (rs := [8]) (by kernel_rfl) (by simp) ?_
  refine late.Each.cons rfl (fun K hK => ?_) late.Each.nil
  refine step_sess (a := { tmps := _, defers := _ }) rfl _ _ rfl _ L rfl (HOW.out.only (HO4.out.trans hot.out) (fun _ _ f => f)) g2 1 ⟨i, nd⟩ rfl HNW.out (by omega) ?_
  rintro v3 W3 hown hgrow hkk
  obtain ⟨gq, bc, hvf, -, -, hbc, -⟩ := owns_form hown (by simp)
  have hl1 : (L ++ [(⟨i, nd⟩ : Se)]).length = L.length + 1 := by simp
  rw [hl1] at hvf hbc
  subst hvf
  have hgo := Only.of_grown hgrow
  have hall := HO4.out.trans hot.out
  have d2 := hgo.cell' (HS7.out _ hot.out).2.2.2.2.2 (fun e => HNP.out e)
  have f2 : W3.frozen? ⟨p, 2, none⟩ = false := (hgo.frozen (p := ⟨p, 2, none⟩) (by have := hall.size; have := HCT.out.lt; show p < _; omega) (fun e => HNP.out e)).trans ((hall.frozen (p := ⟨p, 2, none⟩) HCT.out.lt (fun f => f)).trans HCT.out.f2)
  have f1 : W3.frozen? ⟨p, 1, none⟩ = false := (hgo.frozen (p := ⟨p, 1, none⟩) (by have := hall.size; have := HCT.out.lt; show p < _; omega) (fun e => HNP.out e)).trans ((hall.frozen (p := ⟨p, 1, none⟩) HCT.out.lt (fun f => f)).trans HCT.out.f1)
  have d1 := hgo.cell' ((HCT.out.quiet hall).c1) (fun e => HNP.out e)
  have d0 := hgo.cell' ((HCT.out.quiet hall).c0) (fun e => HNP.out e)
  have x0 := hgo.cell' (HS7.out _ hot.out).1 (fun e => HNG.out e)
  have HX12 := Lib.hid (And.intro x0 (And.intro (hgo.cell' (HS7.out _ hot.out).2.1 (fun e => HNG.out e)) (And.intro (hgo.cell' (HS7.out _ hot.out).2.2.1 (fun e => HNG.out e)) (And.intro (hgo.cell' (HS7.out _ hot.out).2.2.2.1 (fun e => HNG.out e)) (And.intro (hgo.cell' (HS7.out _ hot.out).2.2.2.2.1 (fun e => HNG.out e)) d2)))))
  have HOW12 := Lib.hid hown
  have HKK : Hid (∀ k, (.slice (some ⟨gq, 0, none⟩) (L.length + 1) bc : Value).ownBlock = some k → (.slice ao L.length cap : Value).ownBlock = some k ∨ w.heap.size ≤ k) := Lib.hid (fun k e => (hkk k e).imp (fun x => x) (fun e2 => Nat.le_trans hall.size e2))
  have HG9 : Hid (Only (fun x => x = p ∨ (.slice ao L.length cap : Value).ownBlock = some x) w W3) := Lib.hid ((hall.mono (fun _ _ f => f.elim)).trans (hgo.mono (fun k _ e => .inr e)))
  clear hown hgrow hkk hgo HNW hall
  refine hK.out _ _ (fun _ => HX12.out) (fun hHeld3 => ?_)
  replace hHeld3 := hHeld3 rfl
  clear hK K
  try simp only [List.getElem_toArray, List.getElem_cons_zero, List.getElem_cons_succ, Act.put, List.setIfInBounds_toArray, List.set_cons_zero, List.set_cons_succ]
  refine late.take (i := 9) [10, 11] (v := ?_) rfl (by kernel_rfl) (by kernel_rfl) (by kernel_rfl) (by kernel_rfl) (fun _ _ _ h => h) (Or.inl ⟨by rfl, ?_⟩) (by assumption) ?_
  rotate_left 1
  · intro w' hSw
    try dsimp only at hSw
    go_simp
    try with_reducible rfl
  try simp only [List.getElem_toArray, List.getElem_cons_zero, List.getElem_cons_succ, Act.put, List.setIfInBounds_toArray, List.set_cons_zero, List.set_cons_succ]
  refine late.take (i := 10) [11] (v := ?_) rfl (by kernel_rfl) (by kernel_rfl) (by kernel_rfl) (by kernel_rfl) (fun _ _ _ h => h) (Or.inl ⟨by rfl, ?_⟩) (by assumption) ?_
  rotate_left 1
  · intro w' hSw
    try dsimp only at hSw
    go_simp
    try with_reducible rfl
  try simp only [List.getElem_toArray, List.getElem_cons_zero, List.getElem_cons_succ, Act.put, List.setIfInBounds_toArray, List.set_cons_zero, List.set_cons_succ]
  refine late.ready (rs := [11]) (by kernel_rfl) (by simp) ?_
  refine late.Each.cons rfl (fun K hK => ?_) late.Each.nil
  try simp only [List.getElem_toArray, List.getElem_cons_zero, List.getElem_cons_succ]
  go_simp
  refine hK.out _ _ (fun h => by cases h) (fun _ => ?_)
  clear hK K
  try simp only [List.getElem_toArray, List.getElem_cons_zero, List.getElem_cons_succ, Act.put, List.setIfInBounds_toArray, List.set_cons_zero, List.set_cons_succ]
  refine late.done (by kernel_rfl) ?_ _
  refine NoPanic.normal ?_
  obtain ⟨w5, hw5⟩ : ∃ x, x = W3.setCell ⟨p, 2, none⟩ (.slice (some ⟨gq, 0, none⟩) (L.length + 1) bc : Value) := ⟨_, rfl⟩
  rw [← hw5]
  have e2 : w5.cell? ⟨p, 2, none⟩ = some (.slice (some ⟨gq, 0, none⟩) (L.length + 1) bc : Value) := by rw [hw5]; exact cell_same d2
  have ef : w5.frozen? ⟨p, 2, none⟩ = false := by rw [hw5]; exact frozen_set.trans f2
  have ef1 : w5.frozen? ⟨p, 1, none⟩ = false := by rw [hw5]; exact frozen_set.trans f1
  have e0 : w5.cell? ⟨p, 0, none⟩ = some (.int .i64 places) := by rw [hw5, cell_other (fun e => by injection e with _ e _; omega)]; exact d0
  have e1 : w5.cell? ⟨p, 1, none⟩ = some (.int .i64 last) := by rw [hw5, cell_other (fun e => by injection e with _ e _; omega)]; exact d1
  have ex : w5.cell? ⟨g, 0, none⟩ = some (.int .i64 i) := by rw [hw5, cell_other (fun e => by injection e with e _ _; exact hgp e.symm)]; exact x0
  have HNP9 : Hid ((.slice (some ⟨gq, 0, none⟩) (L.length + 1) bc : Value).ownBlock ≠ some p) := Lib.hid (fun e => (HKK.out p e).elim (fun e => HNP.out e) (fun e => by have := HCT.out.lt; omega))
  have HOW5 : Hid (OwnS w5 (.slice (some ⟨gq, 0, none⟩) (L.length + 1) bc : Value) (L ++ [⟨i, nd⟩])) := Lib.hid (by rw [hw5]; exact HOW12.out.only (Only.set (fun x => x = p) _ p 2 _ rfl) (fun k e e2 => HNP9.out (by rw [e, e2])))
  have HG5 : Hid (Only (fun x => x = p ∨ (.slice ao L.length cap : Value).ownBlock = some x) w w5) := Lib.hid (HG9.out.trans (by rw [hw5]; exact Only.set _ _ p 2 _ (.inl rfl)))
  clear hw5 hHeld d2 d1 d0 f2 f1 x0 HOW12 HG9 hot HX12
  obtain ⟨w6, hw6⟩ : ∃ x, x = w5.setCell ⟨p, 1, none⟩ (.int .i64 i) := ⟨_, rfl⟩
  have HEND : Hid (CtAt (fun q => S q ∨ w.heap.size ≤ q) w6 p places i (.slice (some ⟨gq, 0, none⟩) (L.length + 1) bc : Value) (L ++ [⟨i, nd⟩])) := Lib.hid ⟨(by rw [hw6, cell_other (fun e => by injection e with _ e _; omega)]; exact e0), (by rw [hw6]; exact cell_same e1), (by rw [hw6, cell_other (fun e => by injection e with _ e _; omega)]; exact e2), (by rw [hw6]; exact frozen_set.trans ef1), (by rw [hw6]; exact frozen_set.trans ef), (by rw [hw6]; exact HOW5.out.only (Only.set (fun x => x = p) _ p 1 _ rfl) (fun k e e2 => HNP9.out (by rw [e, e2]))), HNP9.out, (by rw [hl1]; omega), .inl HCT.out.sp, fun k e => (HKK.out k e).elim (fun e => .inl (HCT.out.so k e)) (fun e => .inr e)⟩
  have HOS : Hid (Only S w w6) := Lib.hid ((HG5.out.trans (by rw [hw6]; exact Only.set _ _ p 1 _ (.inl rfl))).mono (fun k hk e => e.elim (fun e => by rw [e]; exact HCT.out.sp) (fun e => HCT.out.so k e)))
  go_wp2_with fail
  rw [← hw6]
  go_ret
  exact ⟨rfl, ⟨_, HEND.out⟩, HOS.out⟩
end Go.Proofs.Ytglcdpggngcdeaa.crd
