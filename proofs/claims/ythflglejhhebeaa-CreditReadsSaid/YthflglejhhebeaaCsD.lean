/- Sessions with grants: Add. -/
import Derived.Test.YthflglejhhebeaaCsC
import Derived.Test.YthflglejhhebeaaHeldL
namespace Go.Proofs.Ythflglejhhebeaa.cs
open Go.RowKit mem rwg
set_option linter.unusedVariables false

theorem step_sess {ops : Array Oper} {o : Oper} {a : Act} {w : World} {K : Act → World → Prop} {Q : Exit → Act → World → Prop} {E : Prop}
    (hg : o.guard = none) (s x : Operand) (ho : o.op = Op.call { callee := Callee.builtin Builtin.append, args := #[s, x], argTypes := #[65, 65] })
    (v : Value) (xs : List Sd) (hs : a.eval s = v) (hown : OwnR (ES 25) w v xs) (g c : Nat) (d : Sd) (hx : a.eval x = .slice (some ⟨g, 0, none⟩) 1 c) (hn : ∀ j u, (encS d)[j]? = some u → w.cell? ⟨g, j, none⟩ = some u) (hb : xs.length ≤ 1000)
    (hK : ∀ v' w', OwnR (ES 25) w' v' (xs ++ [d]) → w.grownBy w' v.ownBlock → (∀ k, v'.ownBlock = some k → v.ownBlock = some k ∨ w.heap.size ≤ k) → K (a.put o.dst v') w') :
    if Region.wanted o (yielded ops a.tmps) = true then Oper.wp Try.prog o a w K Q else E := by
  obtain ⟨i0, hi, hz0, hz1, hz2⟩ := info_partsS info_se
  refine step_mine hg s x 65 ho 25 i0 _ 5 56 Try.underlying65 hi hz0 hz1 hz2 rfl (by decide) v xs.length (gv (ES 25) xs) hs hown ⟨g, 0, none⟩ 1 c (encS d) hx rfl (fun j u h => by rw [add_none, Nat.zero_add]; exact hn j u h) (fun u hu => (ES 0).one d u hu) (by unfold maxLen; omega) (by omega) ?_
  intro v' w' h1 h2 h3
  exact hK v' w' (OwnR.app (E := ES 25) h1 rfl) h2 h3
/-- what a call of a table leaves -/
def TRes (S : Nat → Prop) (p : Nat) (pl last : Int) (K : List Sx) (w w' : World) : Prop := (∃ v' L', L'.map Sd.sx = K ∧ PT (fun q => S q ∨ w.heap.size ≤ q) w' p pl last v' L') ∧ Only S w w'
theorem TRes.same {S : Nat → Prop} {p : Nat} {pl last : Int} {v : Value} {L : List Sd} {w w' : World} (h : PT S w p pl last v L) (ho : Only (fun _ => False) w w') : TRes S p pl last (L.map Sd.sx) w w' :=
  ⟨⟨v, L, rfl, (h.quiet ho).mono (fun q _ s => .inl s)⟩, ho.mono (fun _ _ f => f.elim)⟩
theorem own_neS {N : Bool} {t : TypeId} {S : Nat → Prop} {w : World} {p : Nat} {pl last : Int} {v : Value} {L : List Sd} (h : CtAt N t S w p pl last v L) : ∀ q, v.ownBlock = some q → q < w.heap.size ∧ q ≠ p := fun q e => ⟨h.own.lt e, fun e2 => h.np (by rw [e, e2])⟩
/-- what was there stays, with one more behind it, or one of them another one -/
theorem grin_more {N : Bool} {t : TypeId} {S : Nat → Prop} {w w9 w' : World} {p : Nat} {pl last : Int} {v v' : Value} {L : List Sd} {d : Sd} (h : CtAt N t S w p pl last v L) (h09 : Only (fun _ => False) w w9) (h9 : Only (fun q => q = p ∨ v.ownBlock = some q) w9 w')
    (hv : ∀ k, v'.ownBlock = some k → v.ownBlock = some k ∨ w9.heap.size ≤ k)
    (hd1 : ReadsG w9 d.a d.n d.gs ∧ Cp d.a d.n d.c) (hb1 : ∀ y, d.a = some y → 0 < d.n → w.heap.size ≤ y.block ∧ y.block < w9.heap.size) :
    ∀ x, x ∈ L ∨ x = d → GrIn (fun q => S q ∨ w.heap.size ≤ q) w' p v' x := by
  have hp := h.lt
  have hown := own_neS h
  have hsz := h09.size
  have hall : Only (fun q => q = p ∨ v.ownBlock = some q) w w' := (h09.mono (fun _ _ f => f.elim)).trans h9
  rintro x (hx | rfl)
  · exact (h.kd x hx).move hall (fun y e hn q => by
      obtain ⟨_, _, n1, n2⟩ := (h.kd x hx).2.2 y e hn
      exact q.elim (fun q => n1 q) (fun q => n2 q)) (fun y e hn q => by
      obtain ⟨m1, _, _, n2⟩ := (h.kd x hx).2.2 y e hn
      rcases hv _ q with q | q
      · exact n2 q
      · omega) (fun q s => .inl s)
  · exact ⟨hd1.1.only' h9 (fun y e hn q => by
      obtain ⟨m1, m2⟩ := hb1 y e hn
      rcases q with q | q
      · omega
      · have := (hown _ q).1; omega), hd1.2, fun y e hn => by
      obtain ⟨m1, m2⟩ := hb1 y e hn
      refine ⟨by have := h9.size; omega, .inr m1, by omega, fun q => ?_⟩
      rcases hv _ q with q | q
      · have := (hown _ q).1; omega
      · omega⟩
set_option maxRecDepth 100000 in
set_option maxHeartbeats 8000000 in
theorem cadd_any {S : Nat → Prop} (p : Nat) (places last : Int) (v : Value) (L : List Sd) (i nd num dl : Int) (a : Option Addr) (n c : Nat) (gs : List Gr) (w : World) (h : PT S w p places last v L) (hr : ReadsG w a n gs) (hcp : Cp a n c) (hz : n = 0 → a = none ∧ c = 0) (hlen : (L.length : Int) ≤ places ∧ places ≤ 16) : Calls Try.prog 10 #[.pointer (some ⟨p, 0, none⟩), .agg #[.int .i64 i, .int .i64 nd, .int .i64 num, .int .i64 dl, .slice a n c]] w fun e w' => e = .returned (.int .i64 (addE places last (L.map Sd.sx) ⟨i, nd, num, dl, gs⟩)) ∧ TRes S p places (addK places last (L.map Sd.sx) ⟨i, nd, num, dl, gs⟩) (addL places last (L.map Sd.sx) ⟨i, nd, num, dl, gs⟩) w w' := by
  obtain ⟨AE, hAE⟩ : ∃ x, x = addE places last (L.map Sd.sx) ⟨i, nd, num, dl, gs⟩ := ⟨_, rfl⟩
  obtain ⟨AK, hAK⟩ : ∃ x, x = addK places last (L.map Sd.sx) ⟨i, nd, num, dl, gs⟩ := ⟨_, rfl⟩
  obtain ⟨AL, hAL⟩ : ∃ x, x = addL places last (L.map Sd.sx) ⟨i, nd, num, dl, gs⟩ := ⟨_, rfl⟩
  rw [← hAL, ← hAK, ← hAE]
  unfold addL at hAL
  unfold addK at hAK
  rw [← hAE] at hAL hAK
  have HADL := Lib.hid hAL
  have HAK := Lib.hid hAK
  unfold addE at hAE
  rw [List.length_map] at hAE
  dsimp only at hAE
  have HAE := Lib.hid hAE
  clear hAE hAL hAK
  have HNO : Hid (∀ w' E, E ≠ 0 → AE = E → Only (fun _ => False) w w' → Ending.returned (.int .i64 E) = .returned (.int .i64 AE) ∧ TRes S p places AK AL w w') := Lib.hid (fun w' E hE e ho => by rw [HADL.out, HAK.out, e, if_neg hE, if_neg hE]; exact ⟨rfl, TRes.same h ho⟩)
  obtain ⟨ao, cap, hv, hcc, -⟩ := h.own.reads
  subst hv
  have HOW := Lib.hid h.own
  have HNP : Hid ((.slice ao L.length cap : Value).ownBlock ≠ some p) := Lib.hid h.np
  have HNG : Hid ((.slice ao L.length cap : Value).ownBlock ≠ some w.heap.size) := Lib.hid (fun e => by have := h.own.lt e; omega)
  obtain ⟨w1, hw⟩ : ∃ x, x = w.alloc (.cells #[.int .i64 i, .int .i64 nd, .int .i64 num, .int .i64 dl, .slice a n c] 25) := ⟨_, rfl⟩
  obtain ⟨g, hg⟩ : ∃ x, x = w.heap.size := ⟨_, rfl⟩
  have HBX := Lib.hid (sbox hw hg)
  have HCT := Lib.hid h
  have hgp : g ≠ p := by have := h.lt; omega
  have HIS := Lib.hid (issess_any i nd num dl a n c gs w1 (hr.quiet HBX.out.2.2.2.2.2) hcp)
  have HRD := Lib.hid hr
  have HSX : Hid (n ≤ 1000 ∨ rightB ⟨i, nd, num, dl, gs⟩ = false) := Lib.hid (by
    cases hb : rightB ⟨i, nd, num, dl, gs⟩
    · exact .inr rfl
    · left
      have h1 := grsB_len ((rightB_iff _).1 hb).2.2.2.2.2.2
      have h2 := hr.1
      dsimp only at h1
      omega)
  clear h hr
  obtain ⟨b0, b1, b2, b3, b4, -⟩ := HBX.out
  generalize rightB ⟨i, nd, num, dl, gs⟩ = RB at *
  go_enter Try.func10, Try.ntmps10
  go_upto_region 1 with fail
  simp only [← hw, ← hg]
  rw [← hg] at HNG
  clear hw hg
  go_wp2_with fail
  refine HIS.out.mono ?_
  rintro _ w2 ⟨rfl, ho⟩
  have HO2 := Lib.hid (HBX.out.2.2.2.2.2.trans ho)
  have HX2 : Hid (∀ w', Only (fun _ => False) w2 w' → w'.cell? ⟨g, 0, none⟩ = some (.int .i64 i) ∧ w'.cell? ⟨g, 1, none⟩ = some (.int .i64 nd) ∧ w'.cell? ⟨g, 2, none⟩ = some (.int .i64 num) ∧ w'.cell? ⟨g, 3, none⟩ = some (.int .i64 dl) ∧ w'.cell? ⟨g, 4, none⟩ = some (.slice a n c)) := Lib.hid (fun w' ho2 => ⟨(ho.trans ho2).cell' HBX.out.1 (fun f => f), (ho.trans ho2).cell' HBX.out.2.1 (fun f => f), (ho.trans ho2).cell' HBX.out.2.2.1 (fun f => f), (ho.trans ho2).cell' HBX.out.2.2.2.1 (fun f => f), (ho.trans ho2).cell' HBX.out.2.2.2.2.1 (fun f => f)⟩)
  have HS3 : Hid (∀ w', Only (fun _ => False) w2 w' → w'.cell? ⟨g, 0, none⟩ = some (.int .i64 i) ∧ w'.cell? ⟨p, 1, none⟩ = some (.int .i64 last)) := Lib.hid (fun w' ho2 => ⟨(HX2.out w' ho2).1, (HCT.out.quiet (HO2.out.trans ho2)).c1⟩)
  clear ho b0 b1 b2 b3 b4 HIS
  cases RB
  · have HE : Hid (AE = 1) := Lib.hid (by rw [HAE.out, if_neg (by decide)])
    clear HAE HS3
    go_wp2_with fail
    go_ret
    exact HNO.out _ 1 (by decide) HE.out HO2.out
  replace HAE := Lib.hid (by have h := HAE.out; rw [if_pos rfl] at h; exact h)
  have hn1 : n ≤ 1000 := HSX.out.resolve_right (by decide)
  go_upto_region 3 with fail
  by_cases h5 : i ≤ last
  · have HE : Hid (AE = 13) := Lib.hid (by rw [HAE.out, if_pos h5])
    clear HAE
    refine wp_region_noPanic ?_
    refine wp_region_held_drew (S := (fun w' => w'.cell? ⟨g, 0, none⟩ = some (.int .i64 i) ∧ w'.cell? ⟨p, 1, none⟩ = some (.int .i64 last))) (by kernel_rfl) (HS3.out _ (Only.refl _ _).drew) (fun hHeld => ?_)
    obtain ⟨w3, hw3⟩ : ∃ x, x = w2.drew := ⟨_, rfl⟩
    rw [← hw3] at hHeld ⊢
    have h23 : Only (fun _ => False) w2 w3 := by rw [hw3]; exact (Only.refl _ _).drew
    clear hw3
    refine wpAnyH_take (i := 0) (v := ?_) rfl (by kernel_rfl) (by kernel_rfl) (by kernel_rfl) (fun _ _ _ h => h) (Or.inl ⟨by rfl, ?_⟩) (by assumption) ?_
    rotate_left 1
    · intro w' hSw
      try dsimp only at hSw
      go_simp
      try with_reducible rfl
    try simp only [List.getElem_toArray, List.getElem_cons_zero, Act.put, List.setIfInBounds_toArray, List.set_cons_zero, List.set_cons_succ]
    refine wpAnyH_take (i := 1) (v := ?_) rfl (by kernel_rfl) (by kernel_rfl) (by kernel_rfl) (fun _ _ _ h => h) (Or.inl ⟨by rfl, ?_⟩) (by assumption) ?_
    rotate_left 1
    · intro w' hSw
      try dsimp only at hSw
      go_simp
      try with_reducible rfl
    try simp only [List.getElem_toArray, List.getElem_cons_zero, List.getElem_cons_succ, Act.put, List.setIfInBounds_toArray, List.set_cons_zero, List.set_cons_succ]
    refine wpAnyH_take (i := 2) (v := ?_) rfl (by kernel_rfl) (by kernel_rfl) (by kernel_rfl) (fun _ _ _ h => h) (Or.inl ⟨by rfl, ?_⟩) (by assumption) ?_
    rotate_left 1
    · intro w' hSw
      try dsimp only at hSw
      go_simp
      try with_reducible rfl
    try simp only [List.getElem_toArray, List.getElem_cons_zero, List.getElem_cons_succ, Act.put, List.setIfInBounds_toArray, List.set_cons_zero, List.set_cons_succ]
    refine wpAnyH_take (i := 3) (v := ?_) rfl (by kernel_rfl) (by kernel_rfl) (by kernel_rfl) (fun _ _ _ h => h) (Or.inl ⟨by rfl, ?_⟩) (by assumption) ?_
    rotate_left 1
    · intro w' hSw
      try dsimp only at hSw
      go_simp
      try with_reducible rfl
    try simp only [List.getElem_toArray, List.getElem_cons_zero, List.getElem_cons_succ, Act.put, List.setIfInBounds_toArray, List.set_cons_zero, List.set_cons_succ]
    refine wpAnyH_take (i := 4) (v := ?_) rfl (by kernel_rfl) (by kernel_rfl) (by kernel_rfl) (fun _ _ _ h => h) (Or.inl ⟨by rfl, ?_⟩) (by assumption) ?_
    rotate_left 1
    · intro w' hSw
      try dsimp only at hSw
      go_simp
      try with_reducible rfl
    try simp only [List.getElem_toArray, List.getElem_cons_zero, List.getElem_cons_succ, Act.put, List.setIfInBounds_toArray, List.set_cons_zero, List.set_cons_succ]
    refine wpAnyH_take (i := 5) (v := ?_) rfl (by kernel_rfl) (by kernel_rfl) (by kernel_rfl) (fun _ _ _ h => h) (Or.inl ⟨by rfl, ?_⟩) (by assumption) ?_
    rotate_left 1
    · intro w' hSw
      try dsimp only at hSw
      go_simp
      try with_reducible rfl
    try simp only [List.getElem_toArray, List.getElem_cons_zero, List.getElem_cons_succ, Act.put, List.setIfInBounds_toArray, List.set_cons_zero, List.set_cons_succ]
    refine wpAnyH_take (i := 6) (v := ?_) rfl (by kernel_rfl) (by kernel_rfl) (by kernel_rfl) (fun _ _ _ h => h) (Or.inl ⟨by rfl, ?_⟩) (by assumption) ?_
    rotate_left 1
    · intro w' hSw
      try dsimp only at hSw
      go_simp
      try with_reducible rfl
    try simp only [List.getElem_toArray, List.getElem_cons_zero, List.getElem_cons_succ, Act.put, List.setIfInBounds_toArray, List.set_cons_zero, List.set_cons_succ]
    refine wpAnyH_done (by kernel_rfl) ?_ _
    refine NoPanic.normal ?_
    have HO3 := Lib.hid (HO2.out.trans h23)
    clear hHeld h23
    go_wp2_with fail
    go_ret
    exact HNO.out _ 13 (by decide) HE.out HO3.out
  replace HAE := Lib.hid (by have h := HAE.out; rw [if_neg h5] at h; exact h)
  refine wp_region_noPanic ?_
  refine wp_region_held_drew (S := (fun w' => w'.cell? ⟨g, 0, none⟩ = some (.int .i64 i) ∧ w'.cell? ⟨p, 1, none⟩ = some (.int .i64 last))) (by kernel_rfl) (HS3.out _ (Only.refl _ _).drew) (fun hHeld => ?_)
  obtain ⟨w3, hw3⟩ : ∃ x, x = w2.drew := ⟨_, rfl⟩
  rw [← hw3] at hHeld ⊢
  have h23 : Only (fun _ => False) w2 w3 := by rw [hw3]; exact (Only.refl _ _).drew
  clear hw3
  refine wpAnyH_take (i := 0) (v := ?_) rfl (by kernel_rfl) (by kernel_rfl) (by kernel_rfl) (fun _ _ _ h => h) (Or.inl ⟨by rfl, ?_⟩) (by assumption) ?_
  rotate_left 1
  · intro w' hSw
    try dsimp only at hSw
    go_simp
    try with_reducible rfl
  try simp only [List.getElem_toArray, List.getElem_cons_zero, Act.put, List.setIfInBounds_toArray, List.set_cons_zero, List.set_cons_succ]
  refine wpAnyH_take (i := 1) (v := ?_) rfl (by kernel_rfl) (by kernel_rfl) (by kernel_rfl) (fun _ _ _ h => h) (Or.inl ⟨by rfl, ?_⟩) (by assumption) ?_
  rotate_left 1
  · intro w' hSw
    try dsimp only at hSw
    go_simp
    try with_reducible rfl
  try simp only [List.getElem_toArray, List.getElem_cons_zero, List.getElem_cons_succ, Act.put, List.setIfInBounds_toArray, List.set_cons_zero, List.set_cons_succ]
  refine wpAnyH_take (i := 2) (v := ?_) rfl (by kernel_rfl) (by kernel_rfl) (by kernel_rfl) (fun _ _ _ h => h) (Or.inl ⟨by rfl, ?_⟩) (by assumption) ?_
  rotate_left 1
  · intro w' hSw
    try dsimp only at hSw
    go_simp
    try with_reducible rfl
  try simp only [List.getElem_toArray, List.getElem_cons_zero, List.getElem_cons_succ, Act.put, List.setIfInBounds_toArray, List.set_cons_zero, List.set_cons_succ]
  refine wpAnyH_take (i := 3) (v := ?_) rfl (by kernel_rfl) (by kernel_rfl) (by kernel_rfl) (fun _ _ _ h => h) (Or.inl ⟨by rfl, ?_⟩) (by assumption) ?_
  rotate_left 1
  · intro w' hSw
    try dsimp only at hSw
    go_simp
    try with_reducible rfl
  try simp only [List.getElem_toArray, List.getElem_cons_zero, List.getElem_cons_succ, Act.put, List.setIfInBounds_toArray, List.set_cons_zero, List.set_cons_succ]
  refine wpAnyH_take (i := 4) (v := ?_) rfl (by kernel_rfl) (by kernel_rfl) (by kernel_rfl) (fun _ _ _ h => h) (Or.inl ⟨by rfl, ?_⟩) (by assumption) ?_
  rotate_left 1
  · intro w' hSw
    try dsimp only at hSw
    go_simp
    try with_reducible rfl
  try simp only [List.getElem_toArray, List.getElem_cons_zero, List.getElem_cons_succ, Act.put, List.setIfInBounds_toArray, List.set_cons_zero, List.set_cons_succ]
  refine wpAnyH_take (i := 5) (v := ?_) rfl (by kernel_rfl) (by kernel_rfl) (by kernel_rfl) (fun _ _ _ h => h) (Or.inl ⟨by rfl, ?_⟩) (by assumption) ?_
  rotate_left 1
  · intro w' hSw
    try dsimp only at hSw
    go_simp
    try with_reducible rfl
  try simp only [List.getElem_toArray, List.getElem_cons_zero, List.getElem_cons_succ, Act.put, List.setIfInBounds_toArray, List.set_cons_zero, List.set_cons_succ]
  refine wpAnyH_take (i := 6) (v := ?_) rfl (by kernel_rfl) (by kernel_rfl) (by kernel_rfl) (fun _ _ _ h => h) (Or.inl ⟨by rfl, ?_⟩) (by assumption) ?_
  rotate_left 1
  · intro w' hSw
    try dsimp only at hSw
    go_simp
    try with_reducible rfl
  try simp only [List.getElem_toArray, List.getElem_cons_zero, List.getElem_cons_succ, Act.put, List.setIfInBounds_toArray, List.set_cons_zero, List.set_cons_succ]
  refine wpAnyH_done (by kernel_rfl) ?_ _
  refine NoPanic.normal ?_
  have HO3 := Lib.hid (HO2.out.trans h23)
  have HS5 : Hid (∀ w', Only (fun _ => False) w3 w' → w'.cell? ⟨p, 0, none⟩ = some (.int .i64 places) ∧ w'.cell? ⟨p, 2, none⟩ = some (.slice ao L.length cap)) := Lib.hid (fun w' ho2 => ⟨(HCT.out.quiet (HO3.out.trans ho2)).c0, (HCT.out.quiet (HO3.out.trans ho2)).c2⟩)
  replace HX2 : Hid (∀ w', Only (fun _ => False) w3 w' → _) := Lib.hid (fun w' (ho2 : Only (fun _ => False) w3 w') => HX2.out w' (h23.trans ho2))
  clear hHeld h23 HS3
  go_upto_region 5 with fail
  by_cases h6 : places ≤ (L.length : Int)
  · have HE : Hid (AE = 10) := Lib.hid (by rw [HAE.out, if_pos h6])
    clear HAE
    refine wp_region_noPanic ?_
    refine wp_region_held_drew (S := (fun w' => w'.cell? ⟨p, 0, none⟩ = some (.int .i64 places) ∧ w'.cell? ⟨p, 2, none⟩ = some (.slice ao L.length cap))) (by kernel_rfl) (HS5.out _ (Only.refl _ _).drew) (fun hHeld => ?_)
    obtain ⟨w4, hw4⟩ : ∃ x, x = w3.drew := ⟨_, rfl⟩
    rw [← hw4] at hHeld ⊢
    have h34 : Only (fun _ => False) w3 w4 := by rw [hw4]; exact (Only.refl _ _).drew
    clear hw4
    refine wpAnyH_take (i := 0) (v := ?_) rfl (by kernel_rfl) (by kernel_rfl) (by kernel_rfl) (fun _ _ _ h => h) (Or.inl ⟨by rfl, ?_⟩) (by assumption) ?_
    rotate_left 1
    · intro w' hSw
      try dsimp only at hSw
      go_simp
      try with_reducible rfl
    try simp only [List.getElem_toArray, List.getElem_cons_zero, Act.put, List.setIfInBounds_toArray, List.set_cons_zero, List.set_cons_succ]
    refine wpAnyH_take (i := 1) (v := ?_) rfl (by kernel_rfl) (by kernel_rfl) (by kernel_rfl) (fun _ _ _ h => h) (Or.inl ⟨by rfl, ?_⟩) (by assumption) ?_
    rotate_left 1
    · intro w' hSw
      try dsimp only at hSw
      go_simp
      try with_reducible rfl
    try simp only [List.getElem_toArray, List.getElem_cons_zero, List.getElem_cons_succ, Act.put, List.setIfInBounds_toArray, List.set_cons_zero, List.set_cons_succ]
    refine wpAnyH_take (i := 2) (v := ?_) rfl (by kernel_rfl) (by kernel_rfl) (by kernel_rfl) (fun _ _ _ h => h) (Or.inl ⟨by rfl, ?_⟩) (by assumption) ?_
    rotate_left 1
    · intro w' hSw
      try dsimp only at hSw
      go_simp
      try with_reducible rfl
    try simp only [List.getElem_toArray, List.getElem_cons_zero, List.getElem_cons_succ, Act.put, List.setIfInBounds_toArray, List.set_cons_zero, List.set_cons_succ]
    refine wpAnyH_take (i := 3) (v := ?_) rfl (by kernel_rfl) (by kernel_rfl) (by kernel_rfl) (fun _ _ _ h => h) (Or.inl ⟨by rfl, ?_⟩) (by assumption) ?_
    rotate_left 1
    · intro w' hSw
      try dsimp only at hSw
      go_simp
      try with_reducible rfl
    try simp only [List.getElem_toArray, List.getElem_cons_zero, List.getElem_cons_succ, Act.put, List.setIfInBounds_toArray, List.set_cons_zero, List.set_cons_succ]
    refine wpAnyH_take (i := 4) (v := ?_) rfl (by kernel_rfl) (by kernel_rfl) (by kernel_rfl) (fun _ _ _ h => h) (Or.inl ⟨by rfl, ?_⟩) (by assumption) ?_
    rotate_left 1
    · intro w' hSw
      try dsimp only at hSw
      go_simp
      try with_reducible rfl
    try simp only [List.getElem_toArray, List.getElem_cons_zero, List.getElem_cons_succ, Act.put, List.setIfInBounds_toArray, List.set_cons_zero, List.set_cons_succ]
    refine wpAnyH_take (i := 5) (v := ?_) rfl (by kernel_rfl) (by kernel_rfl) (by kernel_rfl) (fun _ _ _ h => h) (Or.inl ⟨by rfl, ?_⟩) (by assumption) ?_
    rotate_left 1
    · intro w' hSw
      try dsimp only at hSw
      go_simp
      try with_reducible rfl
    try simp only [List.getElem_toArray, List.getElem_cons_zero, List.getElem_cons_succ, Act.put, List.setIfInBounds_toArray, List.set_cons_zero, List.set_cons_succ]
    refine wpAnyH_take (i := 6) (v := ?_) rfl (by kernel_rfl) (by kernel_rfl) (by kernel_rfl) (fun _ _ _ h => h) (Or.inl ⟨by rfl, ?_⟩) (by assumption) ?_
    rotate_left 1
    · intro w' hSw
      try dsimp only at hSw
      go_simp
      try with_reducible rfl
    try simp only [List.getElem_toArray, List.getElem_cons_zero, List.getElem_cons_succ, Act.put, List.setIfInBounds_toArray, List.set_cons_zero, List.set_cons_succ]
    refine wpAnyH_take (i := 7) (v := ?_) rfl (by kernel_rfl) (by kernel_rfl) (by kernel_rfl) (fun _ _ _ h => h) (Or.inl ⟨by rfl, ?_⟩) (by assumption) ?_
    rotate_left 1
    · intro w' hSw
      try dsimp only at hSw
      go_simp
      try with_reducible rfl
    try simp only [List.getElem_toArray, List.getElem_cons_zero, List.getElem_cons_succ, Act.put, List.setIfInBounds_toArray, List.set_cons_zero, List.set_cons_succ]
    refine wpAnyH_take (i := 8) (v := ?_) rfl (by kernel_rfl) (by kernel_rfl) (by kernel_rfl) (fun _ _ _ h => h) (Or.inl ⟨by rfl, ?_⟩) (by assumption) ?_
    rotate_left 1
    · intro w' hSw
      try dsimp only at hSw
      go_simp
      try with_reducible rfl
    try simp only [List.getElem_toArray, List.getElem_cons_zero, List.getElem_cons_succ, Act.put, List.setIfInBounds_toArray, List.set_cons_zero, List.set_cons_succ]
    refine wpAnyH_take (i := 9) (v := ?_) rfl (by kernel_rfl) (by kernel_rfl) (by kernel_rfl) (fun _ _ _ h => h) (Or.inl ⟨by rfl, ?_⟩) (by assumption) ?_
    rotate_left 1
    · intro w' hSw
      try dsimp only at hSw
      go_simp
      try with_reducible rfl
    try simp only [List.getElem_toArray, List.getElem_cons_zero, List.getElem_cons_succ, Act.put, List.setIfInBounds_toArray, List.set_cons_zero, List.set_cons_succ]
    refine wpAnyH_done (by kernel_rfl) ?_ _
    refine NoPanic.normal ?_
    have HO4 := Lib.hid (HO3.out.trans h34)
    clear hHeld h34
    go_wp2_with fail
    go_ret
    exact HNO.out _ 10 (by decide) HE.out HO4.out
  have HE : Hid (AE = 0) := Lib.hid (by rw [HAE.out, if_neg h6])
  clear HNO HAE
  replace HADL := Lib.hid (by have h := HADL.out; rw [HE.out, if_pos rfl] at h; exact h)
  replace HAK := Lib.hid (by have h := HAK.out; rw [HE.out, if_pos rfl] at h; exact h)
  have hl15 : L.length + 1 ≤ 16 := by omega
  refine wp_region_noPanic ?_
  refine wp_region_held_drew (S := (fun w' => w'.cell? ⟨p, 0, none⟩ = some (.int .i64 places) ∧ w'.cell? ⟨p, 2, none⟩ = some (.slice ao L.length cap))) (by kernel_rfl) (HS5.out _ (Only.refl _ _).drew) (fun hHeld => ?_)
  obtain ⟨w4, hw4⟩ : ∃ x, x = w3.drew := ⟨_, rfl⟩
  rw [← hw4] at hHeld ⊢
  have h34 : Only (fun _ => False) w3 w4 := by rw [hw4]; exact (Only.refl _ _).drew
  clear hw4
  refine wpAnyH_take (i := 0) (v := ?_) rfl (by kernel_rfl) (by kernel_rfl) (by kernel_rfl) (fun _ _ _ h => h) (Or.inl ⟨by rfl, ?_⟩) (by assumption) ?_
  rotate_left 1
  · intro w' hSw
    try dsimp only at hSw
    go_simp
    try with_reducible rfl
  try simp only [List.getElem_toArray, List.getElem_cons_zero, Act.put, List.setIfInBounds_toArray, List.set_cons_zero, List.set_cons_succ]
  refine wpAnyH_take (i := 1) (v := ?_) rfl (by kernel_rfl) (by kernel_rfl) (by kernel_rfl) (fun _ _ _ h => h) (Or.inl ⟨by rfl, ?_⟩) (by assumption) ?_
  rotate_left 1
  · intro w' hSw
    try dsimp only at hSw
    go_simp
    try with_reducible rfl
  try simp only [List.getElem_toArray, List.getElem_cons_zero, List.getElem_cons_succ, Act.put, List.setIfInBounds_toArray, List.set_cons_zero, List.set_cons_succ]
  refine wpAnyH_take (i := 2) (v := ?_) rfl (by kernel_rfl) (by kernel_rfl) (by kernel_rfl) (fun _ _ _ h => h) (Or.inl ⟨by rfl, ?_⟩) (by assumption) ?_
  rotate_left 1
  · intro w' hSw
    try dsimp only at hSw
    go_simp
    try with_reducible rfl
  try simp only [List.getElem_toArray, List.getElem_cons_zero, List.getElem_cons_succ, Act.put, List.setIfInBounds_toArray, List.set_cons_zero, List.set_cons_succ]
  refine wpAnyH_take (i := 3) (v := ?_) rfl (by kernel_rfl) (by kernel_rfl) (by kernel_rfl) (fun _ _ _ h => h) (Or.inl ⟨by rfl, ?_⟩) (by assumption) ?_
  rotate_left 1
  · intro w' hSw
    try dsimp only at hSw
    go_simp
    try with_reducible rfl
  try simp only [List.getElem_toArray, List.getElem_cons_zero, List.getElem_cons_succ, Act.put, List.setIfInBounds_toArray, List.set_cons_zero, List.set_cons_succ]
  refine wpAnyH_take (i := 4) (v := ?_) rfl (by kernel_rfl) (by kernel_rfl) (by kernel_rfl) (fun _ _ _ h => h) (Or.inl ⟨by rfl, ?_⟩) (by assumption) ?_
  rotate_left 1
  · intro w' hSw
    try dsimp only at hSw
    go_simp
    try with_reducible rfl
  try simp only [List.getElem_toArray, List.getElem_cons_zero, List.getElem_cons_succ, Act.put, List.setIfInBounds_toArray, List.set_cons_zero, List.set_cons_succ]
  refine wpAnyH_take (i := 5) (v := ?_) rfl (by kernel_rfl) (by kernel_rfl) (by kernel_rfl) (fun _ _ _ h => h) (Or.inl ⟨by rfl, ?_⟩) (by assumption) ?_
  rotate_left 1
  · intro w' hSw
    try dsimp only at hSw
    go_simp
    try with_reducible rfl
  try simp only [List.getElem_toArray, List.getElem_cons_zero, List.getElem_cons_succ, Act.put, List.setIfInBounds_toArray, List.set_cons_zero, List.set_cons_succ]
  refine wpAnyH_take (i := 6) (v := ?_) rfl (by kernel_rfl) (by kernel_rfl) (by kernel_rfl) (fun _ _ _ h => h) (Or.inl ⟨by rfl, ?_⟩) (by assumption) ?_
  rotate_left 1
  · intro w' hSw
    try dsimp only at hSw
    go_simp
    try with_reducible rfl
  try simp only [List.getElem_toArray, List.getElem_cons_zero, List.getElem_cons_succ, Act.put, List.setIfInBounds_toArray, List.set_cons_zero, List.set_cons_succ]
  refine wpAnyH_take (i := 7) (v := ?_) rfl (by kernel_rfl) (by kernel_rfl) (by kernel_rfl) (fun _ _ _ h => h) (Or.inl ⟨by rfl, ?_⟩) (by assumption) ?_
  rotate_left 1
  · intro w' hSw
    try dsimp only at hSw
    go_simp
    try with_reducible rfl
  try simp only [List.getElem_toArray, List.getElem_cons_zero, List.getElem_cons_succ, Act.put, List.setIfInBounds_toArray, List.set_cons_zero, List.set_cons_succ]
  refine wpAnyH_take (i := 8) (v := ?_) rfl (by kernel_rfl) (by kernel_rfl) (by kernel_rfl) (fun _ _ _ h => h) (Or.inl ⟨by rfl, ?_⟩) (by assumption) ?_
  rotate_left 1
  · intro w' hSw
    try dsimp only at hSw
    go_simp
    try with_reducible rfl
  try simp only [List.getElem_toArray, List.getElem_cons_zero, List.getElem_cons_succ, Act.put, List.setIfInBounds_toArray, List.set_cons_zero, List.set_cons_succ]
  refine wpAnyH_take (i := 9) (v := ?_) rfl (by kernel_rfl) (by kernel_rfl) (by kernel_rfl) (fun _ _ _ h => h) (Or.inl ⟨by rfl, ?_⟩) (by assumption) ?_
  rotate_left 1
  · intro w' hSw
    try dsimp only at hSw
    go_simp
    try with_reducible rfl
  try simp only [List.getElem_toArray, List.getElem_cons_zero, List.getElem_cons_succ, Act.put, List.setIfInBounds_toArray, List.set_cons_zero, List.set_cons_succ]
  refine wpAnyH_done (by kernel_rfl) ?_ _
  refine NoPanic.normal ?_
  have HO4 := Lib.hid (HO3.out.trans h34)
  have HS7 : Hid (∀ w', Only (fun _ => False) w4 w' → w'.cell? ⟨g, 0, none⟩ = some (.int .i64 i) ∧ w'.cell? ⟨g, 1, none⟩ = some (.int .i64 nd) ∧ w'.cell? ⟨g, 2, none⟩ = some (.int .i64 num) ∧ w'.cell? ⟨g, 3, none⟩ = some (.int .i64 dl) ∧ w'.cell? ⟨g, 4, none⟩ = some (.slice a n c) ∧ w'.cell? ⟨p, 2, none⟩ = some (.slice ao L.length cap)) := Lib.hid (fun w' ho2 => by
    obtain ⟨q0, q1, q2, q3, q4⟩ := HX2.out w' (h34.trans ho2)
    exact ⟨q0, q1, q2, q3, q4, (HCT.out.quiet (HO4.out.trans ho2)).c2⟩)
  have HCL : Hid (∀ w', Only (fun _ => False) w4 w' → _) := Lib.hid (fun w' (ho2 : Only (fun _ => False) w4 w') => sclone_any i nd num dl a n c gs w' (HRD.out.quiet (HO4.out.trans ho2)) hn1 hz)
  clear hHeld h34 HS5 HX2
  go_upto_region 7 with fail
  refine wp_region_noPanic ?_
  refine late.region (fun w' => w'.cell? ⟨g, 0, none⟩ = some (.int .i64 i) ∧ w'.cell? ⟨g, 1, none⟩ = some (.int .i64 nd) ∧ w'.cell? ⟨g, 2, none⟩ = some (.int .i64 num) ∧ w'.cell? ⟨g, 3, none⟩ = some (.int .i64 dl) ∧ w'.cell? ⟨g, 4, none⟩ = some (.slice a n c) ∧ w'.cell? ⟨p, 2, none⟩ = some (.slice ao L.length cap)) (fun j => [11].contains j) (by kernel_rfl) (HS7.out _ (Only.refl _ _).drew) (fun hHeld => ?_)
  obtain ⟨y0, hy0⟩ : ∃ x, x = w4.drew := ⟨_, rfl⟩
  rw [← hy0] at hHeld ⊢
  have hot : Hid (Only (fun _ => False) w4 y0) := Lib.hid (by rw [hy0]; exact (Only.refl _ _).drew)
  clear hy0
  refine late.take (i := 0) [9, 10, 11] (v := ?_) rfl (by kernel_rfl) (by kernel_rfl) (by kernel_rfl) (by kernel_rfl) (fun _ _ _ h => h) (Or.inl ⟨by rfl, ?_⟩) (by assumption) ?_
  rotate_left 1
  · intro w' hSw
    try dsimp only at hSw
    go_simp
    try with_reducible rfl
  try simp only [List.getElem_toArray, List.getElem_cons_zero, Act.put, List.setIfInBounds_toArray, List.set_cons_zero, List.set_cons_succ]
  refine late.take (i := 1) [2, 3, 4, 8, 9, 10, 11] (v := ?_) rfl (by kernel_rfl) (by kernel_rfl) (by kernel_rfl) (by kernel_rfl) (fun _ _ _ h => h) (Or.inl ⟨by rfl, ?_⟩) (by assumption) ?_
  rotate_left 1
  · intro w' hSw
    try dsimp only at hSw
    go_simp
    try with_reducible rfl
  try simp only [List.getElem_toArray, List.getElem_cons_zero, List.getElem_cons_succ, Act.put, List.setIfInBounds_toArray, List.set_cons_zero, List.set_cons_succ]
  refine late.take (i := 2) [3, 4, 8, 9, 10, 11] (v := ?_) rfl (by kernel_rfl) (by kernel_rfl) (by kernel_rfl) (by kernel_rfl) (fun _ _ _ h => h) (Or.inl ⟨by rfl, ?_⟩) (by assumption) ?_
  rotate_left 1
  · intro w' hSw
    try dsimp only at hSw
    go_simp
    try with_reducible rfl
  try simp only [List.getElem_toArray, List.getElem_cons_zero, List.getElem_cons_succ, Act.put, List.setIfInBounds_toArray, List.set_cons_zero, List.set_cons_succ]
  refine late.take (i := 3) [4, 8, 9, 10, 11] (v := ?_) rfl (by kernel_rfl) (by kernel_rfl) (by kernel_rfl) (by kernel_rfl) (fun _ _ _ h => h) (Or.inl ⟨by rfl, ?_⟩) (by assumption) ?_
  rotate_left 1
  · intro w' hSw
    try dsimp only at hSw
    go_simp
    try with_reducible rfl
  try simp only [List.getElem_toArray, List.getElem_cons_zero, List.getElem_cons_succ, Act.put, List.setIfInBounds_toArray, List.set_cons_zero, List.set_cons_succ]
  refine late.take (i := 4) [8, 9, 10, 11] (v := ?_) rfl (by kernel_rfl) (by kernel_rfl) (by kernel_rfl) (by kernel_rfl) (fun _ _ _ h => h) (Or.inl ⟨by rfl, ?_⟩) (by assumption) ?_
  rotate_left 1
  · intro w' hSw
    try dsimp only at hSw
    go_simp
    try with_reducible rfl
  try simp only [List.getElem_toArray, List.getElem_cons_zero, List.getElem_cons_succ, Act.put, List.setIfInBounds_toArray, List.set_cons_zero, List.set_cons_succ]
  refine late.take (i := 5) [6, 7, 8, 9, 10, 11] (v := ?_) rfl (by kernel_rfl) (by kernel_rfl) (by kernel_rfl) (by kernel_rfl) (fun _ _ _ h => h) (Or.inl ⟨by rfl, ?_⟩) (by assumption) ?_
  rotate_left 1
  · intro w' hSw
    try dsimp only at hSw
    go_simp
    try with_reducible rfl
  try simp only [List.getElem_toArray, List.getElem_cons_zero, List.getElem_cons_succ, Act.put, List.setIfInBounds_toArray, List.set_cons_zero, List.set_cons_succ]
  refine late.ready (rs := [6]) (by kernel_rfl) (by simp) ?_
  refine late.Each.cons rfl (fun K hK => ?_) late.Each.nil
  try simp only [List.getElem_toArray, List.getElem_cons_zero, List.getElem_cons_succ]
  go_simp
  go_at_call 25
  with_reducible refine (HCL.out _ hot.out).mono ?_
  rintro _ W1 ⟨xa, xc, rfl, hgc⟩
  have HGC := Lib.hid hgc
  replace HGC : Hid ((ReadsG W1 xa n gs ∧ Cp xa n xc ∧ (∀ y, xa = some y → w.heap.size ≤ y.block ∧ y.block < W1.heap.size) ∧ (n = 0 → xa = none ∧ xc = 0))) := Lib.hid ⟨HGC.out.1, HGC.out.2.1, fun y e => ⟨Nat.le_trans (HO4.out.trans hot.out).size (HGC.out.2.2.1 y e).1, (HGC.out.2.2.1 y e).2⟩, HGC.out.2.2.2.1⟩
  replace hot := Lib.hid (hot.out.trans hgc.2.2.2.2)
  clear hgc
  try dsimp only
  refine hK.out _ _ (fun _ => HS7.out _ hot.out) (fun hHeld1 => ?_)
  replace hHeld1 := hHeld1 rfl
  clear hK K
  try simp only [List.getElem_toArray, List.getElem_cons_zero, List.getElem_cons_succ, Act.put, List.setIfInBounds_toArray, List.set_cons_zero, List.set_cons_succ]
  refine late.ready (rs := [7]) (by kernel_rfl) (by simp) ?_
  refine late.Each.cons rfl (fun K hK => ?_) late.Each.nil
  try simp only [List.getElem_toArray, List.getElem_cons_zero, List.getElem_cons_succ]
  go_simp
  obtain ⟨w9, hw9⟩ : ∃ x, x = W1 := ⟨_, rfl⟩
  rw [← hw9] at hot HGC ⊢
  clear hw9
  obtain ⟨W2, hW2⟩ : ∃ x, x = w9.alloc (.cells #[.int .i64 i, .int .i64 nd, .int .i64 num, .int .i64 dl, .slice xa n xc] 25) := ⟨_, rfl⟩
  obtain ⟨g2, hg2⟩ : ∃ x, x = w9.heap.size := ⟨_, rfl⟩
  rw [← hW2, ← hg2]
  have hsb := sbox hW2 hg2
  have HNW : Hid (∀ j u, (encS ⟨i, nd, num, dl, xa, n, xc, gs⟩)[j]? = some u → W2.cell? ⟨g2, j, none⟩ = some u) := Lib.hid (fun j u hu => by
    rw [hW2]
    exact news_one (ES 0) (x := ⟨i, nd, num, dl, xa, n, xc, gs⟩) hg2 rfl j u hu)
  have H9 := Lib.hid (HO4.out.trans hot.out)
  have HAL9 := Lib.hid hsb.2.2.2.2.2
  replace hot := Lib.hid (hot.out.trans hsb.2.2.2.2.2)
  clear hW2 hg2 hsb
  refine hK.out _ _ (fun _ => HS7.out _ hot.out) (fun hHeld2 => ?_)
  replace hHeld2 := hHeld2 rfl
  clear hK K
  try simp only [List.getElem_toArray, List.getElem_cons_zero, List.getElem_cons_succ, Act.put, List.setIfInBounds_toArray, List.set_cons_zero, List.set_cons_succ]
  refine late.ready (rs := [8]) (by kernel_rfl) (by simp) ?_
  refine late.Each.cons rfl (fun K hK => ?_) late.Each.nil
  refine step_sess (a := { tmps := _, defers := _ }) rfl _ _ rfl _ L rfl (HOW.out.only (HO4.out.trans hot.out) (fun _ _ f => f)) g2 1 (⟨i, nd, num, dl, xa, n, xc, gs⟩ : Sd) rfl HNW.out (by omega) ?_
  rintro v3 W3 hown hgrow hkk
  obtain ⟨gq, bc, hvf, -, -, hbc, -⟩ := owns_form hown (by simp)
  have hl1 : (L ++ [(⟨i, nd, num, dl, xa, n, xc, gs⟩ : Sd)]).length = L.length + 1 := by simp
  rw [hl1] at hvf hbc
  subst hvf
  have hgo := Only.of_grown hgrow
  have hall := HO4.out.trans hot.out
  have d2 := hgo.cell' (HS7.out _ hot.out).2.2.2.2.2 (fun e => HNP.out e)
  have f2 : W3.frozen? ⟨p, 2, none⟩ = false := (hgo.frozen (p := ⟨p, 2, none⟩) (by have := hall.size; have := HCT.out.lt; show p < _; omega) (fun e => HNP.out e)).trans ((hall.frozen (p := ⟨p, 2, none⟩) HCT.out.lt (fun f => f)).trans HCT.out.f2)
  have f1 : W3.frozen? ⟨p, 1, none⟩ = false := (hgo.frozen (p := ⟨p, 1, none⟩) (by have := hall.size; have := HCT.out.lt; show p < _; omega) (fun e => HNP.out e)).trans ((hall.frozen (p := ⟨p, 1, none⟩) HCT.out.lt (fun f => f)).trans HCT.out.f1)
  have d1 := hgo.cell' ((HCT.out.quiet hall).c1) (fun e => HNP.out e)
  have d0 := hgo.cell' ((HCT.out.quiet hall).c0) (fun e => HNP.out e)
  have x0 := hgo.cell' (HS7.out _ hot.out).1 (fun e => HNG.out e)
  have HOW12 := Lib.hid hown
  have HKK : Hid (∀ k, (.slice (some ⟨gq, 0, none⟩) (L.length + 1) bc : Value).ownBlock = some k → (.slice ao L.length cap : Value).ownBlock = some k ∨ w9.heap.size ≤ k) := Lib.hid (fun k e => (hkk k e).imp (fun x => x) (fun e2 => Nat.le_trans HAL9.out.size e2))
  have HG9 : Hid (Only (fun x => x = p ∨ (.slice ao L.length cap : Value).ownBlock = some x) w9 W3) := Lib.hid ((HAL9.out.mono (fun _ _ f => f.elim)).trans (hgo.mono (fun k _ e => .inr e)))
  have HX12 := Lib.hid (And.intro x0 (And.intro (hgo.cell' (HS7.out _ hot.out).2.1 (fun e => HNG.out e)) (And.intro (hgo.cell' (HS7.out _ hot.out).2.2.1 (fun e => HNG.out e)) (And.intro (hgo.cell' (HS7.out _ hot.out).2.2.2.1 (fun e => HNG.out e)) (And.intro (hgo.cell' (HS7.out _ hot.out).2.2.2.2.1 (fun e => HNG.out e)) d2)))))
  clear hown hgrow hkk hgo HNW hall
  refine hK.out _ _ (fun _ => HX12.out) (fun hHeld3 => ?_)
  replace hHeld3 := hHeld3 rfl
  clear hK K
  try simp only [List.getElem_toArray, List.getElem_cons_zero, List.getElem_cons_succ, Act.put, List.setIfInBounds_toArray, List.set_cons_zero, List.set_cons_succ]
  refine late.take (i := 9) [10, 11] (v := ?_) rfl (by kernel_rfl) (by kernel_rfl) (by kernel_rfl) (by kernel_rfl) (fun _ _ _ h => h) (Or.inl ⟨by rfl, ?_⟩) (by assumption) ?_
  rotate_left 1
  · intro w' hSw
    try dsimp only at hSw
    go_simp
    try with_reducible rfl
  try simp only [List.getElem_toArray, List.getElem_cons_zero, List.getElem_cons_succ, Act.put, List.setIfInBounds_toArray, List.set_cons_zero, List.set_cons_succ]
  refine late.take (i := 10) [11] (v := ?_) rfl (by kernel_rfl) (by kernel_rfl) (by kernel_rfl) (by kernel_rfl) (fun _ _ _ h => h) (Or.inl ⟨by rfl, ?_⟩) (by assumption) ?_
  rotate_left 1
  · intro w' hSw
    try dsimp only at hSw
    go_simp
    try with_reducible rfl
  try simp only [List.getElem_toArray, List.getElem_cons_zero, List.getElem_cons_succ, Act.put, List.setIfInBounds_toArray, List.set_cons_zero, List.set_cons_succ]
  refine late.ready (rs := [11]) (by kernel_rfl) (by simp) ?_
  refine late.Each.cons rfl (fun K hK => ?_) late.Each.nil
  try simp only [List.getElem_toArray, List.getElem_cons_zero, List.getElem_cons_succ]
  go_simp
  refine hK.out _ _ (fun h => by cases h) (fun _ => ?_)
  clear hK K
  try simp only [List.getElem_toArray, List.getElem_cons_zero, List.getElem_cons_succ, Act.put, List.setIfInBounds_toArray, List.set_cons_zero, List.set_cons_succ]
  refine late.done (by kernel_rfl) ?_ _
  refine NoPanic.normal ?_
  obtain ⟨w5, hw5⟩ : ∃ x, x = W3.setCell ⟨p, 2, none⟩ (.slice (some ⟨gq, 0, none⟩) (L.length + 1) bc : Value) := ⟨_, rfl⟩
  rw [← hw5]
  have e2 : w5.cell? ⟨p, 2, none⟩ = some (.slice (some ⟨gq, 0, none⟩) (L.length + 1) bc : Value) := by rw [hw5]; exact cell_same d2
  have ef : w5.frozen? ⟨p, 2, none⟩ = false := by rw [hw5]; exact frozen_set.trans f2
  have ef1 : w5.frozen? ⟨p, 1, none⟩ = false := by rw [hw5]; exact frozen_set.trans f1
  have e0 : w5.cell? ⟨p, 0, none⟩ = some (.int .i64 places) := by rw [hw5, cell_other (fun e => by injection e with _ e _; omega)]; exact d0
  have e1 : w5.cell? ⟨p, 1, none⟩ = some (.int .i64 last) := by rw [hw5, cell_other (fun e => by injection e with _ e _; omega)]; exact d1
  have ex : w5.cell? ⟨g, 0, none⟩ = some (.int .i64 i) := by rw [hw5, cell_other (fun e => by injection e with e _ _; exact hgp e.symm)]; exact x0
  have HNP9 : Hid ((.slice (some ⟨gq, 0, none⟩) (L.length + 1) bc : Value).ownBlock ≠ some p) := Lib.hid (fun e => (HKK.out p e).elim (fun e => HNP.out e) (fun e => by have := HCT.out.lt; have := H9.out.size; omega))
  have HOW5 : Hid (OwnR (ES 25) w5 (.slice (some ⟨gq, 0, none⟩) (L.length + 1) bc : Value) (L ++ [(⟨i, nd, num, dl, xa, n, xc, gs⟩ : Sd)])) := Lib.hid (by rw [hw5]; exact HOW12.out.only (Only.set (fun x => x = p) _ p 2 _ rfl) (fun k e e2 => HNP9.out (by rw [e, e2])))
  have HG5 : Hid (Only (fun x => x = p ∨ (.slice ao L.length cap : Value).ownBlock = some x) w9 w5) := Lib.hid (HG9.out.trans (by rw [hw5]; exact Only.set _ _ p 2 _ (.inl rfl)))
  clear hw5 hHeld d2 d1 d0 f2 f1 x0 HOW12 HG9 hot HX12
  obtain ⟨w6, hw6⟩ : ∃ x, x = w5.setCell ⟨p, 1, none⟩ (.int .i64 i) := ⟨_, rfl⟩
  have ho6 : Only (fun x => x = p ∨ (.slice ao L.length cap : Value).ownBlock = some x) w9 w6 := HG5.out.trans (by rw [hw6]; exact Only.set _ _ p 1 _ (.inl rfl))
  have HKD := Lib.hid (grin_more (d := (⟨i, nd, num, dl, xa, n, xc, gs⟩ : Sd)) HCT.out H9.out ho6 HKK.out ⟨HGC.out.1, HGC.out.2.1⟩ (fun y e _ => HGC.out.2.2.1 y e))
  have HEND : Hid (PT (fun q => S q ∨ w.heap.size ≤ q) w6 p places i (.slice (some ⟨gq, 0, none⟩) (L.length + 1) bc : Value) (L ++ [(⟨i, nd, num, dl, xa, n, xc, gs⟩ : Sd)])) := Lib.hid ⟨(by rw [hw6, cell_other (fun e => by injection e with _ e _; omega)]; exact e0), (by rw [hw6]; exact cell_same e1), (by rw [hw6, cell_other (fun e => by injection e with _ e _; omega)]; exact e2), (by rw [hw6]; exact frozen_set.trans ef1), (by rw [hw6]; exact frozen_set.trans ef), (by rw [hw6]; exact HOW5.out.only (Only.set (fun x => x = p) _ p 1 _ rfl) (fun k e e2 => HNP9.out (by rw [e, e2]))), HNP9.out, (by rw [List.length_append, List.length_singleton]; omega), .inl HCT.out.sp, (fun q e => (HKK.out q e).elim (fun e => .inl (HCT.out.sv q e)) (fun e => .inr (Nat.le_trans H9.out.size e))), (fun x hx => HKD.out x ((List.mem_append.1 hx).imp (fun y => y) (fun y => List.mem_singleton.1 y))), (fun _ x hx => (List.mem_append.1 hx).elim (fun y => HCT.out.nz rfl x y) (fun y => by rw [List.mem_singleton.1 y]; exact HGC.out.2.2.2))⟩
  have HOS : Hid (Only S w w6) := Lib.hid (((H9.out.mono (fun _ _ f => f.elim)).trans ho6).mono (fun k hk e => e.elim (fun e => by rw [e]; exact HCT.out.sp) (fun e => HCT.out.sv k e)))
  clear ho6
  go_wp2_with fail
  rw [← hw6]
  go_ret
  exact ⟨by rw [HE.out]; rfl, ⟨_, L ++ [⟨i, nd, num, dl, xa, n, xc, gs⟩], by rw [HADL.out, List.map_append]; rfl, by rw [HAK.out]; exact HEND.out⟩, HOS.out⟩
end Go.Proofs.Ythflglejhhebeaa.cs
