/- Sessions with grants, the document's: DocAdd, DocSet. -/
import Derived.Test.YthflglejhhebeaaCsH
namespace Go.Proofs.Ythflglejhhebeaa.cs
open Go.RowKit mem rwg
set_option linter.unusedVariables false

theorem info_rse : (Try.prog.info? 50).map (fun i => (i.zero, i.size, i.bytes)) = some (some (.agg #[.int .i64 0, .int .i64 0, .int .i64 0, .int .i64 0, .slice none 0 0]), 5, 56) := by kernel_rfl
theorem step_rsess {ops : Array Oper} {o : Oper} {a : Act} {w : World} {K : Act → World → Prop} {Q : Exit → Act → World → Prop} {E : Prop}
    (hg : o.guard = none) (s x : Operand) (ho : o.op = Op.call { callee := Callee.builtin Builtin.append, args := #[s, x], argTypes := #[45, 45] })
    (v : Value) (xs : List Sd) (hs : a.eval s = v) (hown : OwnR (ES 50) w v xs) (ad : Addr) (m c : Nat) (ds : List Sd) (hx : a.eval x = .slice (some ad) m c) (hm : ds.length = m) (hn : ∀ j u, (gv (ES 0) ds)[j]? = some u → w.cell? (ad.add j) = some u) (hb : xs.length ≤ 1000) (hb2 : m ≤ 1000)
    (hK : ∀ v' w', OwnR (ES 50) w' v' (xs ++ ds) → w.grownBy w' v.ownBlock → (∀ k, v'.ownBlock = some k → v.ownBlock = some k ∨ w.heap.size ≤ k) → K (a.put o.dst v') w') :
    if Region.wanted o (yielded ops a.tmps) = true then Oper.wp Try.prog o a w K Q else E := by
  obtain ⟨i0, hi, hz0, hz1, hz2⟩ := info_partsS info_rse
  refine step_mine hg s x 45 ho 50 i0 _ 5 56 Try.underlying45 hi hz0 hz1 hz2 rfl (by decide) v xs.length (gv (ES 50) xs) hs hown ad m c (gv (ES 0) ds) hx (by rw [gv_length, hm]; rfl) hn (gv_one _ ds) (by unfold maxLen; omega) (by omega) ?_
  intro v' w' h1 h2 h3
  exact hK v' w' (OwnR.app_list (E := ES 50) h1 rfl hm) h2 h3
/-- what was there stays, with one more, or one of them another one -/
theorem grin_gen {N : Bool} {t : TypeId} {S S' : Nat → Prop} {w w9 w' : World} {p : Nat} {pl last : Int} {v v' : Value} {L : List Sd} {d : Sd} (h : CtAt N t S w p pl last v L) (h09 : Only (fun _ => False) w w9) (h9 : Only (fun q => q = p ∨ v.ownBlock = some q) w9 w')
    (hv : ∀ k, v'.ownBlock = some k → v.ownBlock = some k ∨ w9.heap.size ≤ k) (hS : ∀ q, S q → S' q)
    (hd1 : ReadsG w9 d.a d.n d.gs ∧ Cp d.a d.n d.c) (hb1 : ∀ y, d.a = some y → 0 < d.n → y.block < w9.heap.size ∧ S' y.block ∧ y.block ≠ p ∧ v.ownBlock ≠ some y.block) :
    ∀ x, x ∈ L ∨ x = d → GrIn S' w' p v' x := by
  have hown := own_neS h
  have hsz := h09.size
  have hall : Only (fun q => q = p ∨ v.ownBlock = some q) w w' := (h09.mono (fun _ _ f => f.elim)).trans h9
  rintro x (hx | rfl)
  · exact (h.kd x hx).move hall (fun y e hn q => by
      obtain ⟨_, _, n1, n2⟩ := (h.kd x hx).2.2 y e hn
      exact q.elim (fun q => n1 q) (fun q => n2 q)) (fun y e hn q => by
      obtain ⟨m1, _, _, n2⟩ := (h.kd x hx).2.2 y e hn
      rcases hv _ q with q | q
      · exact n2 q
      · omega) hS
  · exact ⟨hd1.1.only' h9 (fun y e hn q => by
      obtain ⟨m1, m2, m3, m4⟩ := hb1 y e hn
      exact q.elim (fun q => m3 q) (fun q => m4 q)), hd1.2, fun y e hn => by
      obtain ⟨m1, m2, m3, m4⟩ := hb1 y e hn
      refine ⟨by have := h9.size; omega, m2, m3, fun q => ?_⟩
      rcases hv _ q with q | q
      · exact m4 q
      · omega⟩
/-- what the document's table has behind a call that hands it a session -/
def DSet (S : Nat → Prop) (a : Option Addr) (w : World) (q : Nat) : Prop := S q ∨ (∃ y, a = some y ∧ y.block = q) ∨ w.heap.size ≤ q
def DRes (S S' : Nat → Prop) (p : Nat) (pl last : Int) (K : List Sx) (w w' : World) : Prop := (∃ v' L', L'.map Sd.sx = K ∧ DT S' w' p pl last v' L') ∧ Only S w w'
theorem DRes.same {S S' : Nat → Prop} {p : Nat} {pl last : Int} {v : Value} {L : List Sd} {w w' : World} (h : DT S w p pl last v L) (hS : ∀ q, S q → S' q) (ho : Only (fun _ => False) w w') : DRes S S' p pl last (L.map Sd.sx) w w' :=
  ⟨⟨v, L, rfl, (h.quiet ho).mono (fun q _ s => hS q s)⟩, ho.mono (fun _ _ f => f.elim)⟩
set_option maxRecDepth 100000 in
set_option maxHeartbeats 8000000 in
theorem radd_any {S : Nat → Prop} (p : Nat) (places last : Int) (v : Value) (L : List Sd) (i nd num dl : Int) (a : Option Addr) (n c : Nat) (gs : List Gr) (w : World) (h : DT S w p places last v L) (hr : ReadsG w a n gs) (hcp : Cp a n c) (hfr : ∀ y, a = some y → 0 < n → ¬ S y.block ∧ y.block < w.heap.size) (hlen : (L.length : Int) ≤ places ∧ places ≤ 16) : Calls Try.prog 34 #[.pointer (some ⟨p, 0, none⟩), .agg #[.int .i64 i, .int .i64 nd, .int .i64 num, .int .i64 dl, .slice a n c]] w fun e w' => e = .returned (.int .i64 (addE places last (L.map Sd.sx) ⟨i, nd, num, dl, gs⟩)) ∧ DRes S (DSet S a w) p places (addK places last (L.map Sd.sx) ⟨i, nd, num, dl, gs⟩) (addL places last (L.map Sd.sx) ⟨i, nd, num, dl, gs⟩) w w' := by
  obtain ⟨AE, hAE⟩ : ∃ x, x = addE places last (L.map Sd.sx) ⟨i, nd, num, dl, gs⟩ := ⟨_, rfl⟩
  obtain ⟨AK, hAK⟩ : ∃ x, x = addK places last (L.map Sd.sx) ⟨i, nd, num, dl, gs⟩ := ⟨_, rfl⟩
  obtain ⟨AL, hAL⟩ : ∃ x, x = addL places last (L.map Sd.sx) ⟨i, nd, num, dl, gs⟩ := ⟨_, rfl⟩
  rw [← hAL, ← hAK, ← hAE]
  unfold addL at hAL
  unfold addK at hAK
  rw [← hAE] at hAL hAK
  have HADL := Lib.hid hAL
  have HADK := Lib.hid hAK
  unfold addE at hAE
  rw [List.length_map] at hAE
  dsimp only at hAE
  have HAE := Lib.hid hAE
  clear hAE hAL hAK
  have HNO : Hid (∀ w' E, E ≠ 0 → AE = E → Only (fun _ => False) w w' → Ending.returned (.int .i64 E) = .returned (.int .i64 AE) ∧ DRes S (DSet S a w) p places AK AL w w') := Lib.hid (fun w' E hE e ho => by rw [HADL.out, HADK.out, e, if_neg hE, if_neg hE]; exact ⟨rfl, DRes.same h (fun q s => .inl s) ho⟩)
  obtain ⟨ao, cap, hv, hcc, -⟩ := h.own.reads
  subst hv
  have HOW := Lib.hid h.own
  have HNP : Hid ((.slice ao L.length cap : Value).ownBlock ≠ some p) := Lib.hid h.np
  have HNG : Hid ((.slice ao L.length cap : Value).ownBlock ≠ some w.heap.size) := Lib.hid (fun e => by have := h.own.lt e; omega)
  obtain ⟨w1, hw⟩ : ∃ x, x = w.alloc (.cells #[.int .i64 i, .int .i64 nd, .int .i64 num, .int .i64 dl, .slice a n c] 50) := ⟨_, rfl⟩
  obtain ⟨g, hg⟩ : ∃ x, x = w.heap.size := ⟨_, rfl⟩
  have HBX := Lib.hid (sbox hw hg)
  have HCT := Lib.hid h
  have hgp : g ≠ p := by have := h.lt; omega
  have HIS := Lib.hid (rright_any i nd num dl a n c gs w1 (hr.quiet HBX.out.2.2.2.2.2) hcp)
  have HRD := Lib.hid hr
  have HFR : Hid (∀ y, a = some y → 0 < n → ¬ S y.block ∧ y.block < w.heap.size) := Lib.hid hfr
  clear h hr hfr
  obtain ⟨b0, b1, b2, b3, b4, -⟩ := HBX.out
  generalize rightB ⟨i, nd, num, dl, gs⟩ = RB at *
  go_enter Try.func34, Try.ntmps34
  go_upto_region 1 with fail
  simp only [← hw, ← hg]
  rw [← hg] at HNG
  clear hw hg
  go_wp2_with fail
  refine HIS.out.mono ?_
  rintro _ w2 ⟨rfl, ho⟩
  have HO2 := Lib.hid (HBX.out.2.2.2.2.2.trans ho)
  have HX2 : Hid (∀ w', Only (fun _ => False) w2 w' → w'.cell? ⟨g, 0, none⟩ = some (.int .i64 i) ∧ w'.cell? ⟨g, 1, none⟩ = some (.int .i64 nd) ∧ w'.cell? ⟨g, 2, none⟩ = some (.int .i64 num) ∧ w'.cell? ⟨g, 3, none⟩ = some (.int .i64 dl) ∧ w'.cell? ⟨g, 4, none⟩ = some (.slice a n c)) := Lib.hid (fun w' ho2 => ⟨(ho.trans ho2).cell' HBX.out.1 (fun f => f), (ho.trans ho2).cell' HBX.out.2.1 (fun f => f), (ho.trans ho2).cell' HBX.out.2.2.1 (fun f => f), (ho.trans ho2).cell' HBX.out.2.2.2.1 (fun f => f), (ho.trans ho2).cell' HBX.out.2.2.2.2.1 (fun f => f)⟩)
  have HS3 : Hid (∀ w', Only (fun _ => False) w2 w' → w'.cell? ⟨g, 0, none⟩ = some (.int .i64 i) ∧ w'.cell? ⟨p, 1, none⟩ = some (.int .i64 last)) := Lib.hid (fun w' ho2 => ⟨(HX2.out w' ho2).1, (HCT.out.quiet (HO2.out.trans ho2)).c1⟩)
  clear ho b0 b1 b2 b3 b4 HIS
  cases RB
  · have HE : Hid (AE = 1) := Lib.hid (by rw [HAE.out, if_neg (by decide)])
    clear HAE HS3
    go_wp2_with fail
    go_ret
    exact HNO.out _ 1 (by decide) HE.out HO2.out
  replace HAE := Lib.hid (by have h := HAE.out; rw [if_pos rfl] at h; exact h)
  go_upto_region 3 with fail
  by_cases h5 : i ≤ last
  · have HE : Hid (AE = 13) := Lib.hid (by rw [HAE.out, if_pos h5])
    clear HAE
    refine wp_region_noPanic ?_
    refine wp_region_held_drew (S := (fun w' => w'.cell? ⟨g, 0, none⟩ = some (.int .i64 i) ∧ w'.cell? ⟨p, 1, none⟩ = some (.int .i64 last))) (by kernel_rfl) (HS3.out _ (Only.refl _ _).drew) (fun hHeld => ?_)
    obtain ⟨w3, hw3⟩ : ∃ x, x = w2.drew := ⟨_, rfl⟩
    rw [← hw3] at hHeld ⊢
    have h23 : Only (fun _ => False) w2 w3 := by rw [hw3]; exact (Only.refl _ _).drew
    clear hw3
    refine wpAnyH_take (i := 0) (v := ?_) rfl (by kernel_rfl) (by kernel_rfl) (by kernel_rfl) (fun _ _ _ h => h) (Or.inl ⟨by rfl, ?_⟩) (by assumption) ?_
    rotate_left 1
    · intro w' hSw
      try dsimp only at hSw
      go_simp
      try with_reducible rfl
    try simp only [List.getElem_toArray, List.getElem_cons_zero, Act.put, List.setIfInBounds_toArray, List.set_cons_zero, List.set_cons_succ]
    refine wpAnyH_take (i := 1) (v := ?_) rfl (by kernel_rfl) (by kernel_rfl) (by kernel_rfl) (fun _ _ _ h => h) (Or.inl ⟨by rfl, ?_⟩) (by assumption) ?_
    rotate_left 1
    · intro w' hSw
      try dsimp only at hSw
      go_simp
      try with_reducible rfl
    try simp only [List.getElem_toArray, List.getElem_cons_zero, List.getElem_cons_succ, Act.put, List.setIfInBounds_toArray, List.set_cons_zero, List.set_cons_succ]
    refine wpAnyH_take (i := 2) (v := ?_) rfl (by kernel_rfl) (by kernel_rfl) (by kernel_rfl) (fun _ _ _ h => h) (Or.inl ⟨by rfl, ?_⟩) (by assumption) ?_
    rotate_left 1
    · intro w' hSw
      try dsimp only at hSw
      go_simp
      try with_reducible rfl
    try simp only [List.getElem_toArray, List.getElem_cons_zero, List.getElem_cons_succ, Act.put, List.setIfInBounds_toArray, List.set_cons_zero, List.set_cons_succ]
    refine wpAnyH_take (i := 3) (v := ?_) rfl (by kernel_rfl) (by kernel_rfl) (by kernel_rfl) (fun _ _ _ h => h) (Or.inl ⟨by rfl, ?_⟩) (by assumption) ?_
    rotate_left 1
    · intro w' hSw
      try dsimp only at hSw
      go_simp
      try with_reducible rfl
    try simp only [List.getElem_toArray, List.getElem_cons_zero, List.getElem_cons_succ, Act.put, List.setIfInBounds_toArray, List.set_cons_zero, List.set_cons_succ]
    refine wpAnyH_take (i := 4) (v := ?_) rfl (by kernel_rfl) (by kernel_rfl) (by kernel_rfl) (fun _ _ _ h => h) (Or.inl ⟨by rfl, ?_⟩) (by assumption) ?_
    rotate_left 1
    · intro w' hSw
      try dsimp only at hSw
      go_simp
      try with_reducible rfl
    try simp only [List.getElem_toArray, List.getElem_cons_zero, List.getElem_cons_succ, Act.put, List.setIfInBounds_toArray, List.set_cons_zero, List.set_cons_succ]
    refine wpAnyH_take (i := 5) (v := ?_) rfl (by kernel_rfl) (by kernel_rfl) (by kernel_rfl) (fun _ _ _ h => h) (Or.inl ⟨by rfl, ?_⟩) (by assumption) ?_
    rotate_left 1
    · intro w' hSw
      try dsimp only at hSw
      go_simp
      try with_reducible rfl
    try simp only [List.getElem_toArray, List.getElem_cons_zero, List.getElem_cons_succ, Act.put, List.setIfInBounds_toArray, List.set_cons_zero, List.set_cons_succ]
    refine wpAnyH_take (i := 6) (v := ?_) rfl (by kernel_rfl) (by kernel_rfl) (by kernel_rfl) (fun _ _ _ h => h) (Or.inl ⟨by rfl, ?_⟩) (by assumption) ?_
    rotate_left 1
    · intro w' hSw
      try dsimp only at hSw
      go_simp
      try with_reducible rfl
    try simp only [List.getElem_toArray, List.getElem_cons_zero, List.getElem_cons_succ, Act.put, List.setIfInBounds_toArray, List.set_cons_zero, List.set_cons_succ]
    refine wpAnyH_done (by kernel_rfl) ?_ _
    refine NoPanic.normal ?_
    have HO3 := Lib.hid (HO2.out.trans h23)
    clear hHeld h23
    go_wp2_with fail
    go_ret
    exact HNO.out _ 13 (by decide) HE.out HO3.out
  replace HAE := Lib.hid (by have h := HAE.out; rw [if_neg h5] at h; exact h)
  refine wp_region_noPanic ?_
  refine wp_region_held_drew (S := (fun w' => w'.cell? ⟨g, 0, none⟩ = some (.int .i64 i) ∧ w'.cell? ⟨p, 1, none⟩ = some (.int .i64 last))) (by kernel_rfl) (HS3.out _ (Only.refl _ _).drew) (fun hHeld => ?_)
  obtain ⟨w3, hw3⟩ : ∃ x, x = w2.drew := ⟨_, rfl⟩
  rw [← hw3] at hHeld ⊢
  have h23 : Only (fun _ => False) w2 w3 := by rw [hw3]; exact (Only.refl _ _).drew
  clear hw3
  refine wpAnyH_take (i := 0) (v := ?_) rfl (by kernel_rfl) (by kernel_rfl) (by kernel_rfl) (fun _ _ _ h => h) (Or.inl ⟨by rfl, ?_⟩) (by assumption) ?_
  rotate_left 1
  · intro w' hSw
    try dsimp only at hSw
    go_simp
    try with_reducible rfl
  try simp only [List.getElem_toArray, List.getElem_cons_zero, Act.put, List.setIfInBounds_toArray, List.set_cons_zero, List.set_cons_succ]
  refine wpAnyH_take (i := 1) (v := ?_) rfl (by kernel_rfl) (by kernel_rfl) (by kernel_rfl) (fun _ _ _ h => h) (Or.inl ⟨by rfl, ?_⟩) (by assumption) ?_
  rotate_left 1
  · intro w' hSw
    try dsimp only at hSw
    go_simp
    try with_reducible rfl
  try simp only [List.getElem_toArray, List.getElem_cons_zero, List.getElem_cons_succ, Act.put, List.setIfInBounds_toArray, List.set_cons_zero, List.set_cons_succ]
  refine wpAnyH_take (i := 2) (v := ?_) rfl (by kernel_rfl) (by kernel_rfl) (by kernel_rfl) (fun _ _ _ h => h) (Or.inl ⟨by rfl, ?_⟩) (by assumption) ?_
  rotate_left 1
  · intro w' hSw
    try dsimp only at hSw
    go_simp
    try with_reducible rfl
  try simp only [List.getElem_toArray, List.getElem_cons_zero, List.getElem_cons_succ, Act.put, List.setIfInBounds_toArray, List.set_cons_zero, List.set_cons_succ]
  refine wpAnyH_take (i := 3) (v := ?_) rfl (by kernel_rfl) (by kernel_rfl) (by kernel_rfl) (fun _ _ _ h => h) (Or.inl ⟨by rfl, ?_⟩) (by assumption) ?_
  rotate_left 1
  · intro w' hSw
    try dsimp only at hSw
    go_simp
    try with_reducible rfl
  try simp only [List.getElem_toArray, List.getElem_cons_zero, List.getElem_cons_succ, Act.put, List.setIfInBounds_toArray, List.set_cons_zero, List.set_cons_succ]
  refine wpAnyH_take (i := 4) (v := ?_) rfl (by kernel_rfl) (by kernel_rfl) (by kernel_rfl) (fun _ _ _ h => h) (Or.inl ⟨by rfl, ?_⟩) (by assumption) ?_
  rotate_left 1
  · intro w' hSw
    try dsimp only at hSw
    go_simp
    try with_reducible rfl
  try simp only [List.getElem_toArray, List.getElem_cons_zero, List.getElem_cons_succ, Act.put, List.setIfInBounds_toArray, List.set_cons_zero, List.set_cons_succ]
  refine wpAnyH_take (i := 5) (v := ?_) rfl (by kernel_rfl) (by kernel_rfl) (by kernel_rfl) (fun _ _ _ h => h) (Or.inl ⟨by rfl, ?_⟩) (by assumption) ?_
  rotate_left 1
  · intro w' hSw
    try dsimp only at hSw
    go_simp
    try with_reducible rfl
  try simp only [List.getElem_toArray, List.getElem_cons_zero, List.getElem_cons_succ, Act.put, List.setIfInBounds_toArray, List.set_cons_zero, List.set_cons_succ]
  refine wpAnyH_take (i := 6) (v := ?_) rfl (by kernel_rfl) (by kernel_rfl) (by kernel_rfl) (fun _ _ _ h => h) (Or.inl ⟨by rfl, ?_⟩) (by assumption) ?_
  rotate_left 1
  · intro w' hSw
    try dsimp only at hSw
    go_simp
    try with_reducible rfl
  try simp only [List.getElem_toArray, List.getElem_cons_zero, List.getElem_cons_succ, Act.put, List.setIfInBounds_toArray, List.set_cons_zero, List.set_cons_succ]
  refine wpAnyH_done (by kernel_rfl) ?_ _
  refine NoPanic.normal ?_
  have HO3 := Lib.hid (HO2.out.trans h23)
  have HS5 : Hid (∀ w', Only (fun _ => False) w3 w' → w'.cell? ⟨p, 0, none⟩ = some (.int .i64 places) ∧ w'.cell? ⟨p, 2, none⟩ = some (.slice ao L.length cap)) := Lib.hid (fun w' ho2 => ⟨(HCT.out.quiet (HO3.out.trans ho2)).c0, (HCT.out.quiet (HO3.out.trans ho2)).c2⟩)
  replace HX2 : Hid (∀ w', Only (fun _ => False) w3 w' → _) := Lib.hid (fun w' (ho2 : Only (fun _ => False) w3 w') => HX2.out w' (h23.trans ho2))
  clear hHeld h23 HS3
  go_upto_region 5 with fail
  by_cases h6 : places ≤ (L.length : Int)
  · have HE : Hid (AE = 10) := Lib.hid (by rw [HAE.out, if_pos h6])
    clear HAE
    refine wp_region_noPanic ?_
    refine wp_region_held_drew (S := (fun w' => w'.cell? ⟨p, 0, none⟩ = some (.int .i64 places) ∧ w'.cell? ⟨p, 2, none⟩ = some (.slice ao L.length cap))) (by kernel_rfl) (HS5.out _ (Only.refl _ _).drew) (fun hHeld => ?_)
    obtain ⟨w4, hw4⟩ : ∃ x, x = w3.drew := ⟨_, rfl⟩
    rw [← hw4] at hHeld ⊢
    have h34 : Only (fun _ => False) w3 w4 := by rw [hw4]; exact (Only.refl _ _).drew
    clear hw4
    refine wpAnyH_take (i := 0) (v := ?_) rfl (by kernel_rfl) (by kernel_rfl) (by kernel_rfl) (fun _ _ _ h => h) (Or.inl ⟨by rfl, ?_⟩) (by assumption) ?_
    rotate_left 1
    · intro w' hSw
      try dsimp only at hSw
      go_simp
      try with_reducible rfl
    try simp only [List.getElem_toArray, List.getElem_cons_zero, Act.put, List.setIfInBounds_toArray, List.set_cons_zero, List.set_cons_succ]
    refine wpAnyH_take (i := 1) (v := ?_) rfl (by kernel_rfl) (by kernel_rfl) (by kernel_rfl) (fun _ _ _ h => h) (Or.inl ⟨by rfl, ?_⟩) (by assumption) ?_
    rotate_left 1
    · intro w' hSw
      try dsimp only at hSw
      go_simp
      try with_reducible rfl
    try simp only [List.getElem_toArray, List.getElem_cons_zero, List.getElem_cons_succ, Act.put, List.setIfInBounds_toArray, List.set_cons_zero, List.set_cons_succ]
    refine wpAnyH_take (i := 2) (v := ?_) rfl (by kernel_rfl) (by kernel_rfl) (by kernel_rfl) (fun _ _ _ h => h) (Or.inl ⟨by rfl, ?_⟩) (by assumption) ?_
    rotate_left 1
    · intro w' hSw
      try dsimp only at hSw
      go_simp
      try with_reducible rfl
    try simp only [List.getElem_toArray, List.getElem_cons_zero, List.getElem_cons_succ, Act.put, List.setIfInBounds_toArray, List.set_cons_zero, List.set_cons_succ]
    refine wpAnyH_take (i := 3) (v := ?_) rfl (by kernel_rfl) (by kernel_rfl) (by kernel_rfl) (fun _ _ _ h => h) (Or.inl ⟨by rfl, ?_⟩) (by assumption) ?_
    rotate_left 1
    · intro w' hSw
      try dsimp only at hSw
      go_simp
      try with_reducible rfl
    try simp only [List.getElem_toArray, List.getElem_cons_zero, List.getElem_cons_succ, Act.put, List.setIfInBounds_toArray, List.set_cons_zero, List.set_cons_succ]
    refine wpAnyH_take (i := 4) (v := ?_) rfl (by kernel_rfl) (by kernel_rfl) (by kernel_rfl) (fun _ _ _ h => h) (Or.inl ⟨by rfl, ?_⟩) (by assumption) ?_
    rotate_left 1
    · intro w' hSw
      try dsimp only at hSw
      go_simp
      try with_reducible rfl
    try simp only [List.getElem_toArray, List.getElem_cons_zero, List.getElem_cons_succ, Act.put, List.setIfInBounds_toArray, List.set_cons_zero, List.set_cons_succ]
    refine wpAnyH_take (i := 5) (v := ?_) rfl (by kernel_rfl) (by kernel_rfl) (by kernel_rfl) (fun _ _ _ h => h) (Or.inl ⟨by rfl, ?_⟩) (by assumption) ?_
    rotate_left 1
    · intro w' hSw
      try dsimp only at hSw
      go_simp
      try with_reducible rfl
    try simp only [List.getElem_toArray, List.getElem_cons_zero, List.getElem_cons_succ, Act.put, List.setIfInBounds_toArray, List.set_cons_zero, List.set_cons_succ]
    refine wpAnyH_take (i := 6) (v := ?_) rfl (by kernel_rfl) (by kernel_rfl) (by kernel_rfl) (fun _ _ _ h => h) (Or.inl ⟨by rfl, ?_⟩) (by assumption) ?_
    rotate_left 1
    · intro w' hSw
      try dsimp only at hSw
      go_simp
      try with_reducible rfl
    try simp only [List.getElem_toArray, List.getElem_cons_zero, List.getElem_cons_succ, Act.put, List.setIfInBounds_toArray, List.set_cons_zero, List.set_cons_succ]
    refine wpAnyH_take (i := 7) (v := ?_) rfl (by kernel_rfl) (by kernel_rfl) (by kernel_rfl) (fun _ _ _ h => h) (Or.inl ⟨by rfl, ?_⟩) (by assumption) ?_
    rotate_left 1
    · intro w' hSw
      try dsimp only at hSw
      go_simp
      try with_reducible rfl
    try simp only [List.getElem_toArray, List.getElem_cons_zero, List.getElem_cons_succ, Act.put, List.setIfInBounds_toArray, List.set_cons_zero, List.set_cons_succ]
    refine wpAnyH_take (i := 8) (v := ?_) rfl (by kernel_rfl) (by kernel_rfl) (by kernel_rfl) (fun _ _ _ h => h) (Or.inl ⟨by rfl, ?_⟩) (by assumption) ?_
    rotate_left 1
    · intro w' hSw
      try dsimp only at hSw
      go_simp
      try with_reducible rfl
    try simp only [List.getElem_toArray, List.getElem_cons_zero, List.getElem_cons_succ, Act.put, List.setIfInBounds_toArray, List.set_cons_zero, List.set_cons_succ]
    refine wpAnyH_take (i := 9) (v := ?_) rfl (by kernel_rfl) (by kernel_rfl) (by kernel_rfl) (fun _ _ _ h => h) (Or.inl ⟨by rfl, ?_⟩) (by assumption) ?_
    rotate_left 1
    · intro w' hSw
      try dsimp only at hSw
      go_simp
      try with_reducible rfl
    try simp only [List.getElem_toArray, List.getElem_cons_zero, List.getElem_cons_succ, Act.put, List.setIfInBounds_toArray, List.set_cons_zero, List.set_cons_succ]
    refine wpAnyH_done (by kernel_rfl) ?_ _
    refine NoPanic.normal ?_
    have HO4 := Lib.hid (HO3.out.trans h34)
    clear hHeld h34
    go_wp2_with fail
    go_ret
    exact HNO.out _ 10 (by decide) HE.out HO4.out
  have HE : Hid (AE = 0) := Lib.hid (by rw [HAE.out, if_neg h6])
  clear HNO HAE
  replace HADL := Lib.hid (by have h := HADL.out; rw [HE.out, if_pos rfl] at h; exact h)
  replace HADK := Lib.hid (by have h := HADK.out; rw [HE.out, if_pos rfl] at h; exact h)
  have hl15 : L.length + 1 ≤ 16 := by omega
  refine wp_region_noPanic ?_
  refine wp_region_held_drew (S := (fun w' => w'.cell? ⟨p, 0, none⟩ = some (.int .i64 places) ∧ w'.cell? ⟨p, 2, none⟩ = some (.slice ao L.length cap))) (by kernel_rfl) (HS5.out _ (Only.refl _ _).drew) (fun hHeld => ?_)
  obtain ⟨w4, hw4⟩ : ∃ x, x = w3.drew := ⟨_, rfl⟩
  rw [← hw4] at hHeld ⊢
  have h34 : Only (fun _ => False) w3 w4 := by rw [hw4]; exact (Only.refl _ _).drew
  clear hw4
  refine wpAnyH_take (i := 0) (v := ?_) rfl (by kernel_rfl) (by kernel_rfl) (by kernel_rfl) (fun _ _ _ h => h) (Or.inl ⟨by rfl, ?_⟩) (by assumption) ?_
  rotate_left 1
  · intro w' hSw
    try dsimp only at hSw
    go_simp
    try with_reducible rfl
  try simp only [List.getElem_toArray, List.getElem_cons_zero, Act.put, List.setIfInBounds_toArray, List.set_cons_zero, List.set_cons_succ]
  refine wpAnyH_take (i := 1) (v := ?_) rfl (by kernel_rfl) (by kernel_rfl) (by kernel_rfl) (fun _ _ _ h => h) (Or.inl ⟨by rfl, ?_⟩) (by assumption) ?_
  rotate_left 1
  · intro w' hSw
    try dsimp only at hSw
    go_simp
    try with_reducible rfl
  try simp only [List.getElem_toArray, List.getElem_cons_zero, List.getElem_cons_succ, Act.put, List.setIfInBounds_toArray, List.set_cons_zero, List.set_cons_succ]
  refine wpAnyH_take (i := 2) (v := ?_) rfl (by kernel_rfl) (by kernel_rfl) (by kernel_rfl) (fun _ _ _ h => h) (Or.inl ⟨by rfl, ?_⟩) (by assumption) ?_
  rotate_left 1
  · intro w' hSw
    try dsimp only at hSw
    go_simp
    try with_reducible rfl
  try simp only [List.getElem_toArray, List.getElem_cons_zero, List.getElem_cons_succ, Act.put, List.setIfInBounds_toArray, List.set_cons_zero, List.set_cons_succ]
  refine wpAnyH_take (i := 3) (v := ?_) rfl (by kernel_rfl) (by kernel_rfl) (by kernel_rfl) (fun _ _ _ h => h) (Or.inl ⟨by rfl, ?_⟩) (by assumption) ?_
  rotate_left 1
  · intro w' hSw
    try dsimp only at hSw
    go_simp
    try with_reducible rfl
  try simp only [List.getElem_toArray, List.getElem_cons_zero, List.getElem_cons_succ, Act.put, List.setIfInBounds_toArray, List.set_cons_zero, List.set_cons_succ]
  refine wpAnyH_take (i := 4) (v := ?_) rfl (by kernel_rfl) (by kernel_rfl) (by kernel_rfl) (fun _ _ _ h => h) (Or.inl ⟨by rfl, ?_⟩) (by assumption) ?_
  rotate_left 1
  · intro w' hSw
    try dsimp only at hSw
    go_simp
    try with_reducible rfl
  try simp only [List.getElem_toArray, List.getElem_cons_zero, List.getElem_cons_succ, Act.put, List.setIfInBounds_toArray, List.set_cons_zero, List.set_cons_succ]
  refine wpAnyH_take (i := 5) (v := ?_) rfl (by kernel_rfl) (by kernel_rfl) (by kernel_rfl) (fun _ _ _ h => h) (Or.inl ⟨by rfl, ?_⟩) (by assumption) ?_
  rotate_left 1
  · intro w' hSw
    try dsimp only at hSw
    go_simp
    try with_reducible rfl
  try simp only [List.getElem_toArray, List.getElem_cons_zero, List.getElem_cons_succ, Act.put, List.setIfInBounds_toArray, List.set_cons_zero, List.set_cons_succ]
  refine wpAnyH_take (i := 6) (v := ?_) rfl (by kernel_rfl) (by kernel_rfl) (by kernel_rfl) (fun _ _ _ h => h) (Or.inl ⟨by rfl, ?_⟩) (by assumption) ?_
  rotate_left 1
  · intro w' hSw
    try dsimp only at hSw
    go_simp
    try with_reducible rfl
  try simp only [List.getElem_toArray, List.getElem_cons_zero, List.getElem_cons_succ, Act.put, List.setIfInBounds_toArray, List.set_cons_zero, List.set_cons_succ]
  refine wpAnyH_take (i := 7) (v := ?_) rfl (by kernel_rfl) (by kernel_rfl) (by kernel_rfl) (fun _ _ _ h => h) (Or.inl ⟨by rfl, ?_⟩) (by assumption) ?_
  rotate_left 1
  · intro w' hSw
    try dsimp only at hSw
    go_simp
    try with_reducible rfl
  try simp only [List.getElem_toArray, List.getElem_cons_zero, List.getElem_cons_succ, Act.put, List.setIfInBounds_toArray, List.set_cons_zero, List.set_cons_succ]
  refine wpAnyH_take (i := 8) (v := ?_) rfl (by kernel_rfl) (by kernel_rfl) (by kernel_rfl) (fun _ _ _ h => h) (Or.inl ⟨by rfl, ?_⟩) (by assumption) ?_
  rotate_left 1
  · intro w' hSw
    try dsimp only at hSw
    go_simp
    try with_reducible rfl
  try simp only [List.getElem_toArray, List.getElem_cons_zero, List.getElem_cons_succ, Act.put, List.setIfInBounds_toArray, List.set_cons_zero, List.set_cons_succ]
  refine wpAnyH_take (i := 9) (v := ?_) rfl (by kernel_rfl) (by kernel_rfl) (by kernel_rfl) (fun _ _ _ h => h) (Or.inl ⟨by rfl, ?_⟩) (by assumption) ?_
  rotate_left 1
  · intro w' hSw
    try dsimp only at hSw
    go_simp
    try with_reducible rfl
  try simp only [List.getElem_toArray, List.getElem_cons_zero, List.getElem_cons_succ, Act.put, List.setIfInBounds_toArray, List.set_cons_zero, List.set_cons_succ]
  refine wpAnyH_done (by kernel_rfl) ?_ _
  refine NoPanic.normal ?_
  have HO4 := Lib.hid (HO3.out.trans h34)
  have HS7 : Hid (∀ w', Only (fun _ => False) w4 w' → w'.cell? ⟨g, 0, none⟩ = some (.int .i64 i) ∧ w'.cell? ⟨g, 1, none⟩ = some (.int .i64 nd) ∧ w'.cell? ⟨g, 2, none⟩ = some (.int .i64 num) ∧ w'.cell? ⟨g, 3, none⟩ = some (.int .i64 dl) ∧ w'.cell? ⟨g, 4, none⟩ = some (.slice a n c)) := Lib.hid (fun w' ho2 => HX2.out w' (h34.trans ho2))
  clear hHeld h34 HS5 HX2
  go_upto_region 7 with fail
  refine wp_region_noPanic ?_
  refine wp_region_held_drew (S := (fun w' => w'.cell? ⟨g, 0, none⟩ = some (.int .i64 i) ∧ w'.cell? ⟨g, 1, none⟩ = some (.int .i64 nd) ∧ w'.cell? ⟨g, 2, none⟩ = some (.int .i64 num) ∧ w'.cell? ⟨g, 3, none⟩ = some (.int .i64 dl) ∧ w'.cell? ⟨g, 4, none⟩ = some (.slice a n c))) (by kernel_rfl) (HS7.out _ (Only.refl _ _).drew) (fun hHeld => ?_)
  obtain ⟨y0, hy0⟩ : ∃ x, x = w4.drew := ⟨_, rfl⟩
  rw [← hy0] at hHeld ⊢
  have hot : Hid (Only (fun _ => False) w4 y0) := Lib.hid (by rw [hy0]; exact (Only.refl _ _).drew)
  clear hy0
  refine wpAnyH_take (i := 0) (v := ?_) rfl (by kernel_rfl) (by kernel_rfl) (by kernel_rfl) (fun _ _ _ h => h) (Or.inl ⟨by rfl, ?_⟩) (by assumption) ?_
  rotate_left 1
  · intro w' hSw
    try dsimp only at hSw
    go_simp
    try with_reducible rfl
  try simp only [List.getElem_toArray, List.getElem_cons_zero, Act.put, List.setIfInBounds_toArray, List.set_cons_zero, List.set_cons_succ]
  refine wpAnyH_take (i := 1) (v := ?_) rfl (by kernel_rfl) (by kernel_rfl) (by kernel_rfl) (fun _ _ _ h => h) (Or.inl ⟨by rfl, ?_⟩) (by assumption) ?_
  rotate_left 1
  · intro w' hSw
    try dsimp only at hSw
    go_simp
    try with_reducible rfl
  try simp only [List.getElem_toArray, List.getElem_cons_zero, List.getElem_cons_succ, Act.put, List.setIfInBounds_toArray, List.set_cons_zero, List.set_cons_succ]
  refine wpAnyH_take (i := 2) (v := ?_) rfl (by kernel_rfl) (by kernel_rfl) (by kernel_rfl) (fun _ _ _ h => h) (Or.inl ⟨by rfl, ?_⟩) (by assumption) ?_
  rotate_left 1
  · intro w' hSw
    try dsimp only at hSw
    go_simp
    try with_reducible rfl
  try simp only [List.getElem_toArray, List.getElem_cons_zero, List.getElem_cons_succ, Act.put, List.setIfInBounds_toArray, List.set_cons_zero, List.set_cons_succ]
  refine wpAnyH_take (i := 3) (v := ?_) rfl (by kernel_rfl) (by kernel_rfl) (by kernel_rfl) (fun _ _ _ h => h) (Or.inl ⟨by rfl, ?_⟩) (by assumption) ?_
  rotate_left 1
  · intro w' hSw
    try dsimp only at hSw
    go_simp
    try with_reducible rfl
  try simp only [List.getElem_toArray, List.getElem_cons_zero, List.getElem_cons_succ, Act.put, List.setIfInBounds_toArray, List.set_cons_zero, List.set_cons_succ]
  refine wpAnyH_take (i := 4) (v := ?_) rfl (by kernel_rfl) (by kernel_rfl) (by kernel_rfl) (fun _ _ _ h => h) (Or.inl ⟨by rfl, ?_⟩) (by assumption) ?_
  rotate_left 1
  · intro w' hSw
    try dsimp only at hSw
    go_simp
    try with_reducible rfl
  try simp only [List.getElem_toArray, List.getElem_cons_zero, List.getElem_cons_succ, Act.put, List.setIfInBounds_toArray, List.set_cons_zero, List.set_cons_succ]
  refine wpAnyH_take (i := 6) (v := ?_) rfl (by kernel_rfl) (by kernel_rfl) (by kernel_rfl) (fun _ _ _ h => h) (Or.inl ⟨by rfl, ?_⟩) (by assumption) ?_
  rotate_left 1
  · intro w' hSw
    try dsimp only at hSw
    go_simp
    try with_reducible rfl
  try simp only [List.getElem_toArray, List.getElem_cons_zero, List.getElem_cons_succ, Act.put, List.setIfInBounds_toArray, List.set_cons_zero, List.set_cons_succ]
  refine wpAnyH_take (i := 9) (v := ?_) rfl (by kernel_rfl) (by kernel_rfl) (by kernel_rfl) (fun _ _ _ h => h) (Or.inl ⟨by rfl, ?_⟩) (by assumption) ?_
  rotate_left 1
  · intro w' hSw
    try dsimp only at hSw
    go_simp
    try with_reducible rfl
  try simp only [List.getElem_toArray, List.getElem_cons_zero, List.getElem_cons_succ, Act.put, List.setIfInBounds_toArray, List.set_cons_zero, List.set_cons_succ]
  refine wpAnyH_take (i := 10) (v := ?_) rfl (by kernel_rfl) (by kernel_rfl) (by kernel_rfl) (fun _ _ _ h => h) (Or.inl ⟨by rfl, ?_⟩) (by assumption) ?_
  rotate_left 1
  · intro w' hSw
    try dsimp only at hSw
    go_simp
    try with_reducible rfl
  try simp only [List.getElem_toArray, List.getElem_cons_zero, List.getElem_cons_succ, Act.put, List.setIfInBounds_toArray, List.set_cons_zero, List.set_cons_succ]
  refine wpAnyH_ready (rs := [5, 7]) (by kernel_rfl) (by simp) ?_
  refine AllReadyH.cons rfl (fun K hK => ?_) (AllReadyH.cons rfl (fun K hK => ?_) AllReadyH.nil)
  · have hl5 := (HCT.out.quiet (HO4.out.trans hot.out)).c2
    try simp only [List.getElem_toArray, List.getElem_cons_zero, List.getElem_cons_succ]
    go_simp
    clear hl5
    refine hK.out _ _ (HS7.out _ hot.out) (fun hHeld1 => ?_)
    clear hK K
    try simp only [List.getElem_toArray, List.getElem_cons_zero, List.getElem_cons_succ, Act.put, List.setIfInBounds_toArray, List.set_cons_zero, List.set_cons_succ]
    refine wpAnyH_ready (rs := [7]) (by kernel_rfl) (by simp) ?_
    refine AllReadyH.cons rfl (fun K hK => ?_) AllReadyH.nil
    try simp only [List.getElem_toArray, List.getElem_cons_zero, List.getElem_cons_succ]
    go_simp
    obtain ⟨w9, hw9⟩ : ∃ x, x = y0 := ⟨_, rfl⟩
    rw [← hw9] at hot ⊢
    clear hw9
    obtain ⟨W2, hW2⟩ : ∃ x, x = w9.alloc (.cells #[.int .i64 i, .int .i64 nd, .int .i64 num, .int .i64 dl, .slice a n c] 50) := ⟨_, rfl⟩
    obtain ⟨g2, hg2⟩ : ∃ x, x = w9.heap.size := ⟨_, rfl⟩
    rw [← hW2, ← hg2]
    have hsb := sbox hW2 hg2
    have HNW : Hid (∀ j u, (gv (ES 0) [(⟨i, nd, num, dl, a, n, c, gs⟩ : Sd)])[j]? = some u → W2.cell? ((⟨g2, 0, none⟩ : Addr).add j) = some u) := Lib.hid (fun j u hu => by
      rw [add_none, Nat.zero_add, hW2]
      rw [gv_single] at hu
      exact news_one (ES 0) (x := (⟨i, nd, num, dl, a, n, c, gs⟩ : Sd)) hg2 rfl j u hu)
    have H9 := Lib.hid (HO4.out.trans hot.out)
    have HAL9 := Lib.hid hsb.2.2.2.2.2
    replace hot := Lib.hid (hot.out.trans hsb.2.2.2.2.2)
    clear hW2 hg2 hsb
    refine hK.out _ _ (HS7.out _ hot.out) (fun hHeld2 => ?_)
    clear hK K
    try simp only [List.getElem_toArray, List.getElem_cons_zero, List.getElem_cons_succ, Act.put, List.setIfInBounds_toArray, List.set_cons_zero, List.set_cons_succ]
    refine wpAnyH_ready (rs := [8]) (by kernel_rfl) (by simp) ?_
    refine AllReadyH.cons rfl (fun K hK => ?_) AllReadyH.nil
    refine step_rsess (a := { tmps := _, defers := _ }) rfl _ _ rfl _ L rfl (HOW.out.only (HO4.out.trans hot.out) (fun _ _ f => f)) ⟨g2, 0, none⟩ 1 1 [(⟨i, nd, num, dl, a, n, c, gs⟩ : Sd)] rfl rfl HNW.out (by omega) (by omega) ?_
    rintro v3 W3 hown hgrow hkk
    obtain ⟨gq, bc, hvf, -, -, hbc, -⟩ := owns_form hown (by simp)
    have hl1 : (L ++ [(⟨i, nd, num, dl, a, n, c, gs⟩ : Sd)]).length = L.length + 1 := by simp
    rw [hl1] at hvf hbc
    subst hvf
    have hgo := Only.of_grown hgrow
    have hall := HO4.out.trans hot.out
    have d2 := hgo.cell' ((HCT.out.quiet hall).c2) (fun e => HNP.out e)
    have f2 : W3.frozen? ⟨p, 2, none⟩ = false := (hgo.frozen (p := ⟨p, 2, none⟩) (by have := hall.size; have := HCT.out.lt; show p < _; omega) (fun e => HNP.out e)).trans ((hall.frozen (p := ⟨p, 2, none⟩) HCT.out.lt (fun f => f)).trans HCT.out.f2)
    have f1 : W3.frozen? ⟨p, 1, none⟩ = false := (hgo.frozen (p := ⟨p, 1, none⟩) (by have := hall.size; have := HCT.out.lt; show p < _; omega) (fun e => HNP.out e)).trans ((hall.frozen (p := ⟨p, 1, none⟩) HCT.out.lt (fun f => f)).trans HCT.out.f1)
    have d1 := hgo.cell' ((HCT.out.quiet hall).c1) (fun e => HNP.out e)
    have d0 := hgo.cell' ((HCT.out.quiet hall).c0) (fun e => HNP.out e)
    have HOW12 := Lib.hid hown
    have HKK : Hid (∀ k, (.slice (some ⟨gq, 0, none⟩) (L.length + 1) bc : Value).ownBlock = some k → (.slice ao L.length cap : Value).ownBlock = some k ∨ w9.heap.size ≤ k) := Lib.hid (fun k e => (hkk k e).imp (fun x => x) (fun e2 => Nat.le_trans HAL9.out.size e2))
    have HG9 : Hid (Only (fun x => x = p ∨ (.slice ao L.length cap : Value).ownBlock = some x) w9 W3) := Lib.hid ((HAL9.out.mono (fun _ _ f => f.elim)).trans (hgo.mono (fun k _ e => .inr e)))
    have HX12 := Lib.hid (And.intro (hgo.cell' (HS7.out _ hot.out).1 (fun e => HNG.out e)) (And.intro (hgo.cell' (HS7.out _ hot.out).2.1 (fun e => HNG.out e)) (And.intro (hgo.cell' (HS7.out _ hot.out).2.2.1 (fun e => HNG.out e)) (And.intro (hgo.cell' (HS7.out _ hot.out).2.2.2.1 (fun e => HNG.out e)) (hgo.cell' (HS7.out _ hot.out).2.2.2.2 (fun e => HNG.out e))))))
    clear hown hgrow hkk hgo HNW hall
    refine hK.out _ _ (HX12.out) (fun hHeld3 => ?_)
    clear hK K
    try simp only [List.getElem_toArray, List.getElem_cons_zero, List.getElem_cons_succ, Act.put, List.setIfInBounds_toArray, List.set_cons_zero, List.set_cons_succ]
    refine wpAnyH_take (i := 11) (v := ?_) rfl (by kernel_rfl) (by kernel_rfl) (by kernel_rfl) (fun _ _ _ h => h) (Or.inl ⟨by rfl, ?_⟩) (by assumption) ?_
    rotate_left 1
    · intro w' hSw
      try dsimp only at hSw
      go_simp
      try with_reducible rfl
    try simp only [List.getElem_toArray, List.getElem_cons_zero, List.getElem_cons_succ, Act.put, List.setIfInBounds_toArray, List.set_cons_zero, List.set_cons_succ]
    refine wpAnyH_take (i := 12) (v := ?_) rfl (by kernel_rfl) (by kernel_rfl) (by kernel_rfl) (fun _ _ _ h => h) (Or.inl ⟨by rfl, ?_⟩) (by assumption) ?_
    rotate_left 1
    · intro w' hSw
      try dsimp only at hSw
      go_simp
      try with_reducible rfl
    try simp only [List.getElem_toArray, List.getElem_cons_zero, List.getElem_cons_succ, Act.put, List.setIfInBounds_toArray, List.set_cons_zero, List.set_cons_succ]
    refine wpAnyH_ready (rs := [13]) (by kernel_rfl) (by simp) ?_
    refine AllReadyH.cons rfl (fun K hK => ?_) AllReadyH.nil
    try simp only [List.getElem_toArray, List.getElem_cons_zero, List.getElem_cons_succ]
    go_simp
    obtain ⟨w5, hw5⟩ : ∃ x, x = W3.setCell ⟨p, 2, none⟩ (.slice (some ⟨gq, 0, none⟩) (L.length + 1) bc : Value) := ⟨_, rfl⟩
    rw [← hw5]
    have hs5 : Only (fun x => x = p) W3 w5 := by rw [hw5]; exact Only.set (fun x => x = p) _ p 2 _ rfl
    have e2 : w5.cell? ⟨p, 2, none⟩ = some (.slice (some ⟨gq, 0, none⟩) (L.length + 1) bc : Value) := by rw [hw5]; exact cell_same d2
    have ef2 : w5.frozen? ⟨p, 2, none⟩ = false := by rw [hw5]; exact frozen_set.trans f2
    have ef1 : w5.frozen? ⟨p, 1, none⟩ = false := by rw [hw5]; exact frozen_set.trans f1
    have e0 : w5.cell? ⟨p, 0, none⟩ = some (.int .i64 places) := by rw [hw5, cell_other (fun e => by injection e with _ e _; omega)]; exact d0
    have e1 : w5.cell? ⟨p, 1, none⟩ = some (.int .i64 last) := by rw [hw5, cell_other (fun e => by injection e with _ e _; omega)]; exact d1
    have HNP9 : Hid ((.slice (some ⟨gq, 0, none⟩) (L.length + 1) bc : Value).ownBlock ≠ some p) := Lib.hid (fun e => (HKK.out p e).elim (fun e => HNP.out e) (fun e => by have := HCT.out.lt; have := H9.out.size; omega))
    have HOW5 : Hid (OwnR (ES 50) w5 (.slice (some ⟨gq, 0, none⟩) (L.length + 1) bc : Value) (L ++ [(⟨i, nd, num, dl, a, n, c, gs⟩ : Sd)])) := Lib.hid (HOW12.out.only hs5 (fun k e e2 => HNP9.out (by rw [e, e2])))
    have HG5 : Hid (Only (fun x => x = p ∨ (.slice ao L.length cap : Value).ownBlock = some x) w9 w5) := Lib.hid (HG9.out.trans (hs5.mono (fun x _ e => .inl e)))
    have HX5 := Lib.hid (And.intro (hs5.cell' HX12.out.1 hgp) (And.intro (hs5.cell' HX12.out.2.1 hgp) (And.intro (hs5.cell' HX12.out.2.2.1 hgp) (And.intro (hs5.cell' HX12.out.2.2.2.1 hgp) (hs5.cell' HX12.out.2.2.2.2 hgp)))))
    clear hw5 hs5 d2 d1 d0 f2 f1 HOW12 HG9 HX12
    refine hK.out _ _ (HX5.out) (fun hHeld4 => ?_)
    clear hK K
    try simp only [List.getElem_toArray, List.getElem_cons_zero, List.getElem_cons_succ, Act.put, List.setIfInBounds_toArray, List.set_cons_zero, List.set_cons_succ]
    refine wpAnyH_take (i := 14) (v := ?_) rfl (by kernel_rfl) (by kernel_rfl) (by kernel_rfl) (fun _ _ _ h => h) (Or.inl ⟨by rfl, ?_⟩) (by assumption) ?_
    rotate_left 1
    · intro w' hSw
      try dsimp only at hSw
      go_simp
      try with_reducible rfl
    try simp only [List.getElem_toArray, List.getElem_cons_zero, List.getElem_cons_succ, Act.put, List.setIfInBounds_toArray, List.set_cons_zero, List.set_cons_succ]
    refine wpAnyH_take (i := 15) (v := ?_) rfl (by kernel_rfl) (by kernel_rfl) (by kernel_rfl) (fun _ _ _ h => h) (Or.inl ⟨by rfl, ?_⟩) (by assumption) ?_
    rotate_left 1
    · intro w' hSw
      try dsimp only at hSw
      go_simp
      try with_reducible rfl
    try simp only [List.getElem_toArray, List.getElem_cons_zero, List.getElem_cons_succ, Act.put, List.setIfInBounds_toArray, List.set_cons_zero, List.set_cons_succ]
    refine wpAnyH_ready (rs := [16]) (by kernel_rfl) (by simp) ?_
    refine AllReadyH.cons rfl (fun K hK => ?_) AllReadyH.nil
    try simp only [List.getElem_toArray, List.getElem_cons_zero, List.getElem_cons_succ]
    go_simp
    obtain ⟨w6, hw6⟩ : ∃ x, x = w5.setCell ⟨p, 1, none⟩ (.int .i64 i) := ⟨_, rfl⟩
    rw [← hw6]
    have hs6 : Only (fun x => x = p) w5 w6 := by rw [hw6]; exact Only.set (fun x => x = p) _ p 1 _ rfl
    have ho6 : Only (fun x => x = p ∨ (.slice ao L.length cap : Value).ownBlock = some x) w9 w6 := HG5.out.trans (hs6.mono (fun x _ e => .inl e))
    have HKD := Lib.hid (grin_gen (S' := DSet S a w) (d := (⟨i, nd, num, dl, a, n, c, gs⟩ : Sd)) HCT.out H9.out ho6 HKK.out (fun q s => .inl s) ⟨HRD.out.quiet H9.out, hcp⟩ (fun y e hn => ⟨Nat.lt_of_lt_of_le (HFR.out y e hn).2 H9.out.size, .inr (.inl ⟨y, e, rfl⟩), fun e2 => (HFR.out y e hn).1 (by rw [e2]; exact HCT.out.sp), fun e2 => (HFR.out y e hn).1 (HCT.out.sv _ e2)⟩))
    have HEND : Hid (DT (DSet S a w) w6 p places i (.slice (some ⟨gq, 0, none⟩) (L.length + 1) bc : Value) (L ++ [(⟨i, nd, num, dl, a, n, c, gs⟩ : Sd)])) := Lib.hid ⟨(by rw [hw6, cell_other (fun e => by injection e with _ e _; omega)]; exact e0), (by rw [hw6]; exact cell_same e1), (by rw [hw6, cell_other (fun e => by injection e with _ e _; omega)]; exact e2), (by rw [hw6]; exact frozen_set.trans ef1), (by rw [hw6]; exact frozen_set.trans ef2), HOW5.out.only hs6 (fun k e e2 => HNP9.out (by rw [e, e2])), HNP9.out, (by rw [List.length_append, List.length_singleton]; omega), .inl HCT.out.sp, (fun q e => (HKK.out q e).elim (fun e => .inl (HCT.out.sv q e)) (fun e => .inr (.inr (Nat.le_trans H9.out.size e)))), (fun x hx => HKD.out x ((List.mem_append.1 hx).imp (fun y => y) (fun y => List.mem_singleton.1 y))), fun e => by cases e⟩
    have HOS : Hid (Only S w w6) := Lib.hid (((H9.out.mono (fun _ _ f => f.elim)).trans ho6).mono (fun k hk e => e.elim (fun e => by rw [e]; exact HCT.out.sp) (fun e => HCT.out.sv k e)))
    have HX6 := Lib.hid (And.intro (hs6.cell' HX5.out.1 hgp) (And.intro (hs6.cell' HX5.out.2.1 hgp) (And.intro (hs6.cell' HX5.out.2.2.1 hgp) (And.intro (hs6.cell' HX5.out.2.2.2.1 hgp) (hs6.cell' HX5.out.2.2.2.2 hgp)))))
    clear hw6 hs6 ho6 e0 e1 e2 ef1 ef2
    refine hK.out _ _ (HX6.out) (fun hHeld5 => ?_)
    clear hK K
    try simp only [List.getElem_toArray, List.getElem_cons_zero, List.getElem_cons_succ, Act.put, List.setIfInBounds_toArray, List.set_cons_zero, List.set_cons_succ]
    refine wpAnyH_done (by kernel_rfl) ?_ _
    refine NoPanic.normal ?_
    go_wp2_with fail
    go_ret
    exact ⟨by rw [HE.out]; rfl, ⟨_, L ++ [(⟨i, nd, num, dl, a, n, c, gs⟩ : Sd)], by rw [HADL.out, List.map_append]; rfl, by rw [HADK.out]; exact HEND.out⟩, HOS.out⟩

  · try simp only [List.getElem_toArray, List.getElem_cons_zero, List.getElem_cons_succ]
    go_simp
    obtain ⟨w9, hw9⟩ : ∃ x, x = y0 := ⟨_, rfl⟩
    rw [← hw9] at hot ⊢
    clear hw9
    obtain ⟨W6, hW6⟩ : ∃ x, x = w9.alloc (.cells #[.int .i64 i, .int .i64 nd, .int .i64 num, .int .i64 dl, .slice a n c] 50) := ⟨_, rfl⟩
    obtain ⟨g6, hg6⟩ : ∃ x, x = w9.heap.size := ⟨_, rfl⟩
    rw [← hW6, ← hg6]
    have hsb := sbox hW6 hg6
    have HNW : Hid (∀ j u, (gv (ES 0) [(⟨i, nd, num, dl, a, n, c, gs⟩ : Sd)])[j]? = some u → W6.cell? ((⟨g6, 0, none⟩ : Addr).add j) = some u) := Lib.hid (fun j u hu => by
      rw [add_none, Nat.zero_add, hW6]
      rw [gv_single] at hu
      exact news_one (ES 0) (x := (⟨i, nd, num, dl, a, n, c, gs⟩ : Sd)) hg6 rfl j u hu)
    have H9 := Lib.hid (HO4.out.trans hot.out)
    have HAL9 := Lib.hid hsb.2.2.2.2.2
    replace hot := Lib.hid (hot.out.trans hsb.2.2.2.2.2)
    clear hW6 hg6 hsb
    refine hK.out _ _ (HS7.out _ hot.out) (fun hHeld6 => ?_)
    clear hK K
    try simp only [List.getElem_toArray, List.getElem_cons_zero, List.getElem_cons_succ, Act.put, List.setIfInBounds_toArray, List.set_cons_zero, List.set_cons_succ]
    refine wpAnyH_ready (rs := [5]) (by kernel_rfl) (by simp) ?_
    refine AllReadyH.cons rfl (fun K hK => ?_) AllReadyH.nil
    have hl5 := (HCT.out.quiet (HO4.out.trans hot.out)).c2
    try simp only [List.getElem_toArray, List.getElem_cons_zero, List.getElem_cons_succ]
    go_simp
    clear hl5
    refine hK.out _ _ (HS7.out _ hot.out) (fun hHeld7 => ?_)
    clear hK K
    try simp only [List.getElem_toArray, List.getElem_cons_zero, List.getElem_cons_succ, Act.put, List.setIfInBounds_toArray, List.set_cons_zero, List.set_cons_succ]
    refine wpAnyH_ready (rs := [8]) (by kernel_rfl) (by simp) ?_
    refine AllReadyH.cons rfl (fun K hK => ?_) AllReadyH.nil
    refine step_rsess (a := { tmps := _, defers := _ }) rfl _ _ rfl _ L rfl (HOW.out.only (HO4.out.trans hot.out) (fun _ _ f => f)) ⟨g6, 0, none⟩ 1 1 [(⟨i, nd, num, dl, a, n, c, gs⟩ : Sd)] rfl rfl HNW.out (by omega) (by omega) ?_
    rintro v8 W8 hown hgrow hkk
    obtain ⟨gq, bc, hvf, -, -, hbc, -⟩ := owns_form hown (by simp)
    have hl1 : (L ++ [(⟨i, nd, num, dl, a, n, c, gs⟩ : Sd)]).length = L.length + 1 := by simp
    rw [hl1] at hvf hbc
    subst hvf
    have hgo := Only.of_grown hgrow
    have hall := HO4.out.trans hot.out
    have d2 := hgo.cell' ((HCT.out.quiet hall).c2) (fun e => HNP.out e)
    have f2 : W8.frozen? ⟨p, 2, none⟩ = false := (hgo.frozen (p := ⟨p, 2, none⟩) (by have := hall.size; have := HCT.out.lt; show p < _; omega) (fun e => HNP.out e)).trans ((hall.frozen (p := ⟨p, 2, none⟩) HCT.out.lt (fun f => f)).trans HCT.out.f2)
    have f1 : W8.frozen? ⟨p, 1, none⟩ = false := (hgo.frozen (p := ⟨p, 1, none⟩) (by have := hall.size; have := HCT.out.lt; show p < _; omega) (fun e => HNP.out e)).trans ((hall.frozen (p := ⟨p, 1, none⟩) HCT.out.lt (fun f => f)).trans HCT.out.f1)
    have d1 := hgo.cell' ((HCT.out.quiet hall).c1) (fun e => HNP.out e)
    have d0 := hgo.cell' ((HCT.out.quiet hall).c0) (fun e => HNP.out e)
    have HOW12 := Lib.hid hown
    have HKK : Hid (∀ k, (.slice (some ⟨gq, 0, none⟩) (L.length + 1) bc : Value).ownBlock = some k → (.slice ao L.length cap : Value).ownBlock = some k ∨ w9.heap.size ≤ k) := Lib.hid (fun k e => (hkk k e).imp (fun x => x) (fun e2 => Nat.le_trans HAL9.out.size e2))
    have HG9 : Hid (Only (fun x => x = p ∨ (.slice ao L.length cap : Value).ownBlock = some x) w9 W8) := Lib.hid ((HAL9.out.mono (fun _ _ f => f.elim)).trans (hgo.mono (fun k _ e => .inr e)))
    have HX12 := Lib.hid (And.intro (hgo.cell' (HS7.out _ hot.out).1 (fun e => HNG.out e)) (And.intro (hgo.cell' (HS7.out _ hot.out).2.1 (fun e => HNG.out e)) (And.intro (hgo.cell' (HS7.out _ hot.out).2.2.1 (fun e => HNG.out e)) (And.intro (hgo.cell' (HS7.out _ hot.out).2.2.2.1 (fun e => HNG.out e)) (hgo.cell' (HS7.out _ hot.out).2.2.2.2 (fun e => HNG.out e))))))
    clear hown hgrow hkk hgo HNW hall
    refine hK.out _ _ (HX12.out) (fun hHeld8 => ?_)
    clear hK K
    try simp only [List.getElem_toArray, List.getElem_cons_zero, List.getElem_cons_succ, Act.put, List.setIfInBounds_toArray, List.set_cons_zero, List.set_cons_succ]
    refine wpAnyH_take (i := 11) (v := ?_) rfl (by kernel_rfl) (by kernel_rfl) (by kernel_rfl) (fun _ _ _ h => h) (Or.inl ⟨by rfl, ?_⟩) (by assumption) ?_
    rotate_left 1
    · intro w' hSw
      try dsimp only at hSw
      go_simp
      try with_reducible rfl
    try simp only [List.getElem_toArray, List.getElem_cons_zero, List.getElem_cons_succ, Act.put, List.setIfInBounds_toArray, List.set_cons_zero, List.set_cons_succ]
    refine wpAnyH_take (i := 12) (v := ?_) rfl (by kernel_rfl) (by kernel_rfl) (by kernel_rfl) (fun _ _ _ h => h) (Or.inl ⟨by rfl, ?_⟩) (by assumption) ?_
    rotate_left 1
    · intro w' hSw
      try dsimp only at hSw
      go_simp
      try with_reducible rfl
    try simp only [List.getElem_toArray, List.getElem_cons_zero, List.getElem_cons_succ, Act.put, List.setIfInBounds_toArray, List.set_cons_zero, List.set_cons_succ]
    refine wpAnyH_ready (rs := [13]) (by kernel_rfl) (by simp) ?_
    refine AllReadyH.cons rfl (fun K hK => ?_) AllReadyH.nil
    try simp only [List.getElem_toArray, List.getElem_cons_zero, List.getElem_cons_succ]
    go_simp
    obtain ⟨w5, hw5⟩ : ∃ x, x = W8.setCell ⟨p, 2, none⟩ (.slice (some ⟨gq, 0, none⟩) (L.length + 1) bc : Value) := ⟨_, rfl⟩
    rw [← hw5]
    have hs5 : Only (fun x => x = p) W8 w5 := by rw [hw5]; exact Only.set (fun x => x = p) _ p 2 _ rfl
    have e2 : w5.cell? ⟨p, 2, none⟩ = some (.slice (some ⟨gq, 0, none⟩) (L.length + 1) bc : Value) := by rw [hw5]; exact cell_same d2
    have ef2 : w5.frozen? ⟨p, 2, none⟩ = false := by rw [hw5]; exact frozen_set.trans f2
    have ef1 : w5.frozen? ⟨p, 1, none⟩ = false := by rw [hw5]; exact frozen_set.trans f1
    have e0 : w5.cell? ⟨p, 0, none⟩ = some (.int .i64 places) := by rw [hw5, cell_other (fun e => by injection e with _ e _; omega)]; exact d0
    have e1 : w5.cell? ⟨p, 1, none⟩ = some (.int .i64 last) := by rw [hw5, cell_other (fun e => by injection e with _ e _; omega)]; exact d1
    have HNP9 : Hid ((.slice (some ⟨gq, 0, none⟩) (L.length + 1) bc : Value).ownBlock ≠ some p) := Lib.hid (fun e => (HKK.out p e).elim (fun e => HNP.out e) (fun e => by have := HCT.out.lt; have := H9.out.size; omega))
    have HOW5 : Hid (OwnR (ES 50) w5 (.slice (some ⟨gq, 0, none⟩) (L.length + 1) bc : Value) (L ++ [(⟨i, nd, num, dl, a, n, c, gs⟩ : Sd)])) := Lib.hid (HOW12.out.only hs5 (fun k e e2 => HNP9.out (by rw [e, e2])))
    have HG5 : Hid (Only (fun x => x = p ∨ (.slice ao L.length cap : Value).ownBlock = some x) w9 w5) := Lib.hid (HG9.out.trans (hs5.mono (fun x _ e => .inl e)))
    have HX5 := Lib.hid (And.intro (hs5.cell' HX12.out.1 hgp) (And.intro (hs5.cell' HX12.out.2.1 hgp) (And.intro (hs5.cell' HX12.out.2.2.1 hgp) (And.intro (hs5.cell' HX12.out.2.2.2.1 hgp) (hs5.cell' HX12.out.2.2.2.2 hgp)))))
    clear hw5 hs5 d2 d1 d0 f2 f1 HOW12 HG9 HX12
    refine hK.out _ _ (HX5.out) (fun hHeld9 => ?_)
    clear hK K
    try simp only [List.getElem_toArray, List.getElem_cons_zero, List.getElem_cons_succ, Act.put, List.setIfInBounds_toArray, List.set_cons_zero, List.set_cons_succ]
    refine wpAnyH_take (i := 14) (v := ?_) rfl (by kernel_rfl) (by kernel_rfl) (by kernel_rfl) (fun _ _ _ h => h) (Or.inl ⟨by rfl, ?_⟩) (by assumption) ?_
    rotate_left 1
    · intro w' hSw
      try dsimp only at hSw
      go_simp
      try with_reducible rfl
    try simp only [List.getElem_toArray, List.getElem_cons_zero, List.getElem_cons_succ, Act.put, List.setIfInBounds_toArray, List.set_cons_zero, List.set_cons_succ]
    refine wpAnyH_take (i := 15) (v := ?_) rfl (by kernel_rfl) (by kernel_rfl) (by kernel_rfl) (fun _ _ _ h => h) (Or.inl ⟨by rfl, ?_⟩) (by assumption) ?_
    rotate_left 1
    · intro w' hSw
      try dsimp only at hSw
      go_simp
      try with_reducible rfl
    try simp only [List.getElem_toArray, List.getElem_cons_zero, List.getElem_cons_succ, Act.put, List.setIfInBounds_toArray, List.set_cons_zero, List.set_cons_succ]
    refine wpAnyH_ready (rs := [16]) (by kernel_rfl) (by simp) ?_
    refine AllReadyH.cons rfl (fun K hK => ?_) AllReadyH.nil
    try simp only [List.getElem_toArray, List.getElem_cons_zero, List.getElem_cons_succ]
    go_simp
    obtain ⟨w6, hw6⟩ : ∃ x, x = w5.setCell ⟨p, 1, none⟩ (.int .i64 i) := ⟨_, rfl⟩
    rw [← hw6]
    have hs6 : Only (fun x => x = p) w5 w6 := by rw [hw6]; exact Only.set (fun x => x = p) _ p 1 _ rfl
    have ho6 : Only (fun x => x = p ∨ (.slice ao L.length cap : Value).ownBlock = some x) w9 w6 := HG5.out.trans (hs6.mono (fun x _ e => .inl e))
    have HKD := Lib.hid (grin_gen (S' := DSet S a w) (d := (⟨i, nd, num, dl, a, n, c, gs⟩ : Sd)) HCT.out H9.out ho6 HKK.out (fun q s => .inl s) ⟨HRD.out.quiet H9.out, hcp⟩ (fun y e hn => ⟨Nat.lt_of_lt_of_le (HFR.out y e hn).2 H9.out.size, .inr (.inl ⟨y, e, rfl⟩), fun e2 => (HFR.out y e hn).1 (by rw [e2]; exact HCT.out.sp), fun e2 => (HFR.out y e hn).1 (HCT.out.sv _ e2)⟩))
    have HEND : Hid (DT (DSet S a w) w6 p places i (.slice (some ⟨gq, 0, none⟩) (L.length + 1) bc : Value) (L ++ [(⟨i, nd, num, dl, a, n, c, gs⟩ : Sd)])) := Lib.hid ⟨(by rw [hw6, cell_other (fun e => by injection e with _ e _; omega)]; exact e0), (by rw [hw6]; exact cell_same e1), (by rw [hw6, cell_other (fun e => by injection e with _ e _; omega)]; exact e2), (by rw [hw6]; exact frozen_set.trans ef1), (by rw [hw6]; exact frozen_set.trans ef2), HOW5.out.only hs6 (fun k e e2 => HNP9.out (by rw [e, e2])), HNP9.out, (by rw [List.length_append, List.length_singleton]; omega), .inl HCT.out.sp, (fun q e => (HKK.out q e).elim (fun e => .inl (HCT.out.sv q e)) (fun e => .inr (.inr (Nat.le_trans H9.out.size e)))), (fun x hx => HKD.out x ((List.mem_append.1 hx).imp (fun y => y) (fun y => List.mem_singleton.1 y))), fun e => by cases e⟩
    have HOS : Hid (Only S w w6) := Lib.hid (((H9.out.mono (fun _ _ f => f.elim)).trans ho6).mono (fun k hk e => e.elim (fun e => by rw [e]; exact HCT.out.sp) (fun e => HCT.out.sv k e)))
    have HX6 := Lib.hid (And.intro (hs6.cell' HX5.out.1 hgp) (And.intro (hs6.cell' HX5.out.2.1 hgp) (And.intro (hs6.cell' HX5.out.2.2.1 hgp) (And.intro (hs6.cell' HX5.out.2.2.2.1 hgp) (hs6.cell' HX5.out.2.2.2.2 hgp)))))
    clear hw6 hs6 ho6 e0 e1 e2 ef1 ef2
    refine hK.out _ _ (HX6.out) (fun hHeld10 => ?_)
    clear hK K
    try simp only [List.getElem_toArray, List.getElem_cons_zero, List.getElem_cons_succ, Act.put, List.setIfInBounds_toArray, List.set_cons_zero, List.set_cons_succ]
    refine wpAnyH_done (by kernel_rfl) ?_ _
    refine NoPanic.normal ?_
    go_wp2_with fail
    go_ret
    exact ⟨by rw [HE.out]; rfl, ⟨_, L ++ [(⟨i, nd, num, dl, a, n, c, gs⟩ : Sd)], by rw [HADL.out, List.map_append]; rfl, by rw [HADK.out]; exact HEND.out⟩, HOS.out⟩
set_option maxRecDepth 100000 in
set_option maxHeartbeats 8000000 in
theorem rset_any {S : Nat → Prop} (p : Nat) (places last : Int) (v : Value) (L : List Sd) (i nd num dl : Int) (a : Option Addr) (n c : Nat) (gs : List Gr) (w : World) (h : DT S w p places last v L) (hr : ReadsG w a n gs) (hcp : Cp a n c) (hfr : ∀ y, a = some y → 0 < n → ¬ S y.block ∧ y.block < w.heap.size) : Calls Try.prog 35 #[.pointer (some ⟨p, 0, none⟩), .agg #[.int .i64 i, .int .i64 nd, .int .i64 num, .int .i64 dl, .slice a n c]] w fun e w' => e = .returned (.int .i64 (setE (L.map Sd.sx) ⟨i, nd, num, dl, gs⟩)) ∧ DRes S (DSet S a w) p places last (setL (L.map Sd.sx) ⟨i, nd, num, dl, gs⟩) w w' := by
  obtain ⟨AE, hAE⟩ : ∃ x, x = setE (L.map Sd.sx) ⟨i, nd, num, dl, gs⟩ := ⟨_, rfl⟩
  obtain ⟨SL, hSL⟩ : ∃ x, x = setL (L.map Sd.sx) ⟨i, nd, num, dl, gs⟩ := ⟨_, rfl⟩
  rw [← hSL, ← hAE]
  unfold setL at hSL
  rw [← hAE] at hSL
  have HSL := Lib.hid hSL
  unfold setE at hAE
  dsimp only at hAE
  have HAE := Lib.hid hAE
  clear hAE hSL
  have HNO : Hid (∀ w' E, E ≠ 0 → AE = E → Only (fun _ => False) w w' → Ending.returned (.int .i64 E) = .returned (.int .i64 AE) ∧ DRes S (DSet S a w) p places last SL w w') := Lib.hid (fun w' E hE e ho => by rw [HSL.out, e, if_neg hE]; exact ⟨rfl, DRes.same h (fun q s => .inl s) ho⟩)
  obtain ⟨w1, hw⟩ : ∃ x, x = w.alloc (.cells #[.int .i64 i, .int .i64 nd, .int .i64 num, .int .i64 dl, .slice a n c] 50) := ⟨_, rfl⟩
  obtain ⟨g, hg⟩ : ∃ x, x = w.heap.size := ⟨_, rfl⟩
  have HBX := Lib.hid (sbox hw hg)
  have HCT := Lib.hid h
  have hgp : g ≠ p := by have := h.lt; omega
  have HIS := Lib.hid (rright_any i nd num dl a n c gs w1 (hr.quiet HBX.out.2.2.2.2.2) hcp)
  have HRD := Lib.hid hr
  have HFR : Hid (∀ y, a = some y → 0 < n → ¬ S y.block ∧ y.block < w.heap.size) := Lib.hid hfr
  clear h hr hfr
  obtain ⟨b0, b1, b2, b3, b4, -⟩ := HBX.out
  generalize rightB ⟨i, nd, num, dl, gs⟩ = RB at *
  go_enter Try.func35, Try.ntmps35
  go_upto_region 1 with fail
  simp only [← hw, ← hg]
  clear hw hg
  go_wp2_with fail
  refine HIS.out.mono ?_
  rintro _ w2 ⟨rfl, ho⟩
  have HO2 := Lib.hid (HBX.out.2.2.2.2.2.trans ho)
  have HX2 : Hid (∀ w', Only (fun _ => False) w2 w' → w'.cell? ⟨g, 0, none⟩ = some (.int .i64 i) ∧ w'.cell? ⟨g, 1, none⟩ = some (.int .i64 nd) ∧ w'.cell? ⟨g, 2, none⟩ = some (.int .i64 num) ∧ w'.cell? ⟨g, 3, none⟩ = some (.int .i64 dl) ∧ w'.cell? ⟨g, 4, none⟩ = some (.slice a n c)) := Lib.hid (fun w' ho2 => ⟨(ho.trans ho2).cell' HBX.out.1 (fun f => f), (ho.trans ho2).cell' HBX.out.2.1 (fun f => f), (ho.trans ho2).cell' HBX.out.2.2.1 (fun f => f), (ho.trans ho2).cell' HBX.out.2.2.2.1 (fun f => f), (ho.trans ho2).cell' HBX.out.2.2.2.2.1 (fun f => f)⟩)
  clear ho b0 b1 b2 b3 b4 HIS
  cases RB
  · have HE : Hid (AE = 1) := Lib.hid (by rw [HAE.out, if_neg (by decide)])
    clear HAE
    go_wp2_with fail
    go_ret
    exact HNO.out _ 1 (by decide) HE.out HO2.out
  replace HAE := Lib.hid (by have h := HAE.out; rw [if_pos rfl] at h; exact h)
  have HF := Lib.hid (rfind_any p places last v L i w2 (HCT.out.quiet HO2.out))
  have HX := Lib.hid (sIdx_lt i (L.map Sd.sx))
  generalize sIdx i 0 (L.map Sd.sx) = kk at *
  obtain ⟨q0, q1, q2, q3, q4⟩ := HX2.out w2 (Only.refl _ _)
  go_wp2_with fail
  refine HF.out.mono ?_
  rintro _ w3 ⟨rfl, rfl⟩
  have HO3 := HO2
  clear HF q0 q1 q2 q3 q4
  rename World => w3
  rcases HX.out with ⟨hk, -⟩ | ⟨k, hkl, rfl, -⟩
  · have HE : Hid (AE = 7) := Lib.hid (by rw [HAE.out, if_pos hk])
    clear HAE HX
    go_wp2_with fail
    go_ret
    exact HNO.out _ 7 (by decide) HE.out HO3.out
  have hkn0 : ¬ (k : Int) < 0 := by omega
  have HE : Hid (AE = 0) := Lib.hid (by rw [HAE.out, if_neg hkn0])
  replace HSL := Lib.hid (by have h := HSL.out; rw [HE.out, if_pos rfl, Int.toNat_natCast] at h; exact h)
  clear HAE HX HNO
  rw [List.length_map] at hkl
  have hkn := hkl
  clear hkl
  obtain ⟨b, cap, rfl, hcc, -, -, -⟩ := HCT.out.at hkn
  have hl16 : L.length ≤ 16 := HCT.out.len
  have hki : (0 : Int) ≤ (k : Int) := by omega
  have hkl : (k : Int) < (L.length : Int) := by omega
  have hbp : b ≠ p := fun e => HCT.out.np (by simp [Value.ownBlock, e])
  have HCE : Hid (SCells w b L.length L) := Lib.hid (by
    obtain ⟨a2, c2, e, -, -, -, hr2, -⟩ := own_S HCT.out.own
    injection e with e1 e2 e3
    obtain ⟨g2, e4, hc⟩ := hr2.resolve_left (by omega)
    rw [← e1] at e4
    injection e4 with e4
    injection e4 with e4
    subst e4
    exact hc)
  have HS6 : Hid (∀ w', Only (fun _ => False) w3 w' → w'.cell? ⟨g, 0, none⟩ = some (.int .i64 i) ∧ w'.cell? ⟨g, 1, none⟩ = some (.int .i64 nd) ∧ w'.cell? ⟨g, 2, none⟩ = some (.int .i64 num) ∧ w'.cell? ⟨g, 3, none⟩ = some (.int .i64 dl) ∧ w'.cell? ⟨g, 4, none⟩ = some (.slice a n c) ∧ w'.cell? ⟨p, 2, none⟩ = some (.slice (some ⟨b, 0, none⟩) L.length cap)) := Lib.hid (fun w' ho2 => by
    obtain ⟨q0, q1, q2, q3, q4⟩ := HX2.out w' ho2
    exact ⟨q0, q1, q2, q3, q4, (HCT.out.quiet (HO3.out.trans ho2)).c2⟩)
  clear HX2
  go_upto_region 6 with fail
  refine wp_region_noPanic ?_
  refine late.region (fun w' => w'.cell? ⟨g, 0, none⟩ = some (.int .i64 i) ∧ w'.cell? ⟨g, 1, none⟩ = some (.int .i64 nd) ∧ w'.cell? ⟨g, 2, none⟩ = some (.int .i64 num) ∧ w'.cell? ⟨g, 3, none⟩ = some (.int .i64 dl) ∧ w'.cell? ⟨g, 4, none⟩ = some (.slice a n c) ∧ w'.cell? ⟨p, 2, none⟩ = some (.slice (some ⟨b, 0, none⟩) L.length cap)) (fun j => [7].contains j) (by kernel_rfl) (HS6.out _ (Only.refl _ _).drew) (fun hHeld => ?_)
  obtain ⟨y0, hy0⟩ : ∃ x, x = w3.drew := ⟨_, rfl⟩
  rw [← hy0] at hHeld ⊢
  have hot : Hid (Only (fun _ => False) w3 y0) := Lib.hid (by rw [hy0]; exact (Only.refl _ _).drew)
  have hct := HCT.out.quiet (HO3.out.trans hot.out)
  have hf0 := hct.own.frozen (k * 5)
  have hf1 := hct.own.frozen (k * 5 + 1)
  have hf2 := hct.own.frozen (k * 5 + 2)
  have hf3 := hct.own.frozen (k * 5 + 3)
  have hf4 := hct.own.frozen (k * 5 + 4)
  have hcs := SCells.only HCE.out (HO3.out.trans hot.out) (fun f => f)
  obtain ⟨ye0, ye1, ye2, ye3, ye4⟩ := hcs k hkn
  clear hy0 hct hcs
  refine late.take (i := 0) [1, 2, 3, 6, 7] (v := ?_) rfl (by kernel_rfl) (by kernel_rfl) (by kernel_rfl) (by kernel_rfl) (fun _ _ _ h => h) (Or.inl ⟨by rfl, ?_⟩) (by assumption) ?_
  rotate_left 1
  · intro w' hSw
    try dsimp only at hSw
    go_simp
    try with_reducible rfl
  try simp only [List.getElem_toArray, List.getElem_cons_zero, Act.put, List.setIfInBounds_toArray, List.set_cons_zero, List.set_cons_succ]
  refine late.take (i := 1) [2, 3, 6, 7] (v := ?_) rfl (by kernel_rfl) (by kernel_rfl) (by kernel_rfl) (by kernel_rfl) (fun _ _ _ h => h) (Or.inl ⟨by rfl, ?_⟩) (by assumption) ?_
  rotate_left 1
  · intro w' hSw
    try dsimp only at hSw
    go_simp
    try with_reducible rfl
  try simp only [List.getElem_toArray, List.getElem_cons_zero, List.getElem_cons_succ, Act.put, List.setIfInBounds_toArray, List.set_cons_zero, List.set_cons_succ]
  refine late.take (i := 2) [3, 6, 7] (v := ?_) rfl (by kernel_rfl) (by kernel_rfl) (by kernel_rfl) (by kernel_rfl) (fun _ _ _ h => h) (Or.inl ⟨by rfl, ?_⟩) (by assumption) ?_
  rotate_left 1
  · intro w' hSw
    try dsimp only at hSw
    go_simp
    try with_reducible rfl
  try simp only [List.getElem_toArray, List.getElem_cons_zero, List.getElem_cons_succ, Act.put, List.setIfInBounds_toArray, List.set_cons_zero, List.set_cons_succ]
  refine late.take (i := 3) [6, 7] (v := ?_) rfl (by kernel_rfl) (by kernel_rfl) (by kernel_rfl) (by kernel_rfl) (fun _ _ _ h => h) (Or.inl ⟨by rfl, ?_⟩) (by assumption) ?_
  rotate_left 1
  · intro w' hSw
    try dsimp only at hSw
    go_simp
    try with_reducible rfl
  try simp only [List.getElem_toArray, List.getElem_cons_zero, List.getElem_cons_succ, Act.put, List.setIfInBounds_toArray, List.set_cons_zero, List.set_cons_succ]
  refine late.take (i := 4) [6, 7] (v := ?_) rfl (by kernel_rfl) (by kernel_rfl) (by kernel_rfl) (by kernel_rfl) (fun _ _ _ h => h) (Or.inl ⟨by rfl, ?_⟩) (by assumption) ?_
  rotate_left 1
  · intro w' hSw
    try dsimp only at hSw
    go_simp
    try with_reducible rfl
  try simp only [List.getElem_toArray, List.getElem_cons_zero, List.getElem_cons_succ, Act.put, List.setIfInBounds_toArray, List.set_cons_zero, List.set_cons_succ]
  refine late.take (i := 5) [6, 7] (v := ?_) rfl (by kernel_rfl) (by kernel_rfl) (by kernel_rfl) (by kernel_rfl) (fun _ _ _ h => h) (Or.inl ⟨by rfl, ?_⟩) (by assumption) ?_
  rotate_left 1
  · intro w' hSw
    try dsimp only at hSw
    go_simp
    try with_reducible rfl
  try simp only [List.getElem_toArray, List.getElem_cons_zero, List.getElem_cons_succ, Act.put, List.setIfInBounds_toArray, List.set_cons_zero, List.set_cons_succ]
  refine late.take (i := 6) [7] (v := ?_) rfl (by kernel_rfl) (by kernel_rfl) (by kernel_rfl) (by kernel_rfl) (fun _ _ _ h => h) (Or.inl ⟨by rfl, ?_⟩) (by assumption) ?_
  rotate_left 1
  · intro w' hSw
    try dsimp only at hSw
    go_simp
    try with_reducible rfl
  try simp only [List.getElem_toArray, List.getElem_cons_zero, List.getElem_cons_succ, Act.put, List.setIfInBounds_toArray, List.set_cons_zero, List.set_cons_succ]
  refine late.ready (rs := [7]) (by kernel_rfl) (by simp) ?_
  refine late.Each.cons rfl (fun K hK => ?_) late.Each.nil
  try simp only [List.getElem_toArray, List.getElem_cons_zero, List.getElem_cons_succ]
  go_simp
  refine hK.out _ _ (fun h => by cases h) (fun _ => ?_)
  clear hK K
  try simp only [List.getElem_toArray, List.getElem_cons_zero, List.getElem_cons_succ, Act.put, List.setIfInBounds_toArray, List.set_cons_zero, List.set_cons_succ]
  refine late.done (by kernel_rfl) ?_ _
  refine NoPanic.normal ?_
  have H9 := Lib.hid (HO3.out.trans hot.out)
  have hct := HCT.out.quiet H9.out
  obtain ⟨hput, hpo⟩ := hct.own.put k (⟨i, nd, num, dl, a, n, c, gs⟩ : Sd) hkn
  obtain ⟨w6, hw6⟩ : ∃ x, x = putsR b (k * (ES 50).z) ((ES 50).enc (⟨i, nd, num, dl, a, n, c, gs⟩ : Sd)) y0 := ⟨_, rfl⟩
  rw [← hw6] at hput hpo
  have hnb : ¬ p = b := fun e => hbp e.symm
  have hpo9 : Only (fun x => x = p ∨ (.slice (some ⟨b, 0, none⟩) L.length cap : Value).ownBlock = some x) y0 w6 := hpo.mono (fun x _ e => .inr (by have e : x = b := e; rw [e]; rfl))
  have HKD := Lib.hid (grin_gen (S' := DSet S a w) (d := (⟨i, nd, num, dl, a, n, c, gs⟩ : Sd)) HCT.out H9.out hpo9 (v' := .slice (some ⟨b, 0, none⟩) L.length cap) (fun x e => .inl e) (fun q s => .inl s) ⟨HRD.out.quiet H9.out, hcp⟩ (fun y e hn => ⟨Nat.lt_of_lt_of_le (HFR.out y e hn).2 H9.out.size, .inr (.inl ⟨y, e, rfl⟩), fun e2 => (HFR.out y e hn).1 (by rw [e2]; exact HCT.out.sp), fun e2 => (HFR.out y e hn).1 (HCT.out.sv _ e2)⟩))
  have HEND : Hid (DT (DSet S a w) w6 p places last (.slice (some ⟨b, 0, none⟩) L.length cap) (L.set k (⟨i, nd, num, dl, a, n, c, gs⟩ : Sd))) := Lib.hid ⟨hpo.cell' hct.c0 hnb, hpo.cell' hct.c1 hnb, hpo.cell' hct.c2 hnb, (hpo.frozen (p := ⟨p, 1, none⟩) hct.lt hnb).trans hct.f1, (hpo.frozen (p := ⟨p, 2, none⟩) hct.lt hnb).trans hct.f2, hput, HCT.out.np, (by rw [List.length_set]; exact HCT.out.len), .inl HCT.out.sp, (fun q e => .inl (HCT.out.sv q e)), (fun x hx => HKD.out x ((List.mem_or_eq_of_mem_set hx))), fun e => by cases e⟩
  have HOS : Hid (Only S w w6) := Lib.hid (((H9.out.mono (fun _ _ f => f.elim)).trans hpo9).mono (fun k hk e => e.elim (fun e => by rw [e]; exact HCT.out.sp) (fun e => HCT.out.sv k e)))
  clear hct hput hpo hpo9 hHeld hf0 hf1 hf2 hf3 hf4 ye0 ye1 ye2 ye3 ye4
  simp only [putsR, ES, encS, Nat.add_assoc, Nat.reduceAdd] at hw6
  go_wp2_with fail
  rw [← hw6]
  go_ret
  exact ⟨by rw [HE.out]; rfl, ⟨_, L.set k (⟨i, nd, num, dl, a, n, c, gs⟩ : Sd), by rw [HSL.out, List.map_set]; rfl, HEND.out⟩, HOS.out⟩
end Go.Proofs.Ythflglejhhebeaa.cs
