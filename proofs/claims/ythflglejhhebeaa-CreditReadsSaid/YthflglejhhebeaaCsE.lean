/- Sessions with grants: Set, End, Get; the law's own example. -/
import Derived.Test.YthflglejhhebeaaCsD
import Derived.Test.YthflglejhhebeaaCrDel
namespace Go.Proofs.Ythflglejhhebeaa.cs
open Go.RowKit mem rwg
set_option linter.unusedVariables false

theorem sIdx_lt (g : Int) (l : List Sx) : (sIdx g 0 l < 0 ∧ sIdx g 0 l = -1) ∨ ∃ k : Nat, k < l.length ∧ sIdx g 0 l = (k : Int) ∧ (l.getD k default).i = g := by
  rcases sIdx_cases g l 0 with ⟨h, _⟩ | ⟨k, h1, h2, h3⟩
  · rw [show ((0 : Nat) : Int) = 0 from rfl] at h; exact .inl ⟨by omega, h⟩
  · rw [show ((0 : Nat) : Int) = 0 from rfl, Nat.zero_add] at h2; exact .inr ⟨k, h1, h2, h3⟩
set_option maxRecDepth 100000 in
set_option maxHeartbeats 8000000 in
theorem cset_any {S : Nat → Prop} (p : Nat) (places last : Int) (v : Value) (L : List Sd) (i nd num dl : Int) (a : Option Addr) (n c : Nat) (gs : List Gr) (w : World) (h : PT S w p places last v L) (hr : ReadsG w a n gs) (hcp : Cp a n c) (hz : n = 0 → a = none ∧ c = 0) : Calls Try.prog 11 #[.pointer (some ⟨p, 0, none⟩), .agg #[.int .i64 i, .int .i64 nd, .int .i64 num, .int .i64 dl, .slice a n c]] w fun e w' => e = .returned (.int .i64 (setE (L.map Sd.sx) ⟨i, nd, num, dl, gs⟩)) ∧ TRes S p places last (setL (L.map Sd.sx) ⟨i, nd, num, dl, gs⟩) w w' := by
  obtain ⟨AE, hAE⟩ : ∃ x, x = setE (L.map Sd.sx) ⟨i, nd, num, dl, gs⟩ := ⟨_, rfl⟩
  obtain ⟨SL, hSL⟩ : ∃ x, x = setL (L.map Sd.sx) ⟨i, nd, num, dl, gs⟩ := ⟨_, rfl⟩
  rw [← hSL, ← hAE]
  unfold setL at hSL
  rw [← hAE] at hSL
  have HSL := Lib.hid hSL
  unfold setE at hAE
  dsimp only at hAE
  have HAE := Lib.hid hAE
  clear hAE hSL
  have HNO : Hid (∀ w' E, E ≠ 0 → AE = E → Only (fun _ => False) w w' → Ending.returned (.int .i64 E) = .returned (.int .i64 AE) ∧ TRes S p places last SL w w') := Lib.hid (fun w' E hE e ho => by rw [HSL.out, e, if_neg hE]; exact ⟨rfl, TRes.same h ho⟩)
  obtain ⟨w1, hw⟩ : ∃ x, x = w.alloc (.cells #[.int .i64 i, .int .i64 nd, .int .i64 num, .int .i64 dl, .slice a n c] 25) := ⟨_, rfl⟩
  obtain ⟨g, hg⟩ : ∃ x, x = w.heap.size := ⟨_, rfl⟩
  have HBX := Lib.hid (sbox hw hg)
  have HCT := Lib.hid h
  have hgp : g ≠ p := by have := h.lt; omega
  have HIS := Lib.hid (issess_any i nd num dl a n c gs w1 (hr.quiet HBX.out.2.2.2.2.2) hcp)
  have HRD := Lib.hid hr
  have HSX : Hid (n ≤ 1000 ∨ rightB ⟨i, nd, num, dl, gs⟩ = false) := Lib.hid (by
    cases hb : rightB ⟨i, nd, num, dl, gs⟩
    · exact .inr rfl
    · left
      have h1 := grsB_len ((rightB_iff _).1 hb).2.2.2.2.2.2
      have h2 := hr.1
      dsimp only at h1
      omega)
  clear h hr
  obtain ⟨b0, b1, b2, b3, b4, -⟩ := HBX.out
  generalize rightB ⟨i, nd, num, dl, gs⟩ = RB at *
  go_enter Try.func11, Try.ntmps11
  go_upto_region 1 with fail
  simp only [← hw, ← hg]
  clear hw hg
  go_wp2_with fail
  refine HIS.out.mono ?_
  rintro _ w2 ⟨rfl, ho⟩
  have HO2 := Lib.hid (HBX.out.2.2.2.2.2.trans ho)
  have HX2 : Hid (∀ w', Only (fun _ => False) w2 w' → w'.cell? ⟨g, 0, none⟩ = some (.int .i64 i) ∧ w'.cell? ⟨g, 1, none⟩ = some (.int .i64 nd) ∧ w'.cell? ⟨g, 2, none⟩ = some (.int .i64 num) ∧ w'.cell? ⟨g, 3, none⟩ = some (.int .i64 dl) ∧ w'.cell? ⟨g, 4, none⟩ = some (.slice a n c)) := Lib.hid (fun w' ho2 => ⟨(ho.trans ho2).cell' HBX.out.1 (fun f => f), (ho.trans ho2).cell' HBX.out.2.1 (fun f => f), (ho.trans ho2).cell' HBX.out.2.2.1 (fun f => f), (ho.trans ho2).cell' HBX.out.2.2.2.1 (fun f => f), (ho.trans ho2).cell' HBX.out.2.2.2.2.1 (fun f => f)⟩)
  clear ho b0 b1 b2 b3 b4 HIS
  cases RB
  · have HE : Hid (AE = 1) := Lib.hid (by rw [HAE.out, if_neg (by decide)])
    clear HAE
    go_wp2_with fail
    go_ret
    exact HNO.out _ 1 (by decide) HE.out HO2.out
  replace HAE := Lib.hid (by have h := HAE.out; rw [if_pos rfl] at h; exact h)
  have hn1 : n ≤ 1000 := HSX.out.resolve_right (by decide)
  have HF := Lib.hid (cfind_any p places last v L i w2 (HCT.out.quiet HO2.out))
  have HX := Lib.hid (sIdx_lt i (L.map Sd.sx))
  generalize sIdx i 0 (L.map Sd.sx) = kk at *
  obtain ⟨q0, q1, q2, q3, q4⟩ := HX2.out w2 (Only.refl _ _)
  go_wp2_with fail
  refine HF.out.mono ?_
  rintro _ w3 ⟨rfl, ho3⟩
  have HO3 := Lib.hid (HO2.out.trans ho3)
  replace HX2 : Hid (∀ w', Only (fun _ => False) w3 w' → _) := Lib.hid (fun w' (ho2 : Only (fun _ => False) w3 w') => HX2.out w' (ho3.trans ho2))
  clear ho3 HF q0 q1 q2 q3 q4
  rcases HX.out with ⟨hk, -⟩ | ⟨k, hkl, rfl, -⟩
  · have HE : Hid (AE = 7) := Lib.hid (by rw [HAE.out, if_pos hk])
    rw [if_pos hk, if_pos hk]
    clear HAE HX
    go_wp2_with fail
    go_ret
    exact HNO.out _ 7 (by decide) HE.out HO3.out
  have hkn0 : ¬ (k : Int) < 0 := by omega
  have HE : Hid (AE = 0) := Lib.hid (by rw [HAE.out, if_neg hkn0])
  rw [if_neg hkn0, if_neg hkn0]
  replace HSL := Lib.hid (by have h := HSL.out; rw [HE.out, if_pos rfl, Int.toNat_natCast] at h; exact h)
  clear HAE HX HNO
  rw [List.length_map] at hkl
  have hkn := hkl
  clear hkl
  obtain ⟨b, cap, rfl, hcc, -, -, -⟩ := HCT.out.at hkn
  have hl16 : L.length ≤ 16 := HCT.out.len
  have hki : (0 : Int) ≤ (k : Int) := by omega
  have hkl : (k : Int) < (L.length : Int) := by omega
  have hbp : b ≠ p := fun e => HCT.out.np (by simp [Value.ownBlock, e])
  have HCE : Hid (SCells w b L.length L) := Lib.hid (by
    obtain ⟨a2, c2, e, -, -, -, hr2, -⟩ := own_S HCT.out.own
    injection e with e1 e2 e3
    obtain ⟨g2, e4, hc⟩ := hr2.resolve_left (by omega)
    rw [← e1] at e4
    injection e4 with e4
    injection e4 with e4
    subst e4
    exact hc)
  have HS6 : Hid (∀ w', Only (fun _ => False) w3 w' → w'.cell? ⟨g, 0, none⟩ = some (.int .i64 i) ∧ w'.cell? ⟨g, 1, none⟩ = some (.int .i64 nd) ∧ w'.cell? ⟨g, 2, none⟩ = some (.int .i64 num) ∧ w'.cell? ⟨g, 3, none⟩ = some (.int .i64 dl) ∧ w'.cell? ⟨g, 4, none⟩ = some (.slice a n c) ∧ w'.cell? ⟨p, 2, none⟩ = some (.slice (some ⟨b, 0, none⟩) L.length cap)) := Lib.hid (fun w' ho2 => by
    obtain ⟨q0, q1, q2, q3, q4⟩ := HX2.out w' ho2
    exact ⟨q0, q1, q2, q3, q4, (HCT.out.quiet (HO3.out.trans ho2)).c2⟩)
  have HCL : Hid (∀ w', Only (fun _ => False) w3 w' → _) := Lib.hid (fun w' (ho2 : Only (fun _ => False) w3 w') => sclone_any i nd num dl a n c gs w' (HRD.out.quiet (HO3.out.trans ho2)) hn1 hz)
  clear HX2
  go_upto_region 6 with fail
  refine wp_region_noPanic ?_
  refine late.region (fun w' => w'.cell? ⟨g, 0, none⟩ = some (.int .i64 i) ∧ w'.cell? ⟨g, 1, none⟩ = some (.int .i64 nd) ∧ w'.cell? ⟨g, 2, none⟩ = some (.int .i64 num) ∧ w'.cell? ⟨g, 3, none⟩ = some (.int .i64 dl) ∧ w'.cell? ⟨g, 4, none⟩ = some (.slice a n c) ∧ w'.cell? ⟨p, 2, none⟩ = some (.slice (some ⟨b, 0, none⟩) L.length cap)) (fun j => [8].contains j) (by kernel_rfl) (HS6.out _ (Only.refl _ _).drew) (fun hHeld => ?_)
  obtain ⟨y0, hy0⟩ : ∃ x, x = w3.drew := ⟨_, rfl⟩
  rw [← hy0] at hHeld ⊢
  have hot : Hid (Only (fun _ => False) w3 y0) := Lib.hid (by rw [hy0]; exact (Only.refl _ _).drew)
  clear hy0
  refine late.take (i := 0) [1, 2, 3, 7, 8] (v := ?_) rfl (by kernel_rfl) (by kernel_rfl) (by kernel_rfl) (by kernel_rfl) (fun _ _ _ h => h) (Or.inl ⟨by rfl, ?_⟩) (by assumption) ?_
  rotate_left 1
  · intro w' hSw
    try dsimp only at hSw
    go_simp
    try with_reducible rfl
  try simp only [List.getElem_toArray, List.getElem_cons_zero, Act.put, List.setIfInBounds_toArray, List.set_cons_zero, List.set_cons_succ]
  refine late.take (i := 1) [2, 3, 7, 8] (v := ?_) rfl (by kernel_rfl) (by kernel_rfl) (by kernel_rfl) (by kernel_rfl) (fun _ _ _ h => h) (Or.inl ⟨by rfl, ?_⟩) (by assumption) ?_
  rotate_left 1
  · intro w' hSw
    try dsimp only at hSw
    go_simp
    try with_reducible rfl
  try simp only [List.getElem_toArray, List.getElem_cons_zero, List.getElem_cons_succ, Act.put, List.setIfInBounds_toArray, List.set_cons_zero, List.set_cons_succ]
  refine late.take (i := 2) [3, 7, 8] (v := ?_) rfl (by kernel_rfl) (by kernel_rfl) (by kernel_rfl) (by kernel_rfl) (fun _ _ _ h => h) (Or.inl ⟨by rfl, ?_⟩) (by assumption) ?_
  rotate_left 1
  · intro w' hSw
    try dsimp only at hSw
    go_simp
    try with_reducible rfl
  try simp only [List.getElem_toArray, List.getElem_cons_zero, List.getElem_cons_succ, Act.put, List.setIfInBounds_toArray, List.set_cons_zero, List.set_cons_succ]
  refine late.take (i := 3) [7, 8] (v := ?_) rfl (by kernel_rfl) (by kernel_rfl) (by kernel_rfl) (by kernel_rfl) (fun _ _ _ h => h) (Or.inl ⟨by rfl, ?_⟩) (by assumption) ?_
  rotate_left 1
  · intro w' hSw
    try dsimp only at hSw
    go_simp
    try with_reducible rfl
  try simp only [List.getElem_toArray, List.getElem_cons_zero, List.getElem_cons_succ, Act.put, List.setIfInBounds_toArray, List.set_cons_zero, List.set_cons_succ]
  refine late.take (i := 4) [7, 8] (v := ?_) rfl (by kernel_rfl) (by kernel_rfl) (by kernel_rfl) (by kernel_rfl) (fun _ _ _ h => h) (Or.inl ⟨by rfl, ?_⟩) (by assumption) ?_
  rotate_left 1
  · intro w' hSw
    try dsimp only at hSw
    go_simp
    try with_reducible rfl
  try simp only [List.getElem_toArray, List.getElem_cons_zero, List.getElem_cons_succ, Act.put, List.setIfInBounds_toArray, List.set_cons_zero, List.set_cons_succ]
  refine late.take (i := 5) [6, 7, 8] (v := ?_) rfl (by kernel_rfl) (by kernel_rfl) (by kernel_rfl) (by kernel_rfl) (fun _ _ _ h => h) (Or.inl ⟨by rfl, ?_⟩) (by assumption) ?_
  rotate_left 1
  · intro w' hSw
    try dsimp only at hSw
    go_simp
    try with_reducible rfl
  try simp only [List.getElem_toArray, List.getElem_cons_zero, List.getElem_cons_succ, Act.put, List.setIfInBounds_toArray, List.set_cons_zero, List.set_cons_succ]
  refine late.ready (rs := [6]) (by kernel_rfl) (by simp) ?_
  refine late.Each.cons rfl (fun K hK => ?_) late.Each.nil
  try simp only [List.getElem_toArray, List.getElem_cons_zero, List.getElem_cons_succ]
  go_simp
  go_at_call 25
  with_reducible refine (HCL.out _ hot.out).mono ?_
  rintro _ W1 ⟨xa, xc, rfl, hgc⟩
  have HGC := Lib.hid hgc
  replace HGC : Hid ((ReadsG W1 xa n gs ∧ Cp xa n xc ∧ (∀ y, xa = some y → w.heap.size ≤ y.block ∧ y.block < W1.heap.size) ∧ (n = 0 → xa = none ∧ xc = 0))) := Lib.hid ⟨HGC.out.1, HGC.out.2.1, fun y e => ⟨Nat.le_trans (HO3.out.trans hot.out).size (HGC.out.2.2.1 y e).1, (HGC.out.2.2.1 y e).2⟩, HGC.out.2.2.2.1⟩
  replace hot := Lib.hid (hot.out.trans hgc.2.2.2.2)
  have hct := HCT.out.quiet (HO3.out.trans hot.out)
  have hf0 := hct.own.frozen (k * 5)
  have hf1 := hct.own.frozen (k * 5 + 1)
  have hf2 := hct.own.frozen (k * 5 + 2)
  have hf3 := hct.own.frozen (k * 5 + 3)
  have hf4 := hct.own.frozen (k * 5 + 4)
  have hcs := SCells.only HCE.out (HO3.out.trans hot.out) (fun f => f)
  obtain ⟨ye0, ye1, ye2, ye3, ye4⟩ := hcs k hkn
  clear hgc hct hcs
  try dsimp only
  refine hK.out _ _ (fun _ => HS6.out _ hot.out) (fun hHeld1 => ?_)
  replace hHeld1 := hHeld1 rfl
  clear hK K
  try simp only [List.getElem_toArray, List.getElem_cons_zero, List.getElem_cons_succ, Act.put, List.setIfInBounds_toArray, List.set_cons_zero, List.set_cons_succ]
  refine late.take (i := 7) [8] (v := ?_) rfl (by kernel_rfl) (by kernel_rfl) (by kernel_rfl) (by kernel_rfl) (fun _ _ _ h => h) (Or.inl ⟨by rfl, ?_⟩) (by assumption) ?_
  rotate_left 1
  · intro w' hSw
    try dsimp only at hSw
    go_simp
    try with_reducible rfl
  try simp only [List.getElem_toArray, List.getElem_cons_zero, List.getElem_cons_succ, Act.put, List.setIfInBounds_toArray, List.set_cons_zero, List.set_cons_succ]
  refine late.ready (rs := [8]) (by kernel_rfl) (by simp) ?_
  refine late.Each.cons rfl (fun K hK => ?_) late.Each.nil
  try simp only [List.getElem_toArray, List.getElem_cons_zero, List.getElem_cons_succ]
  go_simp
  refine hK.out _ _ (fun h => by cases h) (fun _ => ?_)
  clear hK K
  try simp only [List.getElem_toArray, List.getElem_cons_zero, List.getElem_cons_succ, Act.put, List.setIfInBounds_toArray, List.set_cons_zero, List.set_cons_succ]
  refine late.done (by kernel_rfl) ?_ _
  refine NoPanic.normal ?_
  have H9 := Lib.hid (HO3.out.trans hot.out)
  have hct := HCT.out.quiet H9.out
  obtain ⟨hput, hpo⟩ := hct.own.put k (⟨i, nd, num, dl, xa, n, xc, gs⟩ : Sd) hkn
  obtain ⟨w6, hw6⟩ : ∃ x, x = putsR b (k * (ES 25).z) ((ES 25).enc (⟨i, nd, num, dl, xa, n, xc, gs⟩ : Sd)) W1 := ⟨_, rfl⟩
  rw [← hw6] at hput hpo
  have hnb : ¬ p = b := fun e => hbp e.symm
  have hpo9 : Only (fun x => x = p ∨ (.slice (some ⟨b, 0, none⟩) L.length cap : Value).ownBlock = some x) W1 w6 := hpo.mono (fun x _ e => .inr (by have e : x = b := e; rw [e]; rfl))
  have HKD := Lib.hid (grin_more (d := (⟨i, nd, num, dl, xa, n, xc, gs⟩ : Sd)) HCT.out H9.out hpo9 (v' := .slice (some ⟨b, 0, none⟩) L.length cap) (fun x e => .inl e) ⟨HGC.out.1, HGC.out.2.1⟩ (fun y e _ => HGC.out.2.2.1 y e))
  have HEND : Hid (PT (fun q => S q ∨ w.heap.size ≤ q) w6 p places last (.slice (some ⟨b, 0, none⟩) L.length cap) (L.set k (⟨i, nd, num, dl, xa, n, xc, gs⟩ : Sd))) := Lib.hid ⟨hpo.cell' hct.c0 hnb, hpo.cell' hct.c1 hnb, hpo.cell' hct.c2 hnb, (hpo.frozen (p := ⟨p, 1, none⟩) hct.lt hnb).trans hct.f1, (hpo.frozen (p := ⟨p, 2, none⟩) hct.lt hnb).trans hct.f2, hput, HCT.out.np, (by rw [List.length_set]; exact HCT.out.len), .inl HCT.out.sp, (fun q e => .inl (HCT.out.sv q e)), (fun x hx => HKD.out x ((List.mem_or_eq_of_mem_set hx))), (fun _ x hx => (List.mem_or_eq_of_mem_set hx).elim (fun y => HCT.out.nz rfl x y) (fun y => by rw [y]; exact HGC.out.2.2.2))⟩
  have HOS : Hid (Only S w w6) := Lib.hid (((H9.out.mono (fun _ _ f => f.elim)).trans hpo9).mono (fun k hk e => e.elim (fun e => by rw [e]; exact HCT.out.sp) (fun e => HCT.out.sv k e)))
  clear hct hput hpo hpo9 hHeld hf0 hf1 hf2 hf3 hf4 ye0 ye1 ye2 ye3 ye4
  simp only [putsR, ES, encS, Nat.add_assoc, Nat.reduceAdd] at hw6
  go_wp2_with fail
  rw [← hw6]
  go_ret
  exact ⟨by rw [HE.out]; rfl, ⟨_, L.set k (⟨i, nd, num, dl, xa, n, xc, gs⟩ : Sd), by rw [HSL.out, List.map_set]; rfl, HEND.out⟩, HOS.out⟩
theorem eraseIdx_two {α : Type} (l : List α) (k : Nat) : l.take k ++ l.drop (k + 1) = l.eraseIdx k := (List.eraseIdx_eq_take_drop_succ l k).symm
set_option maxRecDepth 100000 in
set_option maxHeartbeats 4000000 in
theorem cend_any {S : Nat → Prop} (p : Nat) (places last : Int) (v : Value) (L : List Sd) (g : Int) (w : World) (h : PT S w p places last v L) : Calls Try.prog 12 #[.pointer (some ⟨p, 0, none⟩), .int .i64 g] w fun e w' => e = .returned (.int .i64 (endE (L.map Sd.sx) g)) ∧ TRes S p places last (endL (L.map Sd.sx) g) w w' := by
  have HF := Lib.hid (cfind_any p places last v L g w h)
  have HCT := Lib.hid h
  have HX := Lib.hid (sIdx_lt g (L.map Sd.sx))
  obtain ⟨AE, hAE⟩ : ∃ x, x = endE (L.map Sd.sx) g := ⟨_, rfl⟩
  obtain ⟨SL, hSL⟩ : ∃ x, x = endL (L.map Sd.sx) g := ⟨_, rfl⟩
  rw [← hSL, ← hAE]
  unfold endL at hSL
  rw [← hAE] at hSL
  have HSL := Lib.hid hSL
  unfold endE at hAE
  have HAE := Lib.hid hAE
  clear hAE hSL
  have HNO : Hid (∀ w' E, E ≠ 0 → AE = E → Only (fun _ => False) w w' → Ending.returned (.int .i64 E) = .returned (.int .i64 AE) ∧ TRes S p places last SL w w') := Lib.hid (fun w' E hE e ho => by rw [HSL.out, e, if_neg hE]; exact ⟨rfl, TRes.same HCT.out ho⟩)
  generalize sIdx g 0 (L.map Sd.sx) = kk at *
  rcases HX.out with ⟨hk, -⟩ | ⟨k, hkl, rfl, -⟩
  · have HE : Hid (AE = 7) := Lib.hid (by rw [HAE.out, if_pos hk])
    rw [if_pos hk, if_pos hk] at HF
    clear HAE HX hk h
    go_enter Try.func12, Try.ntmps12
    go_wp2_with fail
    refine HF.out.mono ?_
    rintro _ w1 ⟨rfl, k1⟩
    have K1 := Lib.hid k1
    clear k1
    go_wp2_with fail
    go_ret
    exact HNO.out _ 7 (by decide) HE.out K1.out
  · have hkn0 : ¬ (k : Int) < 0 := by omega
    have HE : Hid (AE = 0) := Lib.hid (by rw [HAE.out, if_neg hkn0])
    rw [if_neg hkn0, if_neg hkn0] at HF
    replace HSL := Lib.hid (by have h := HSL.out; rw [HE.out, if_pos rfl, Int.toNat_natCast] at h; exact h)
    clear HAE HX HNO
    rw [List.length_map] at hkl
    obtain ⟨q, cap, rfl, hc, -, -, -⟩ := HCT.out.at hkl
    have hpq : q ≠ p := fun e => h.np (by simp [Value.ownBlock, e])
    have hlen : (L.eraseIdx k).length = k + (L.length - (k + 1)) := by rw [← eraseIdx_two, List.length_append, List.length_take, List.length_drop]; omega
    have hlen1 : (L.eraseIdx k).length ≤ L.length := by omega
    have HDL : Hid (∀ w', Only (fun _ => False) w w' → Calls Try.prog 30 #[.slice (some ⟨q, 0, none⟩) L.length cap, .int .i64 k, .int .i64 ((k : Int) + 1)] w' fun e w'' => e = .returned (.slice (some ⟨q, 0, none⟩) (L.eraseIdx k).length cap) ∧ OwnR (ES 25) w'' (.slice (some ⟨q, 0, none⟩) (L.eraseIdx k).length cap) (L.eraseIdx k) ∧ Only (fun x => x = q) w' w'') := Lib.hid (fun w' ho => by
      have hd := crd.cdel_any q L.length cap (gv (ES 25) L) k (k + 1) (by omega) (by omega) (gv_one _ L) w' (h.own.quiet ho)
      have e1 : (gv (ES 25) L).take (k * 5) ++ (gv (ES 25) L).drop ((k + 1) * 5) = gv (ES 25) (L.eraseIdx k) := by
        rw [show k * 5 = k * (ES 25).z from rfl, show (k + 1) * 5 = (k + 1) * (ES 25).z from rfl, gv_take, gv_drop, ← gv_append, eraseIdx_two]
      rw [e1, ← hlen] at hd
      have e : ((k + 1 : Nat) : Int) = (k : Int) + 1 := by omega
      rw [e] at hd
      exact hd)
    have HMM : Hid (∀ x ∈ L.eraseIdx k, x ∈ L) := Lib.hid (fun x hx => List.mem_of_mem_eraseIdx hx)
    have HLE : Hid ((L.eraseIdx k).map Sd.sx = SL) := Lib.hid (by rw [HSL.out, ← eraseIdx_two, ← eraseIdx_two, List.map_append, List.map_take, List.map_drop])
    have hkl2 : (k : Int) < 100 := by have := h.len; omega
    have c2 := h.c2
    generalize L.eraseIdx k = L' at *
    clear hc h hlen
    go_enter Try.func12, Try.ntmps12
    go_wp2_with fail
    refine HF.out.mono ?_
    rintro _ w1 ⟨rfl, k1⟩
    have K1 := Lib.hid k1
    have d2 := k1.cell' c2 (fun f => f)
    clear k1 HF c2
    go_wp2_with fail
    refine (HDL.out _ K1.out).mono ?_
    rintro _ w2 ⟨rfl, hown, k2⟩
    have hnp : ¬ p = q := fun e => hpq e.symm
    have hct := HCT.out.quiet K1.out
    have e2 := k2.cell' d2 hnp
    have e0 := k2.cell' hct.c0 hnp
    have e1 := k2.cell' hct.c1 hnp
    have f2 : w2.frozen? ⟨p, 2, none⟩ = false := (k2.frozen (p := ⟨p, 2, none⟩) hct.lt hnp).trans hct.f2
    have f1 : w2.frozen? ⟨p, 1, none⟩ = false := (k2.frozen (p := ⟨p, 1, none⟩) hct.lt hnp).trans hct.f1
    obtain ⟨w3, hw3⟩ : ∃ x, x = w2.setCell ⟨p, 2, none⟩ (.slice (some ⟨q, 0, none⟩) L'.length cap) := ⟨_, rfl⟩
    have hset : Only (fun x => x = p) w2 w3 := by rw [hw3]; exact Only.set (fun x => x = p) w2 p 2 _ rfl
    have hqp : ∀ x, (.slice (some ⟨q, 0, none⟩) L'.length cap : Value).ownBlock = some x → x = q := fun x e => by
      have e3 : q = x := by simpa [Value.ownBlock] using e
      exact e3.symm
    have hall : Only (fun x => x = p ∨ x = q) w w3 := ((K1.out.mono (fun _ _ f => f.elim)).trans (k2.mono (fun x _ e => .inr e))).trans (hset.mono (fun x _ e => .inl e))
    have HEND : Hid (PT (fun x => S x ∨ w.heap.size ≤ x) w3 p places last (.slice (some ⟨q, 0, none⟩) L'.length cap) L') := Lib.hid ⟨(by rw [hw3, cell_other (fun e => by injection e with _ e _; omega)]; exact e0), (by rw [hw3, cell_other (fun e => by injection e with _ e _; omega)]; exact e1), (by rw [hw3]; exact cell_same e2), (by rw [hw3]; exact frozen_set.trans f1), (by rw [hw3]; exact frozen_set.trans f2), hown.only hset (fun x e e4 => by
        have e3 := hqp x e
        have e5 : x = p := e4
        omega), (fun e => hpq (hqp p e).symm), (by have := HCT.out.len; omega), .inl HCT.out.sp, (fun x e => .inl (HCT.out.sv x (by rw [hqp x e]; rfl))), (fun x hx => by
        have hg := HCT.out.kd x (HMM.out x hx)
        refine hg.move hall (fun y e hn q9 => ?_) (fun y e hn q9 => ?_) (fun q s => .inl s)
        · obtain ⟨_, _, n1, n2⟩ := hg.2.2 y e hn
          rcases q9 with q9 | q9
          · exact n1 q9
          · exact n2 (by rw [q9]; rfl)
        · obtain ⟨_, _, n1, n2⟩ := hg.2.2 y e hn
          exact n2 (by rw [hqp _ q9]; rfl)), (fun e x hx => HCT.out.nz e x (HMM.out x hx))⟩
    have HOS : Hid (Only S w w3) := Lib.hid (hall.mono (fun i _ e => e.elim (fun e => by rw [e]; exact HCT.out.sp) (fun e => HCT.out.sv i (by rw [e]; rfl))))
    clear k2 hown d2 HDL e0 e1 f1 hct hset hall
    go_wp2_with fail
    rw [← hw3]
    go_ret
    exact ⟨by rw [HE.out]; rfl, ⟨_, L', HLE.out, HEND.out⟩, HOS.out⟩
end Go.Proofs.Ythflglejhhebeaa.cs
