/- Sessions with grants: the document's DocEnd; the law's tame. -/
import Derived.Test.YthflglejhhebeaaCsI
namespace Go.Proofs.Ythflglejhhebeaa.cs
open Go.RowKit mem rwg
set_option linter.unusedVariables false

theorem own_empty (t : TypeId) (w : World) {w1 : World} {g : Nat} (hw : w1 = w.alloc (.cells #[] t)) (hg : g = w.heap.size) {α : Type} (E : Enc α) (he : E.t = t) : OwnR E w1 (.slice (some ⟨g, 0, none⟩) 0 0) [] := by
  subst hw hg
  refine ⟨by simp [gv], .inr ⟨_, 0, #[], rfl, Nat.zero_le _, ?_, Nat.le_refl _, Nat.zero_le _, by simp, by simp [gv]⟩⟩
  rw [heap_alloc, if_pos rfl, he]
theorem sc_news {w : World} {b n : Nat} {l : List Sd} (h : SCells w b n l) (hl : l.length = n) (k m : Nat) (hk : k + m ≤ n) : ∀ j u, (gv (ES 0) ((l.drop k).take m))[j]? = some u → w.cell? ((⟨b, k * 5, none⟩ : Addr).add j) = some u := by
  intro j u hu
  rw [add_none]
  have hc : CellsR (ES 0) w b 0 l := fun k hk c v hv => by
    obtain ⟨h0, h1, h2, h3, h4⟩ := h k (by omega)
    have hc : c < 5 := enc_lt (ES 0) hv
    rw [Nat.zero_add]
    rcases (by omega : c = 0 ∨ c = 1 ∨ c = 2 ∨ c = 3 ∨ c = 4) with rfl | rfl | rfl | rfl | rfl
    all_goals (have e := Option.some.inj hv; subst e; assumption)
  have hr : ReadsR (ES 0) w (some ⟨b, 0, none⟩) n l := ⟨hl, .inr ⟨b, 0, rfl, hc⟩⟩
  have h2 := (hr.drop k (by omega)).take m (by omega)
  have h3 := h2.news j u hu
  rw [add_none, Nat.zero_add] at h3
  exact h3
set_option maxRecDepth 100000 in
set_option maxHeartbeats 8000000 in
theorem rend_any {S : Nat → Prop} (p : Nat) (places last : Int) (v : Value) (L : List Sd) (g : Int) (w : World) (h : DT S w p places last v L) : Calls Try.prog 36 #[.pointer (some ⟨p, 0, none⟩), .int .i64 g] w fun e w' => e = .returned (.int .i64 (endE (L.map Sd.sx) g)) ∧ DRes S (DSet S none w) p places last (endL (L.map Sd.sx) g) w w' := by
  have HF := Lib.hid (rfind_any p places last v L g w h)
  have HCT := Lib.hid h
  have HX := Lib.hid (sIdx_lt g (L.map Sd.sx))
  obtain ⟨AE, hAE⟩ : ∃ x, x = endE (L.map Sd.sx) g := ⟨_, rfl⟩
  obtain ⟨SL, hSL⟩ : ∃ x, x = endL (L.map Sd.sx) g := ⟨_, rfl⟩
  rw [← hSL, ← hAE]
  unfold endL at hSL
  rw [← hAE] at hSL
  have HSL := Lib.hid hSL
  unfold endE at hAE
  have HAE := Lib.hid hAE
  clear hAE hSL
  have HNO : Hid (∀ w' E, E ≠ 0 → AE = E → Only (fun _ => False) w w' → Ending.returned (.int .i64 E) = .returned (.int .i64 AE) ∧ DRes S (DSet S none w) p places last SL w w') := Lib.hid (fun w' E hE e ho => by rw [HSL.out, e, if_neg hE]; exact ⟨rfl, DRes.same HCT.out (fun q s => .inl s) ho⟩)
  generalize sIdx g 0 (L.map Sd.sx) = kk at *
  rcases HX.out with ⟨hk, -⟩ | ⟨k, hkl, rfl, -⟩
  · have HE : Hid (AE = 7) := Lib.hid (by rw [HAE.out, if_pos hk])
    clear HAE HX h
    go_enter Try.func36, Try.ntmps36
    go_wp2_with fail
    refine HF.out.mono ?_
    rintro _ _ ⟨rfl, rfl⟩
    go_wp2_with fail
    go_ret
    exact HNO.out _ 7 (by decide) HE.out (Only.refl _ _)
  · have hkn0 : ¬ (k : Int) < 0 := by omega
    have HE : Hid (AE = 0) := Lib.hid (by rw [HAE.out, if_neg hkn0])
    replace HSL := Lib.hid (by have h := HSL.out; rw [HE.out, if_pos rfl, Int.toNat_natCast] at h; exact h)
    clear HAE HX HNO
    rw [List.length_map] at hkl
    obtain ⟨b, cap, rfl, hc, -, -, -⟩ := HCT.out.at hkl
    have hl16 : L.length ≤ 16 := h.len
    have hcm : cap ≤ 9223372036854775807 := by
      obtain ⟨a2, c2, e, -, hm, -, -, -⟩ := own_S h.own
      injection e with _ _ e3
      unfold maxLen at hm
      omega
    have HCE : Hid (SCells w b L.length L) := Lib.hid (by
      obtain ⟨a2, c2, e, -, -, -, hr2, -⟩ := own_S HCT.out.own
      injection e with e1 e2 e3
      obtain ⟨g2, e4, hc⟩ := hr2.resolve_left (by omega)
      rw [← e1] at e4
      injection e4 with e4
      injection e4 with e4
      subst e4
      exact hc)
    have HLN : Hid ((L.eraseIdx k).length ≤ 16) := Lib.hid (by have := (List.eraseIdx_sublist L k).length_le; omega)
    have HLE : Hid ((L.eraseIdx k).map Sd.sx = SL) := Lib.hid (by rw [HSL.out, ← eraseIdx_two, ← eraseIdx_two, List.map_append, List.map_take, List.map_drop])
    have hki : (0 : Int) ≤ (k : Int) := by omega
    have hkL : (k : Int) < (L.length : Int) := by omega
    have hkc : k ≤ cap := by omega
    have hkw : IntKind.i64.wrap ((k : Int) + 1) = ((k + 1 : Nat) : Int) := by rw [IntKind.wrap_i64]; omega
    have hk1 : k + 1 ≤ L.length := by omega
    have hk2 : (0 : Int) ≤ (k : Int) + 1 := by omega
    have hk3 : (k : Int) + 1 ≤ (L.length : Int) := by omega
    have hxe : (if cap = k + 1 then some (⟨b, 0, none⟩ : Addr) else some ⟨b, (k + 1) * 5, none⟩) = some (if cap = k + 1 then (⟨b, 0, none⟩ : Addr) else ⟨b, (k + 1) * 5, none⟩) := by split <;> rfl
    clear h
    go_enter Try.func36, Try.ntmps36
    go_wp2_with fail
    refine HF.out.mono ?_
    rintro _ w1 ⟨rfl, hw1⟩
    have HO1 : Hid (Only (fun _ => False) w w1) := Lib.hid (by rw [← hw1]; exact Only.refl _ _)
    have HG1 : Hid (w1.heap.size = w.heap.size) := Lib.hid (by rw [hw1])
    have HS4 : Hid (∀ w', Only (fun _ => False) w1 w' → w'.cell? ⟨p, 2, none⟩ = some (.slice (some ⟨b, 0, none⟩) L.length cap)) := Lib.hid (fun w' ho2 => (HCT.out.quiet (HO1.out.trans ho2)).c2)
    have HN1 : Hid (∀ w', Only (fun _ => False) w1 w' → ∀ j u, (gv (ES 0) (L.take k))[j]? = some u → w'.cell? ((⟨b, 0, none⟩ : Addr).add j) = some u) := Lib.hid (fun w' ho => by
      have h := sc_news (HCE.out.only (HO1.out.trans ho) (fun f => f)) rfl 0 k (by omega)
      rw [List.drop_zero, Nat.zero_mul] at h
      exact h)
    have HN2 : Hid (∀ w', Only (fun _ => False) w1 w' → ∀ j u, (gv (ES 0) (L.drop (k + 1)))[j]? = some u → w'.cell? ((if cap = k + 1 then (⟨b, 0, none⟩ : Addr) else ⟨b, (k + 1) * 5, none⟩).add j) = some u) := Lib.hid (fun w' ho j u hu => by
      by_cases hck : cap = k + 1
      · rw [List.drop_eq_nil_of_le (by omega)] at hu
        simp [gv] at hu
      · rw [if_neg hck]
        have h := sc_news (HCE.out.only (HO1.out.trans ho) (fun f => f)) rfl (k + 1) (L.length - (k + 1)) (by omega)
        rw [List.take_of_length_le (by rw [List.length_drop]; exact Nat.le_refl _)] at h
        exact h j u hu)
    clear hw1 HF
    go_upto_region 4 with fail
    refine wp_region_noPanic ?_
    refine late.region (fun w' => w'.cell? ⟨p, 2, none⟩ = some (.slice (some ⟨b, 0, none⟩) L.length cap)) (fun j => [19].contains j) (by kernel_rfl) (HS4.out _ (Only.refl _ _).drew) (fun hHeld => ?_)
    obtain ⟨y0, hy0⟩ : ∃ x, x = w1.drew := ⟨_, rfl⟩
    rw [← hy0] at hHeld ⊢
    have hot : Hid (Only (fun _ => False) w1 y0) := Lib.hid (by rw [hy0]; exact (Only.refl _ _).drew)
    clear hy0
    refine late.take (i := 0) [17, 18, 19] (v := ?_) rfl (by kernel_rfl) (by kernel_rfl) (by kernel_rfl) (by kernel_rfl) (fun _ _ _ h => h) (Or.inl ⟨by rfl, ?_⟩) (by assumption) ?_
    rotate_left 1
    · intro w' hSw
      try dsimp only at hSw
      go_simp
      try with_reducible rfl
    try simp only [List.getElem_toArray, List.getElem_cons_zero, Act.put, List.setIfInBounds_toArray, List.set_cons_zero, List.set_cons_succ]
    refine late.take (i := 2) [3, 4, 5, 7, 8, 16, 17, 18, 19] (v := ?_) rfl (by kernel_rfl) (by kernel_rfl) (by kernel_rfl) (by kernel_rfl) (fun _ _ _ h => h) (Or.inl ⟨by rfl, ?_⟩) (by assumption) ?_
    rotate_left 1
    · intro w' hSw
      try dsimp only at hSw
      go_simp
      try with_reducible rfl
    try simp only [List.getElem_toArray, List.getElem_cons_zero, List.getElem_cons_succ, Act.put, List.setIfInBounds_toArray, List.set_cons_zero, List.set_cons_succ]
    refine late.take (i := 3) [4, 5, 7, 8, 16, 17, 18, 19] (v := ?_) rfl (by kernel_rfl) (by kernel_rfl) (by kernel_rfl) (by kernel_rfl) (fun _ _ _ h => h) (Or.inl ⟨by rfl, ?_⟩) (by assumption) ?_
    rotate_left 1
    · intro w' hSw
      try dsimp only at hSw
      go_simp
      try with_reducible rfl
    try simp only [List.getElem_toArray, List.getElem_cons_zero, List.getElem_cons_succ, Act.put, List.setIfInBounds_toArray, List.set_cons_zero, List.set_cons_succ]
    refine late.take (i := 4) [5, 7, 8, 16, 17, 18, 19] (v := ?_) rfl (by kernel_rfl) (by kernel_rfl) (by kernel_rfl) (by kernel_rfl) (fun _ _ _ h => h) (Or.inl ⟨by rfl, ?_⟩) (by assumption) ?_
    rotate_left 1
    · intro w' hSw
      try dsimp only at hSw
      go_simp
      try with_reducible rfl
    try simp only [List.getElem_toArray, List.getElem_cons_zero, List.getElem_cons_succ, Act.put, List.setIfInBounds_toArray, List.set_cons_zero, List.set_cons_succ]
    refine late.take (i := 5) [7, 8, 16, 17, 18, 19] (v := ?_) rfl (by kernel_rfl) (by kernel_rfl) (by kernel_rfl) (by kernel_rfl) (fun _ _ _ h => h) (Or.inl ⟨by rfl, ?_⟩) (by assumption) ?_
    rotate_left 1
    · intro w' hSw
      try dsimp only at hSw
      go_simp
      try with_reducible rfl
    try simp only [List.getElem_toArray, List.getElem_cons_zero, List.getElem_cons_succ, Act.put, List.setIfInBounds_toArray, List.set_cons_zero, List.set_cons_succ]
    refine late.take (i := 6) [7, 8, 16, 17, 18, 19] (v := ?_) rfl (by kernel_rfl) (by kernel_rfl) (by kernel_rfl) (by kernel_rfl) (fun _ _ _ h => h) (Or.inl ⟨by rfl, ?_⟩) (by assumption) ?_
    rotate_left 1
    · intro w' hSw
      try dsimp only at hSw
      go_simp
      try with_reducible rfl
    try simp only [List.getElem_toArray, List.getElem_cons_zero, List.getElem_cons_succ, Act.put, List.setIfInBounds_toArray, List.set_cons_zero, List.set_cons_succ]
    refine late.take (i := 7) [8, 16, 17, 18, 19] (v := ?_) rfl (by kernel_rfl) (by kernel_rfl) (by kernel_rfl) (by kernel_rfl) (fun _ _ _ h => h) (Or.inl ⟨by rfl, ?_⟩) (by assumption) ?_
    rotate_left 1
    · intro w' hSw
      try dsimp only at hSw
      go_simp
      try with_reducible rfl
    try simp only [List.getElem_toArray, List.getElem_cons_zero, List.getElem_cons_succ, Act.put, List.setIfInBounds_toArray, List.set_cons_zero, List.set_cons_succ]
    refine late.take (i := 9) [10, 11, 12, 15, 16, 17, 18, 19] (v := ?_) rfl (by kernel_rfl) (by kernel_rfl) (by kernel_rfl) (by kernel_rfl) (fun _ _ _ h => h) (Or.inl ⟨by rfl, ?_⟩) (by assumption) ?_
    rotate_left 1
    · intro w' hSw
      try dsimp only at hSw
      go_simp
      try with_reducible rfl
    try simp only [List.getElem_toArray, List.getElem_cons_zero, List.getElem_cons_succ, Act.put, List.setIfInBounds_toArray, List.set_cons_zero, List.set_cons_succ]
    refine late.take (i := 10) [11, 12, 15, 16, 17, 18, 19] (v := ?_) rfl (by kernel_rfl) (by kernel_rfl) (by kernel_rfl) (by kernel_rfl) (fun _ _ _ h => h) (Or.inl ⟨by rfl, ?_⟩) (by assumption) ?_
    rotate_left 1
    · intro w' hSw
      try dsimp only at hSw
      go_simp
      try with_reducible rfl
    try simp only [List.getElem_toArray, List.getElem_cons_zero, List.getElem_cons_succ, Act.put, List.setIfInBounds_toArray, List.set_cons_zero, List.set_cons_succ]
    refine late.take (i := 11) [12, 15, 16, 17, 18, 19] (v := ?_) rfl (by kernel_rfl) (by kernel_rfl) (by kernel_rfl) (by kernel_rfl) (fun _ _ _ h => h) (Or.inl ⟨by rfl, ?_⟩) (by assumption) ?_
    rotate_left 1
    · intro w' hSw
      try dsimp only at hSw
      go_simp
      try with_reducible rfl
    try simp only [List.getElem_toArray, List.getElem_cons_zero, List.getElem_cons_succ, Act.put, List.setIfInBounds_toArray, List.set_cons_zero, List.set_cons_succ]
    refine late.take (i := 12) [15, 16, 17, 18, 19] (v := ?_) rfl (by kernel_rfl) (by kernel_rfl) (by kernel_rfl) (by kernel_rfl) (fun _ _ _ h => h) (Or.inl ⟨by rfl, ?_⟩) (by assumption) ?_
    rotate_left 1
    · intro w' hSw
      try dsimp only at hSw
      go_simp
      try with_reducible rfl
    try simp only [List.getElem_toArray, List.getElem_cons_zero, List.getElem_cons_succ, Act.put, List.setIfInBounds_toArray, List.set_cons_zero, List.set_cons_succ]
    refine late.take (i := 13) [14, 15, 16, 17, 18, 19] (v := ?_) rfl (by kernel_rfl) (by kernel_rfl) (by kernel_rfl) (by kernel_rfl) (fun _ _ _ h => h) (Or.inl ⟨by rfl, ?_⟩) (by assumption) ?_
    rotate_left 1
    · intro w' hSw
      try dsimp only at hSw
      go_simp
      try with_reducible rfl
    try simp only [List.getElem_toArray, List.getElem_cons_zero, List.getElem_cons_succ, Act.put, List.setIfInBounds_toArray, List.set_cons_zero, List.set_cons_succ]
    refine late.take (i := 14) [15, 16, 17, 18, 19] (v := ?_) rfl (by kernel_rfl) (by kernel_rfl) (by kernel_rfl) (by kernel_rfl) (fun _ _ _ h => h) (Or.inl ⟨by rfl, ?_⟩) (by assumption) ?_
    rotate_left 1
    · intro w' hSw
      try dsimp only at hSw
      go_simp
      try with_reducible rfl
    try simp only [List.getElem_toArray, List.getElem_cons_zero, List.getElem_cons_succ, Act.put, List.setIfInBounds_toArray, List.set_cons_zero, List.set_cons_succ]
    refine late.take (i := 15) [16, 17, 18, 19] (v := ?_) rfl (by kernel_rfl) (by kernel_rfl) (by kernel_rfl) (by kernel_rfl) (fun _ _ _ h => h) (Or.inl ⟨by rfl, ?_⟩) (by assumption) ?_
    rotate_left 1
    · intro w' hSw
      try dsimp only at hSw
      go_simp
      try with_reducible rfl
    try simp only [List.getElem_toArray, List.getElem_cons_zero, List.getElem_cons_succ, Act.put, List.setIfInBounds_toArray, List.set_cons_zero, List.set_cons_succ]
    refine late.ready (rs := [1]) (by kernel_rfl) (by simp) ?_
    refine late.Each.cons rfl (fun K hK => ?_) late.Each.nil
    try simp only [List.getElem_toArray, List.getElem_cons_zero, List.getElem_cons_succ]
    go_simp
    obtain ⟨W1, hW1⟩ : ∃ x, x = y0.alloc (.cells #[] 50) := ⟨_, rfl⟩
    obtain ⟨g1, hg1⟩ : ∃ x, x = y0.heap.size := ⟨_, rfl⟩
    rw [← hW1, ← hg1]
    have hal : Only (fun _ => False) y0 W1 := by rw [hW1]; exact (Only.refl _ _).alloc _
    have HE0 := Lib.hid (own_empty 50 y0 hW1 hg1 (ES 50) rfl)
    have HG0 : Hid (w.heap.size ≤ g1) := Lib.hid (by rw [hg1]; exact (HO1.out.trans hot.out).size)
    replace hot := Lib.hid (hot.out.trans hal)
    clear hW1 hg1 hal
    refine hK.out _ _ (fun _ => HS4.out _ hot.out) (fun hHeld1 => ?_)
    replace hHeld1 := hHeld1 rfl
    clear hK K
    try simp only [List.getElem_toArray, List.getElem_cons_zero, List.getElem_cons_succ, Act.put, List.setIfInBounds_toArray, List.set_cons_zero, List.set_cons_succ]
    refine late.ready (rs := [8]) (by kernel_rfl) (by simp) ?_
    refine late.Each.cons rfl (fun K hK => ?_) late.Each.nil
    refine step_rsess (a := { tmps := _, defers := _ }) rfl _ _ rfl (.slice (some ⟨g1, 0, none⟩) 0 0) [] rfl HE0.out ⟨b, 0, none⟩ k cap (L.take k) rfl (by rw [List.length_take]; omega) (HN1.out _ hot.out) (by simp) (by omega) ?_
    rintro v2 W2 hown hgrow hkk
    rw [List.nil_append] at hown
    have hgo := Only.of_grown hgrow
    have hbk : ∀ q, v2.ownBlock = some q → w.heap.size ≤ q := fun q e => by
      rcases hkk q e with e2 | e2
      · have e3 : g1 = q := by simpa [Value.ownBlock] using e2
        have := HG0.out
        omega
      · have := (HO1.out.trans hot.out).size
        omega
    have HOA := Lib.hid hown
    have HBA := Lib.hid hbk
    have hall : Only (fun _ => False) w1 W2 := hot.out.then hgo (fun q hq e => by
      have e3 : g1 = q := by simpa [Value.ownBlock] using e
      have := HG0.out
      have := HO1.out.size
      have := HG1.out
      omega)
    replace hot := Lib.hid hall
    have hvf := hown.reads
    obtain ⟨xa, xc, hvx, -, -, -, -, -⟩ := hvf
    rw [List.length_take, Nat.min_eq_left (by omega)] at hvx
    subst hvx
    clear hown hgrow hkk hgo hbk hall HE0
    refine hK.out _ _ (fun _ => HS4.out _ hot.out) (fun hHeld2 => ?_)
    replace hHeld2 := hHeld2 rfl
    clear hK K
    try simp only [List.getElem_toArray, List.getElem_cons_zero, List.getElem_cons_succ, Act.put, List.setIfInBounds_toArray, List.set_cons_zero, List.set_cons_succ]
    refine late.ready (rs := [16]) (by kernel_rfl) (by simp) ?_
    refine late.Each.cons rfl (fun K hK => ?_) late.Each.nil
    refine step_rsess (a := { tmps := _, defers := _ }) rfl _ _ rfl (.slice xa k xc) (L.take k) rfl HOA.out (if cap = k + 1 then ⟨b, 0, none⟩ else ⟨b, (k + 1) * 5, none⟩) (L.length - (k + 1)) (cap - (k + 1)) (L.drop (k + 1)) (by rfl) (by rw [List.length_drop]) (HN2.out _ hot.out) (by rw [List.length_take]; omega) (by omega) ?_
    rintro v3 W3 hown hgrow hkk
    rw [eraseIdx_two] at hown
    have hgo := Only.of_grown hgrow
    have HBB : Hid (∀ q, v3.ownBlock = some q → w.heap.size ≤ q) := Lib.hid (fun q e => by
      rcases hkk q e with e2 | e2
      · exact HBA.out q e2
      · have := (HO1.out.trans hot.out).size
        omega)
    have HOB := Lib.hid hown
    have HFIN : Hid (Only (fun _ => False) w W3) := Lib.hid ((HO1.out.trans hot.out).then hgo (fun q hq e => by have := HBA.out q e; omega))
    have hct := HCT.out.quiet HFIN.out
    have d2 := hct.c2
    have f2 := hct.f2
    obtain ⟨xb, xd, hvx, -, -, -, -, -⟩ := hown.reads
    subst hvx
    clear hown hgrow hkk hgo hct hot HOA HBA
    refine hK.out _ _ (fun _ => d2) (fun hHeld3 => ?_)
    replace hHeld3 := hHeld3 rfl
    clear hK K
    try simp only [List.getElem_toArray, List.getElem_cons_zero, List.getElem_cons_succ, Act.put, List.setIfInBounds_toArray, List.set_cons_zero, List.set_cons_succ]
    refine late.take (i := 17) [18, 19] (v := ?_) rfl (by kernel_rfl) (by kernel_rfl) (by kernel_rfl) (by kernel_rfl) (fun _ _ _ h => h) (Or.inl ⟨by rfl, ?_⟩) (by assumption) ?_
    rotate_left 1
    · intro w' hSw
      try dsimp only at hSw
      go_simp
      try with_reducible rfl
    try simp only [List.getElem_toArray, List.getElem_cons_zero, List.getElem_cons_succ, Act.put, List.setIfInBounds_toArray, List.set_cons_zero, List.set_cons_succ]
    refine late.take (i := 18) [19] (v := ?_) rfl (by kernel_rfl) (by kernel_rfl) (by kernel_rfl) (by kernel_rfl) (fun _ _ _ h => h) (Or.inl ⟨by rfl, ?_⟩) (by assumption) ?_
    rotate_left 1
    · intro w' hSw
      try dsimp only at hSw
      go_simp
      try with_reducible rfl
    try simp only [List.getElem_toArray, List.getElem_cons_zero, List.getElem_cons_succ, Act.put, List.setIfInBounds_toArray, List.set_cons_zero, List.set_cons_succ]
    refine late.ready (rs := [19]) (by kernel_rfl) (by simp) ?_
    refine late.Each.cons rfl (fun K hK => ?_) late.Each.nil
    try simp only [List.getElem_toArray, List.getElem_cons_zero, List.getElem_cons_succ]
    go_simp
    refine hK.out _ _ (fun h => by cases h) (fun _ => ?_)
    clear hK K
    try simp only [List.getElem_toArray, List.getElem_cons_zero, List.getElem_cons_succ, Act.put, List.setIfInBounds_toArray, List.set_cons_zero, List.set_cons_succ]
    refine late.done (by kernel_rfl) ?_ _
    refine NoPanic.normal ?_
    obtain ⟨w6, hw6⟩ : ∃ x, x = W3.setCell ⟨p, 2, none⟩ (.slice xb (L.eraseIdx k).length xd) := ⟨_, rfl⟩
    have hset : Only (fun x => x = p) W3 w6 := by rw [hw6]; exact Only.set (fun x => x = p) _ p 2 _ rfl
    have hct := HCT.out.quiet HFIN.out
    have hpl : p < w.heap.size := HCT.out.lt
    have hvne : ∀ q, (.slice xb (L.eraseIdx k).length xd : Value).ownBlock = some q → ¬ q = p := fun q e e2 => by have := HBB.out q e; omega
    have HEND : Hid (DT (DSet S none w) w6 p places last (.slice xb (L.eraseIdx k).length xd) (L.eraseIdx k)) := Lib.hid ⟨(by rw [hw6, cell_other (fun e => by injection e with _ e _; omega)]; exact hct.c0), (by rw [hw6, cell_other (fun e => by injection e with _ e _; omega)]; exact hct.c1), (by rw [hw6]; exact cell_same hct.c2), (by rw [hw6]; exact frozen_set.trans hct.f1), (by rw [hw6]; exact frozen_set.trans hct.f2), HOB.out.only hset (fun q e e2 => hvne q e e2), (fun e => hvne p e rfl), (by have := HLN.out; omega), .inl HCT.out.sp, (fun q e => .inr (.inr (HBB.out q e))), (fun x hx => by
      have hg := HCT.out.kd x (List.mem_of_mem_eraseIdx hx)
      exact hg.move (T := fun x => x = p) ((HFIN.out.mono (fun _ _ f => f.elim)).trans hset) (fun y e hn q9 => (hg.2.2 y e hn).2.2.1 q9) (fun y e hn q9 => by have h1 := HBB.out _ q9; have h2 := (hg.2.2 y e hn).1; omega) (fun q s => .inl s)), fun e => by cases e⟩
    have HOS : Hid (Only S w w6) := Lib.hid ((HFIN.out.mono (fun _ _ f => f.elim)).trans (hset.mono (fun k _ e => by rw [e]; exact HCT.out.sp)))
    clear hct hset
    go_wp2_with fail
    all_goals (rw [← hw6]; go_ret; exact ⟨by rw [HE.out]; rfl, ⟨_, L.eraseIdx k, HLE.out, HEND.out⟩, HOS.out⟩)
end Go.Proofs.Ythflglejhhebeaa.cs
