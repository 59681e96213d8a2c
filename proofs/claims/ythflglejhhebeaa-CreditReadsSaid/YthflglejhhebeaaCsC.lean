/- Sessions with grants: isSession, clone, find, New, Last, Step. -/
import Derived.Test.YthflglejhhebeaaCsB
import Derived.Shelf.SlicesE.Clone
import Derived.StillTailTactics
namespace Go.Proofs.Ythflglejhhebeaa.cs
open Go.RowKit mem rwg
set_option linter.unusedVariables false

theorem info_partsS {o : Option TypeInfo} {z : Value} {a b : Nat} (h : o.map (fun i => (i.zero, i.size, i.bytes)) = some (some z, a, b)) : ∃ i, o = some i ∧ i.zero = some z ∧ i.size = a ∧ i.bytes = b := by
  obtain ⟨i, h1, h2⟩ := Option.map_eq_some_iff.1 h
  exact ⟨i, h1, by simpa using h2⟩
theorem info_gr : (Try.prog.info? 80).map (fun i => (i.zero, i.size, i.bytes)) = some (some (.agg #[.int .i64 0, .int .i64 0, .int .i64 0, .bool false]), 4, 32) := by kernel_rfl
theorem info_se : (Try.prog.info? 25).map (fun i => (i.zero, i.size, i.bytes)) = some (some (.agg #[.int .i64 0, .int .i64 0, .int .i64 0, .int .i64 0, .slice none 0 0]), 5, 56) := by kernel_rfl
def sval (x : Sd) : Value := .agg #[.int .i64 x.i, .int .i64 x.nd, .int .i64 x.num, .int .i64 x.dl, .slice x.a x.n x.c]
set_option maxRecDepth 100000 in
set_option maxHeartbeats 2000000 in
theorem issess_any (i nd num dl : Int) (a : Option Addr) (n c : Nat) (gs : List Gr) (w : World) (h : ReadsG w a n gs) (hc : Cp a n c) : Calls Try.prog 29 #[.agg #[.int .i64 i, .int .i64 nd, .int .i64 num, .int .i64 dl, .slice a n c]] w fun e w' => e = .returned (.bool (rightB ⟨i, nd, num, dl, gs⟩)) ∧ Only (fun _ => False) w w' := by
  obtain ⟨w1, hw⟩ : ∃ x, x = w.alloc (.cells #[.int .i64 i, .int .i64 nd, .int .i64 num, .int .i64 dl, .slice a n c] 25) := ⟨_, rfl⟩
  obtain ⟨g, hg⟩ : ∃ x, x = w.heap.size := ⟨_, rfl⟩
  obtain ⟨c0, c1, c2, c3, c4, ho⟩ := sbox hw hg
  have HO := Lib.hid ho
  have HA := Lib.hid (aregr_any a n c gs w1 (h.quiet ho) hc)
  have HR : Hid (rightB ⟨i, nd, num, dl, gs⟩ = true ↔ (1 ≤ i ∧ numOk i ∧ 1 ≤ nd ∧ nd ≤ 32 ∧ numOk num ∧ numOk dl ∧ grsB gs = true)) := Lib.hid (rightB_iff _)
  clear ho h hc
  generalize rightB ⟨i, nd, num, dl, gs⟩ = RB at *
  generalize grsB gs = GB at *
  by_cases h0 : 1 ≤ i
  rotate_left
  · have HX : Hid (RB = false) := Lib.hid (by
      have h := HR.out
      cases RB
      · rfl
      · have := (h.1 rfl).1; exact absurd this h0)
    obtain ⟨y1, y2⟩ := nat_dec _ _ h0
    clear HR
    go_enter Try.func29, Try.ntmps29
    go_upto_region 1 with fail
    simp only [← hw, ← hg]
    clear hw hg
    go_wp2_with fail
    go_ret
    exact ⟨by rw [HX.out]; rfl, HO.out⟩
  by_cases h1 : numOk i
  rotate_left
  · have HX : Hid (RB = false) := Lib.hid (by
      have h := HR.out
      cases RB
      · rfl
      · have := (h.1 rfl).2.1; exact absurd this h1)
    have d1 := decide_eq_false h1
    clear HR
    go_enter Try.func29, Try.ntmps29
    go_upto_region 1 with fail
    simp only [← hw, ← hg]
    clear hw hg
    go_wp2_with fail
    refine (isnum_any i _).mono ?_
    rintro _ _ ⟨rfl, rfl⟩
    rw [d1]
    go_wp2_with fail
    go_ret
    exact ⟨by rw [HX.out]; rfl, HO.out⟩
  have d1 := decide_eq_true h1
  by_cases h2 : 1 ≤ nd
  rotate_left
  · have HX : Hid (RB = false) := Lib.hid (by
      have h := HR.out
      cases RB
      · rfl
      · have := (h.1 rfl).2.2.1; exact absurd this h2)
    obtain ⟨y1, y2⟩ := nat_dec _ _ h2
    clear HR
    go_enter Try.func29, Try.ntmps29
    go_upto_region 1 with fail
    simp only [← hw, ← hg]
    clear hw hg
    go_wp2_with fail
    refine (isnum_any i _).mono ?_
    rintro _ _ ⟨rfl, rfl⟩
    rw [d1]
    go_wp2_with fail
    go_ret
    exact ⟨by rw [HX.out]; rfl, HO.out⟩
  by_cases h3 : nd ≤ 32
  rotate_left
  · have HX : Hid (RB = false) := Lib.hid (by
      have h := HR.out
      cases RB
      · rfl
      · have := (h.1 rfl).2.2.2.1; exact absurd this h3)
    obtain ⟨y1, y2⟩ := nat_dec _ _ h3
    clear HR
    go_enter Try.func29, Try.ntmps29
    go_upto_region 1 with fail
    simp only [← hw, ← hg]
    clear hw hg
    go_wp2_with fail
    refine (isnum_any i _).mono ?_
    rintro _ _ ⟨rfl, rfl⟩
    rw [d1]
    go_wp2_with fail
    go_ret
    exact ⟨by rw [HX.out]; rfl, HO.out⟩
  by_cases h4 : numOk num
  rotate_left
  · have HX : Hid (RB = false) := Lib.hid (by
      have h := HR.out
      cases RB
      · rfl
      · have := (h.1 rfl).2.2.2.2.1; exact absurd this h4)
    have d4 := decide_eq_false h4
    clear HR
    go_enter Try.func29, Try.ntmps29
    go_upto_region 1 with fail
    simp only [← hw, ← hg]
    clear hw hg
    go_wp2_with fail
    refine (isnum_any i _).mono ?_
    rintro _ _ ⟨rfl, rfl⟩
    rw [d1]
    go_wp2_with fail
    refine (isnum_any num _).mono ?_
    rintro _ _ ⟨rfl, rfl⟩
    rw [d4]
    go_wp2_with fail
    go_ret
    exact ⟨by rw [HX.out]; rfl, HO.out⟩
  have d4 := decide_eq_true h4
  by_cases h5 : numOk dl
  rotate_left
  · have HX : Hid (RB = false) := Lib.hid (by
      have h := HR.out
      cases RB
      · rfl
      · have := (h.1 rfl).2.2.2.2.2.1; exact absurd this h5)
    have d5 := decide_eq_false h5
    clear HR
    go_enter Try.func29, Try.ntmps29
    go_upto_region 1 with fail
    simp only [← hw, ← hg]
    clear hw hg
    go_wp2_with fail
    refine (isnum_any i _).mono ?_
    rintro _ _ ⟨rfl, rfl⟩
    rw [d1]
    go_wp2_with fail
    refine (isnum_any num _).mono ?_
    rintro _ _ ⟨rfl, rfl⟩
    rw [d4]
    go_wp2_with fail
    refine (isnum_any dl _).mono ?_
    rintro _ _ ⟨rfl, rfl⟩
    rw [d5]
    go_wp2_with fail
    go_ret
    exact ⟨by rw [HX.out]; rfl, HO.out⟩
  have d5 := decide_eq_true h5
  have HX : Hid (RB = GB) := Lib.hid (by
    have h := HR.out
    cases GB
    · cases RB
      · rfl
      · have := (h.1 rfl).2.2.2.2.2.2; cases this
    · exact h.2 ⟨h0, h1, h2, h3, h4, h5, rfl⟩)
  clear HR
  go_enter Try.func29, Try.ntmps29
  go_upto_region 1 with fail
  simp only [← hw, ← hg]
  clear hw hg
  go_wp2_with fail
  refine (isnum_any i _).mono ?_
  rintro _ _ ⟨rfl, rfl⟩
  rw [d1]
  go_wp2_with fail
  refine (isnum_any num _).mono ?_
  rintro _ _ ⟨rfl, rfl⟩
  rw [d4]
  go_wp2_with fail
  refine (isnum_any dl _).mono ?_
  rintro _ _ ⟨rfl, rfl⟩
  rw [d5]
  go_wp2_with fail
  refine HA.out.mono ?_
  rintro _ w2 ⟨rfl, ho⟩
  have HO2 := Lib.hid (HO.out.trans ho)
  clear ho HA
  go_wp2_with fail
  go_ret
  exact ⟨by rw [HX.out]; rfl, HO2.out⟩
theorem ReadsG.news {w : World} {b off n : Nat} {gs : List Gr} (h : ReadsG w (some ⟨b, off, none⟩) n gs) : ∀ j u, (gv (EG 0) gs)[j]? = some u → w.cell? ⟨b, off + j, none⟩ = some u := fun j u hu => by
  have := ReadsR.news h j u hu
  rw [add_none] at this
  exact this
theorem own_G {t : TypeId} {w : World} {v : Value} {n : Nat} {gs : List Gr} (h : w.ownsRow 0 t 4 v n (gv (EG 0) gs)) (hn : gs.length = n) : ∃ a c, v = .slice a n c ∧ Cp a n c ∧ ReadsG w a n gs ∧ (∀ y, a = some y → v.ownBlock = some y.block ∧ y.block < w.heap.size) := by
  subst hn
  have h' : OwnR (EG t) w v gs := h
  obtain ⟨a, c, rfl, h1, h2, h3, h4, h5⟩ := h'.reads
  exact ⟨a, c, rfl, ⟨h1, h2, h3⟩, h4, fun y e => ⟨h5 y e, h'.lt (h5 y e)⟩⟩
/-- a clone of grants -/
def GC (w : World) (n : Nat) (gs : List Gr) (a : Option Addr) (c : Nat) (w' : World) : Prop := ReadsG w' a n gs ∧ Cp a n c ∧ (∀ y, a = some y → w.heap.size ≤ y.block ∧ y.block < w'.heap.size) ∧ (n = 0 → a = none ∧ c = 0) ∧ Only (fun _ => False) w w'
set_option maxRecDepth 100000 in
theorem gclone_any (a : Option Addr) (n c : Nat) (gs : List Gr) (w : World) (h : ReadsG w a n gs) (hm : n ≤ 1000) (hz : n = 0 → a = none ∧ c = 0) :
    Calls Try.prog 55 #[.slice a n c] w fun e w' => ∃ xa xc, e = .returned (.slice xa n xc) ∧ GC w n gs xa xc w' := by
  rcases Nat.eq_zero_or_pos n with e | e
  · subst e
    obtain ⟨rfl, rfl⟩ := hz rfl
    have HF : Hid (GC w 0 gs none 0 w) := Lib.hid ⟨h, ⟨Nat.le_refl _, Nat.zero_le _, fun _ => rfl⟩, fun y e => (by cases e), fun _ => ⟨rfl, rfl⟩, Only.refl _ _⟩
    have hsn : ∀ w : World, (binOp .eql 23 (.slice none 0 0) (.slice none 0 0)).run Try.prog w = .ok (.bool true) w := fun w => Lib.run_eql_slice_nil w _ _ none 0 0 0 0 Try.underlying23
    clear h hz
    go_enter Try.func55, Try.ntmps55
    go_wp2_with fail
    go_ret
    exact ⟨_, _, rfl, HF.out⟩
  · obtain ⟨i0, hi, hz0, hz1, hz2⟩ := info_partsS info_gr
    obtain ⟨b, off, rfl, hcell⟩ := h.cells e
    refine (AnyE.slices_Clone Try.cloneGrants i0 _ 4 32 hi hz0 hz1 hz2 rfl (by decide) Try.sizeOf80 b off n c (gv (EG 0) gs) w (by rw [gv_length, h.1]; rfl) (by unfold maxLen; omega) (by omega) h.news (gv_one _ gs)).mono ?_
    rintro e w' ⟨v, rfl, hown, hne, hb⟩
    obtain ⟨g, cp, rfl, hg, _⟩ := owns_form hown (by omega)
    obtain ⟨a2, c2, he, h1, h2, h3⟩ := own_G (owns_le hown (Nat.zero_le _)) h.1
    injection he with e1 _ e3
    subst e1 e3
    exact ⟨_, _, rfl, h2, h1, fun y e => ⟨by cases e; exact hg, (h3 y e).2⟩, fun e => by omega, Only.of_below hb⟩
theorem sfrozen {w : World} {g : Nat} {cs : Array Value} {t : TypeId} (hg : g = w.heap.size) (j : Nat) : (w.alloc (.cells cs t)).frozen? ⟨g, j, none⟩ = false := by
  have e : (w.alloc (.cells cs t)).heap[g]? = some (.cells cs t) := by rw [heap_alloc, if_pos hg]
  unfold World.frozen?
  dsimp only
  rw [e]
  simp
set_option maxRecDepth 100000 in
set_option maxHeartbeats 2000000 in
theorem sclone_any (i nd num dl : Int) (a : Option Addr) (n c : Nat) (gs : List Gr) (w : World) (h : ReadsG w a n gs) (hm : n ≤ 1000) (hz : n = 0 → a = none ∧ c = 0) :
    Calls Try.prog 25 #[.agg #[.int .i64 i, .int .i64 nd, .int .i64 num, .int .i64 dl, .slice a n c]] w fun e w' => ∃ xa xc, e = .returned (.agg #[.int .i64 i, .int .i64 nd, .int .i64 num, .int .i64 dl, .slice xa n xc]) ∧ GC w n gs xa xc w' := by
  obtain ⟨w1, hw⟩ : ∃ x, x = w.alloc (.cells #[.int .i64 i, .int .i64 nd, .int .i64 num, .int .i64 dl, .slice a n c] 25) := ⟨_, rfl⟩
  obtain ⟨g, hg⟩ : ∃ x, x = w.heap.size := ⟨_, rfl⟩
  obtain ⟨w2, hw2⟩ : ∃ x, x = w1.alloc (.cells #[.int .i64 0, .int .i64 0, .int .i64 0, .int .i64 0, .slice none 0 0] 25) := ⟨_, rfl⟩
  have hg2 : g + 1 = w1.heap.size := by rw [hw, hg]; simp
  obtain ⟨c0, c1, c2, c3, c4, ho⟩ := sbox hw hg
  obtain ⟨z0, z1, z2, z3, z4, ho2⟩ := sbox hw2 hg2
  have hf1 : ∀ j, w1.frozen? ⟨g, j, none⟩ = false := fun j => by rw [hw]; exact sfrozen hg j
  have hf2 : ∀ j, w2.frozen? ⟨g + 1, j, none⟩ = false := fun j => by rw [hw2]; exact sfrozen hg2 j
  have HO2 := Lib.hid (ho.trans ho2)
  have HNE : Hid (w.heap.size ≤ g ∧ g < w2.heap.size ∧ g + 1 < w2.heap.size) := Lib.hid ⟨by omega, by rw [hw2, size_alloc]; omega, by rw [hw2, size_alloc]; omega⟩
  have HCL := Lib.hid (gclone_any a n c gs w2 (h.quiet HO2.out) hm hz)
  replace c0 := ho2.cell' c0 (fun f => f)
  replace c1 := ho2.cell' c1 (fun f => f)
  replace c2 := ho2.cell' c2 (fun f => f)
  replace c3 := ho2.cell' c3 (fun f => f)
  replace c4 := ho2.cell' c4 (fun f => f)
  have HF : Hid ((∀ j, w2.frozen? ⟨g, j, none⟩ = false) ∧ ∀ j, w2.frozen? ⟨g + 1, j, none⟩ = false) := Lib.hid ⟨fun j => (ho2.frozen (p := ⟨g, j, none⟩) (by show g < _; omega) (fun f => f)).trans (hf1 j), hf2⟩
  clear h hz ho ho2 hf1 hf2 hg2
  go_enter Try.func25, Try.ntmps25
  go_upto_region 1 with fail
  simp only [← hw, ← hg, ← hw2]
  clear hw hg hw2
  go_wp2_with fail
  refine HCL.out.mono ?_
  rintro _ w3 ⟨xa, xc, rfl, hgc⟩
  have ho3 := hgc.2.2.2.2
  replace c0 := ho3.cell' c0 (fun f => f)
  replace c1 := ho3.cell' c1 (fun f => f)
  replace c2 := ho3.cell' c2 (fun f => f)
  replace c3 := ho3.cell' c3 (fun f => f)
  replace c4 := ho3.cell' c4 (fun f => f)
  replace z0 := ho3.cell' z0 (fun f => f)
  replace z1 := ho3.cell' z1 (fun f => f)
  replace z2 := ho3.cell' z2 (fun f => f)
  replace z3 := ho3.cell' z3 (fun f => f)
  replace z4 := ho3.cell' z4 (fun f => f)
  have hf : ∀ j, w3.frozen? ⟨g, j, none⟩ = false := fun j => (ho3.frozen (p := ⟨g, j, none⟩) HNE.out.2.1 (fun f => f)).trans (HF.out.1 j)
  have hf2 : ∀ j, w3.frozen? ⟨g + 1, j, none⟩ = false := fun j => (ho3.frozen (p := ⟨g + 1, j, none⟩) HNE.out.2.2 (fun f => f)).trans (HF.out.2 j)
  have HGC := Lib.hid hgc
  have HO3 := Lib.hid (HO2.out.trans ho3)
  clear hgc ho3 HCL
  go_wp2_with fail
  obtain ⟨w4, hw4⟩ : ∃ x, x = w3.setCell ⟨g, 4, none⟩ (.slice xa n xc) := ⟨_, rfl⟩
  have ho4 : Only (fun q => q = g) w3 w4 := by rw [hw4]; exact Only.set _ w3 g 4 _ rfl
  have z := putsR_cell (g + 1) [.int .i64 i, .int .i64 nd, .int .i64 num, .int .i64 dl, .slice xa n xc] 0 w4 (fun k hk => by
    have hk : k < 5 := hk
    have hn : ¬ (fun q => q = g) (g + 1) := fun e => by have e : g + 1 = g := e; omega
    rcases (by omega : k = 0 ∨ k = 1 ∨ k = 2 ∨ k = 3 ∨ k = 4) with rfl | rfl | rfl | rfl | rfl
    · exact ⟨_, ho4.cell' z0 hn⟩
    · exact ⟨_, ho4.cell' z1 hn⟩
    · exact ⟨_, ho4.cell' z2 hn⟩
    · exact ⟨_, ho4.cell' z3 hn⟩
    · exact ⟨_, ho4.cell' z4 hn⟩)
  have x0 := z 0 _ rfl
  have x1 := z 1 _ rfl
  have x2 := z 2 _ rfl
  have x3 := z 3 _ rfl
  have x4 := z 4 _ rfl
  rw [hw4] at x0 x1 x2 x3 x4
  simp only [putsR, Nat.zero_add] at x0 x1 x2 x3 x4
  refine bodyPost_ret (v := .agg #[.int .i64 i, .int .i64 nd, .int .i64 num, .int .i64 dl, .slice xa n xc]) (by simp [results, Try.results25, go_sem, x0, x1, x2, x3, x4]) rfl ⟨_, _, rfl, ?_⟩
  have hoW : Only (fun q => q = g ∨ q = g + 1) w3 (putsR (g + 1) 0 [.int .i64 i, .int .i64 nd, .int .i64 num, .int .i64 dl, .slice xa n xc] w4) := (ho4.mono (fun _ _ e => .inl e)).trans ((putsR_only _ _ _ _).mono (fun _ _ e => .inr e))
  rw [hw4] at hoW
  obtain ⟨k1, k2, k3, k4, k5⟩ := HGC.out
  have hne := HNE.out
  refine ⟨k1.only' hoW (fun y e _ => ?_), k2, fun y e => ?_, k4, HO3.out.then hoW (fun q hq e => ?_)⟩
  · have := k3 y e; omega
  · have := k3 y e; have h1 := HO2.out.size; have h2 := hoW.size; exact ⟨by omega, Nat.lt_of_lt_of_le (k3 y e).2 h2⟩
  · omega
set_option maxRecDepth 100000 in
theorem sid_lit (p : Sd) (g : Int) (x : Nat) (w : World) (hq : w.cell? ⟨x, 0, none⟩ = some (.int .i64 g)) :
    Calls Try.prog 54 #[.agg #[.int .i64 p.i, .int .i64 p.nd, .int .i64 p.num, .int .i64 p.dl, .slice p.a p.n p.c], .pointer (some ⟨x, 0, none⟩)] w fun e w' => e = .returned (.bool (decide (p.i = g))) ∧ Only (fun _ => False) w w' := by
  have HO : Hid (∀ o, Only (fun _ => False) w (w.alloc o)) := Lib.hid (fun o => (Only.refl _ w).alloc o)
  have hq2 : ∀ o, (w.alloc o).cell? ⟨x, 0, none⟩ = some (.int .i64 g) := fun o => (HO.out o).cell' hq (fun f => f)
  obtain ⟨i, nd, num, dl, a, n, c, gs⟩ := p
  dsimp only
  by_cases h0 : i = g
  · have e : (i == g) = true := by simpa using h0
    rw [decide_eq_true h0]
    subst h0
    go_enter Try.func54, Try.ntmps54
    go_wp2_with fail
    go_ret
    exact ⟨by simp, HO.out _⟩
  · have e : (i == g) = false := by simpa using h0
    rw [decide_eq_false h0]
    go_enter Try.func54, Try.ntmps54
    go_wp2_with fail
    go_ret
    exact ⟨by simp, HO.out _⟩
set_option maxRecDepth 100000 in
set_option maxHeartbeats 1000000 in
theorem sidx_any (a : Option Addr) (len cap : Nat) (ps : List Sd) (g : Int) (x : Nat) (w : World) (hm : len ≤ 100000) (h : ps.length = len ∧ (len = 0 ∨ ∃ g, a = some ⟨g, 0, none⟩ ∧ SCells w g len ps)) (hq : w.cell? ⟨x, 0, none⟩ = some (.int .i64 g)) :
    Calls Try.prog 53 #[.slice a len cap, .func (.func 54) #[] #[.pointer (some ⟨x, 0, none⟩)]] w fun e w' => e = .returned (.int .i64 (sIdx g 0 (ps.map Sd.sx))) ∧ Only (fun _ => False) w w' := by
  have H := Lib.hid h
  have HL : Hid (ps.length = len) := Lib.hid h.1
  have HQ := Lib.hid hq
  clear h hq
  go_enter Try.func53, Try.ntmps53
  go_wp2_with fail
  go_loopw [8] (fun i wr => ∃ k : Nat, k ≤ len ∧ i = .int .i64 k ∧ Hid (sIdx g k ((ps.map Sd.sx).drop k) = sIdx g 0 (ps.map Sd.sx)) ∧ Hid (Only (fun _ => False) w wr)) (fun i _ => len - (intOf i).toNat)
  case atStart => exact ⟨0, by omega, rfl, Lib.hid rfl, Lib.hid (Only.refl _ _)⟩
  case round =>
    obtain ⟨k, hk, rfl, HP, HW⟩ := hrel
    by_cases h8 : k < len
    · obtain ⟨b, rfl, hcell⟩ := H.out.2.resolve_left (by omega)
      obtain ⟨c0, c1, c2, c3, c4⟩ := hcell k h8
      replace c0 := HW.out.cell' c0 (fun f => f)
      replace c1 := HW.out.cell' c1 (fun f => f)
      replace c2 := HW.out.cell' c2 (fun f => f)
      replace c3 := HW.out.cell' c3 (fun f => f)
      replace c4 := HW.out.cell' c4 (fun f => f)
      have hst := HP.out
      rw [sIdx_step g (by rw [List.length_map, HL.out]; exact h8), sx_get ps (by rw [HL.out]; exact h8)] at hst
      have HUL := Lib.hid (fun w' hq' => sid_lit (ps.getD k default) g x w' hq')
      generalize ps.getD k default = p at *
      obtain ⟨pi, pn, pm, pd, pa, pq, pc, pg⟩ := p
      dsimp only [Sd.sx] at c0 c1 c2 c3 c4 hst HUL
      have HST := Lib.hid hst
      clear hcell hst
      go_wp2_with fail
      refine (HUL.out wr (HW.out.cell' HQ.out (fun f => f))).mono ?_
      rintro _ w1 ⟨rfl, h1⟩
      have HW1 := Lib.hid (HW.out.trans h1)
      clear h1 c0 c1 c2 c3 c4
      by_cases h2 : pi = g
      · rw [decide_eq_true h2]
        have HR : Hid (sIdx g 0 (ps.map Sd.sx) = k) := Lib.hid (HST.out.symm.trans (if_pos h2))
        clear h2
        go_wp2_with fail
        go_ret
        exact ⟨by rw [HR.out]; rfl, HW1.out⟩
      · rw [decide_eq_false h2]
        have HR := Lib.hid ((if_neg h2).symm.trans HST.out)
        clear h2
        go_wp2_with fail
        go_round
        case rel => exact ⟨k + 1, by omega, by go_num, HR, HW1⟩
        case measure => simp [intOf]; omega
    · obtain rfl : k = len := by omega
      have HR : Hid (sIdx g 0 (ps.map Sd.sx) = -1) := Lib.hid (by rw [← HP.out, List.drop_eq_nil_of_le (by rw [List.length_map, HL.out]; omega)]; rfl)
      go_wp2_with fail
      go_ret
      exact ⟨by rw [HR.out]; rfl, HW.out⟩

set_option maxRecDepth 100000 in
theorem cfind_any {S : Nat → Prop} (p : Nat) (places last : Int) (v : Value) (L : List Sd) (g : Int) (w : World) (h : PT S w p places last v L) : Calls Try.prog 24 #[.pointer (some ⟨p, 0, none⟩), .int .i64 g] w fun e w' => e = .returned (.tuple #[.int .i64 (if sIdx g 0 (L.map Sd.sx) < 0 then 0 else sIdx g 0 (L.map Sd.sx)), .int .i64 (if sIdx g 0 (L.map Sd.sx) < 0 then 7 else 0)]) ∧ Only (fun _ => False) w w' := by
  have h1 := h.c2
  have hll := h.len
  obtain ⟨a, cap, rfl, hc, -, -, hr, -⟩ := own_S h.own
  have HO : Hid (Only (fun _ => False) w (w.alloc (.cells #[.int .i64 g] 3))) := Lib.hid ((Only.refl _ w).alloc _)
  have hx : (w.alloc (.cells #[.int .i64 g] 3)).cell? ⟨w.heap.size, 0, none⟩ = some (.int .i64 g) := by
    rw [Go.Joins.cell_of_block (cs := #[.int .i64 g]) (t := 3) (fr := (0, 0)) (by rw [heap_alloc, if_pos rfl])]; rfl
  have HI := Lib.hid (sidx_any a L.length cap L g w.heap.size (w.alloc (.cells #[.int .i64 g] 3)) (by omega) ⟨rfl, hr.imp (fun x => x) (fun ⟨q, e, hq⟩ => ⟨q, e, hq.only HO.out (fun f => f)⟩)⟩ hx)
  replace h1 := HO.out.cell' h1 (fun f => f)
  clear hr hx h
  generalize sIdx g 0 (L.map Sd.sx) = k at *
  go_enter Try.func24, Try.ntmps24
  go_wp2_with fail
  refine HI.out.mono ?_
  rintro _ w1 ⟨rfl, k1⟩
  have KE := Lib.hid (HO.out.trans k1)
  clear k1 h1 HI
  by_cases hk : k < 0
  · go_wp2_with fail
    go_ret2
    first | exact ⟨rfl, KE.out⟩ | exact ⟨by simp [hk], KE.out⟩
  · go_wp2_with fail
    go_ret2
    first | exact ⟨rfl, KE.out⟩ | exact ⟨by simp [hk], KE.out⟩ | exact ⟨by rw [if_neg (by omega), if_neg (by omega)]; rfl, KE.out⟩
theorem clast_any {S : Nat → Prop} (p : Nat) (places last : Int) (v : Value) (L : List Sd) (w : World) (h : PT S w p places last v L) : Calls Try.prog 15 #[.pointer (some ⟨p, 0, none⟩)] w fun e w' => e = .returned (.int .i64 last) ∧ Only (fun _ => False) w w' := by
  have h1 := h.c1
  clear h
  go_enter Try.func15, Try.ntmps15
  go_wp2_with fail
  go_ret
  exact ⟨rfl, Only.refl _ _⟩
theorem cnew_any (places : Int) (w : World) (h1 : 1 ≤ places) (h2 : places ≤ 16) : Calls Try.prog 17 #[.int .i64 places] w fun e w' => e = .returned (.tuple #[.pointer (some ⟨w.heap.size, 0, none⟩), .int .i64 0]) ∧ PT (fun q => w.heap.size ≤ q) w' w.heap.size places 0 (.slice none 0 0) [] ∧ Only (fun _ => False) w w' := by
  have hcell : ∀ i u, (#[.int .i64 places, .int .i64 0, .slice none 0 0] : Array Value)[i]? = some u → (w.alloc (.cells #[.int .i64 places, .int .i64 0, .slice none 0 0] 67)).cell? ⟨w.heap.size, i, none⟩ = some u := fun i u hu => by
    rw [Go.Joins.cell_of_block (cs := #[.int .i64 places, .int .i64 0, .slice none 0 0]) (t := 67) (fr := (0, 0)) (by rw [heap_alloc, if_pos rfl])]; exact hu
  have hfr : ∀ i, (w.alloc (.cells #[.int .i64 places, .int .i64 0, .slice none 0 0] 67)).frozen? ⟨w.heap.size, i, none⟩ = false := fun i => by
    have e : (w.alloc (.cells #[.int .i64 places, .int .i64 0, .slice none 0 0] 67)).heap[w.heap.size]? = some (.cells #[.int .i64 places, .int .i64 0, .slice none 0 0] 67) := by rw [heap_alloc, if_pos rfl]
    unfold World.frozen?
    dsimp only
    rw [e]
    simp
  have H : Hid (PT (fun q => w.heap.size ≤ q) (w.alloc (.cells #[.int .i64 places, .int .i64 0, .slice none 0 0] 67)) w.heap.size places 0 (.slice none 0 0) [] ∧ Only (fun _ => False) w (w.alloc (.cells #[.int .i64 places, .int .i64 0, .slice none 0 0] 67))) := Lib.hid ⟨⟨hcell 0 _ rfl, hcell 1 _ rfl, hcell 2 _ rfl, hfr 1, hfr 2, OwnR.nil _ _, by simp [Value.ownBlock], by simp, Nat.le_refl _, (fun q e => by simp [Value.ownBlock] at e), (fun x hx => by cases hx), (fun _ x hx => by cases hx)⟩, (Only.refl _ w).alloc _⟩
  clear hcell hfr
  go_enter Try.func17, Try.ntmps17
  go_wp2_with fail
  go_ret2
  exact ⟨rfl, H.out⟩
/-- a session of a table, as it stands there -/
theorem CtAt.at {N : Bool} {t : TypeId} {S : Nat → Prop} {w : World} {p : Nat} {pl last : Int} {v : Value} {L : List Sd} (h : CtAt N t S w p pl last v L) {k : Nat} (hk : k < L.length) : ∃ g cap, v = .slice (some ⟨g, 0, none⟩) L.length cap ∧ L.length ≤ cap ∧ S g ∧ (w.cell? ⟨g, k * 5, none⟩ = some (.int .i64 (L.getD k default).i) ∧ w.cell? ⟨g, k * 5 + 1, none⟩ = some (.int .i64 (L.getD k default).nd) ∧ w.cell? ⟨g, k * 5 + 2, none⟩ = some (.int .i64 (L.getD k default).num) ∧ w.cell? ⟨g, k * 5 + 3, none⟩ = some (.int .i64 (L.getD k default).dl) ∧ w.cell? ⟨g, k * 5 + 4, none⟩ = some (.slice (L.getD k default).a (L.getD k default).n (L.getD k default).c)) ∧ GrIn S w p v (L.getD k default) ∧ (N = true → (L.getD k default).n = 0 → (L.getD k default).a = none ∧ (L.getD k default).c = 0) := by
  obtain ⟨a, cap, hv, hc, -, h0, hr, hb⟩ := own_S h.own
  obtain ⟨g, rfl, hcell⟩ := hr.resolve_left (by omega)
  have hm : L.getD k default ∈ L := by
    have : L.getD k default = L[k] := by simp [List.getD, hk]
    rw [this]; exact List.getElem_mem hk
  exact ⟨g, cap, hv, hc, h.sv g (hb _ rfl).1, hcell k hk, h.kd _ hm, fun e => h.nz e _ hm⟩
set_option maxRecDepth 100000 in
theorem cstep_any {S : Nat → Prop} (p : Nat) (places last : Int) (v : Value) (L : List Sd) (g m : Int) (w : World) (h : PT S w p places last v L) (hin : ∀ x ∈ L, x.num ≤ 4611686018427387904 ∧ 0 ≤ x.num) : Calls Try.prog 13 #[.pointer (some ⟨p, 0, none⟩), .int .i64 g, .int .i64 m] w fun e w' => e = .returned (.int .i64 (stepE (L.map Sd.sx) g m)) ∧ Only (fun _ => False) w w' := by
  have HF := Lib.hid (cfind_any p places last v L g w h)
  have HH := Lib.hid h
  have HIN := Lib.hid hin
  obtain ⟨RE, hRE⟩ : ∃ x, x = stepE (L.map Sd.sx) g m := ⟨_, rfl⟩
  rw [← hRE]
  unfold stepE at hRE
  clear h hin
  rcases sIdx_cases g (L.map Sd.sx) 0 with ⟨h1, -⟩ | ⟨k, hk, h1, -⟩
  · rw [show ((0 : Nat) : Int) = 0 from rfl] at h1
    rw [h1] at HF hRE
    rw [if_pos (by decide)] at hRE
    have HRE := Lib.hid hRE
    clear hRE h1
    go_enter Try.func13, Try.ntmps13
    go_wp2_with fail
    refine HF.out.mono ?_
    rintro _ w1 ⟨rfl, h1⟩
    have H1 := Lib.hid h1
    clear h1
    rw [if_pos (by decide), if_pos (by decide)]
    go_wp2_with fail
    go_ret
    exact ⟨by rw [HRE.out]; rfl, H1.out⟩
  · rw [List.length_map] at hk
    rw [show ((0 : Nat) : Int) = 0 from rfl, Nat.zero_add] at h1
    rw [h1] at HF hRE
    rw [if_neg (by omega), Int.toNat_natCast, sx_get L hk] at hRE
    obtain ⟨b, cap, rfl, hcc, -, ⟨c0, c1, c2, c3, c4⟩, -, -⟩ := HH.out.at hk
    have c5 := HH.out.c2
    have hnm := HIN.out (L.getD k default) (by
      have : L.getD k default = L[k] := by simp [List.getD, hk]
      rw [this]; exact List.getElem_mem hk)
    have hlm := HH.out.len
    generalize L.getD k default = x at *
    generalize L.length = ln at *
    obtain ⟨xi, xn, xm, xd, xa, xq, xc, xg⟩ := x
    dsimp only [Sd.sx] at c0 c1 c2 c3 c4 hRE hnm
    have hki : (0 : Int) ≤ (k : Int) := by omega
    have hkn : ¬ (k : Int) < 0 := by omega
    have hkl : (k : Int) < (ln : Int) := by omega
    have hw1 : IntKind.i64.wrap (xm + 1) = xm + 1 := by rw [IntKind.wrap_i64]; omega
    by_cases hm : m = xm + 1
    · have hb : (m != xm + 1) = false := by simpa using hm
      have HRE : Hid (RE = 0) := Lib.hid (hRE.trans (if_neg (fun q => q hm)))
      clear hRE h1 hm hnm
      go_enter Try.func13, Try.ntmps13
      go_wp2_with fail
      refine HF.out.mono ?_
      rintro _ w1 ⟨rfl, h1⟩
      have H1 := Lib.hid h1
      replace c2 := h1.cell' c2 (fun f => f)
      replace c5 := h1.cell' c5 (fun f => f)
      clear h1 c0 c1 c3 c4
      rw [if_neg (by omega), if_neg (by omega)]
      go_wp2_with fail
      go_ret
      exact ⟨by rw [HRE.out]; rfl, H1.out⟩
    · have hb : (m != xm + 1) = true := by simpa using hm
      have HRE : Hid (RE = 15) := Lib.hid (hRE.trans (if_pos hm))
      clear hRE h1 hm hnm
      go_enter Try.func13, Try.ntmps13
      go_wp2_with fail
      refine HF.out.mono ?_
      rintro _ w1 ⟨rfl, h1⟩
      have H1 := Lib.hid h1
      replace c2 := h1.cell' c2 (fun f => f)
      replace c5 := h1.cell' c5 (fun f => f)
      clear h1 c0 c1 c3 c4
      rw [if_neg (by omega), if_neg (by omega)]
      go_wp2_with fail
      go_ret
      exact ⟨by rw [HRE.out]; rfl, H1.out⟩
end Go.Proofs.Ythflglejhhebeaa.cs
