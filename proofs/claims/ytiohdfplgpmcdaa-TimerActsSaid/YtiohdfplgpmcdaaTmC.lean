/- Timers: their order; Drop. -/
import Derived.Test.YtiohdfplgpmcdaaTmB
import Derived.Test.YtiohdfplgpmcdaaMemI
import Derived.Test.YtiohdfplgpmcdaaShelf
import Derived.Deep.RegionHeld3
import Derived.Deep.CutRange
namespace Go.Proofs.Ytiohdfplgpmcdaa.tmw
open Go.RowKit mem rowz
set_option linter.unusedVariables false

theorem compare_ints (x y : Int) (w : World) : Calls Try.prog 64 #[.int .i64 x, .int .i64 y] w fun e w' => e = .returned (.int .i64 (Lib.compareInt x y)) ∧ w = w' :=
  (Try.cmp_Compare_int x y w).mono fun _ _ ⟨a, b⟩ => ⟨a, b.symm⟩

/-- the first that isn't nought -/
def orL (l : List Int) : Int := (l.find? fun x => !(x == 0)).getD 0
theorem orL_cons (x : Int) (l : List Int) : orL (x :: l) = if x = 0 then orL l else x := by
  unfold orL
  by_cases h : x = 0
  · subst h; simp
  · rw [if_neg h, List.find?_cons_of_pos (by simpa using h)]; rfl
theorem drop_get (l : List Int) (k : Nat) (h : k < l.length) : l.drop k = l.getD k 0 :: l.drop (k + 1) := by
  rw [List.drop_eq_getElem_cons h]
  simp [List.getD, h]

theorem or_any (a : Option Addr) (len cap : Nat) (l : List Int) (w : World) (h : ReadsI w a len l) :
    Calls Try.prog 63 #[.slice a len cap] w fun e w' => e = .returned (.int .i64 (orL l)) ∧ w = w' := by
  have hm := h.2.1
  unfold maxLen at hm
  have H := Lib.hid h
  clear h
  go_enter Try.func63, Try.ntmps63
  go_wp2_with fail
  go_loop [8] (fun i => ∃ k : Nat, k ≤ len ∧ i = .int .i64 k ∧ Hid (orL (l.drop k) = orL l)) (fun i => len - (intOf i).toNat)
  case atStart => exact ⟨0, by omega, rfl, Lib.hid rfl⟩
  case round =>
    obtain ⟨k, hk, rfl, HP⟩ := hrel
    by_cases h8 : k < len
    · obtain ⟨b, off, rfl, hcell⟩ := H.out.2.2.2.resolve_left (by omega)
      have hcl := hcell k h8
      clear hcell
      have hd := HP.out
      rw [drop_get l k (by rw [H.out.1]; exact h8), orL_cons] at hd
      generalize l.getD k 0 = x at *
      by_cases hx : x = 0
      · rw [if_pos hx] at hd
        have HD := Lib.hid hd
        subst hx
        clear hd
        go_wp2_with fail
        go_round
        case rel => exact ⟨k + 1, by omega, by go_num, HD⟩
        case measure => simp [intOf]; omega
      · rw [if_neg hx] at hd
        have HD := Lib.hid hd
        have hx1 : (x == 0) = false := by simpa using hx
        have hx2 : (x != 0) = true := by simpa using hx
        clear hd hx
        go_wp2_with fail
        rw [← HD.out]
        go_ret
        exact ⟨rfl, rfl⟩
    · obtain rfl : k = len := by omega
      have HR : Hid (orL l = 0) := Lib.hid (by
        have := HP.out
        rw [List.drop_eq_nil_of_le (by rw [H.out.1]; omega)] at this
        rw [← this]; rfl)
      go_wp2_with fail
      rw [HR.out]
      go_ret
      exact ⟨rfl, rfl⟩


theorem or_two (g : Nat) (a b : Int) (w : World) (ha : -9223372036854775808 ≤ a ∧ a ≤ 9223372036854775807) (hb : -9223372036854775808 ≤ b ∧ b ≤ 9223372036854775807)
    (c0 : w.cell? ⟨g, 0, none⟩ = some (.int .i64 a)) (c1 : w.cell? ⟨g, 1, none⟩ = some (.int .i64 b)) :
    Calls Try.prog 63 #[.slice (some ⟨g, 0, none⟩) 2 2] w fun e w' => e = .returned (.int .i64 (orL [a, b])) ∧ w = w' := by
  refine or_any _ _ _ _ _ ⟨rfl, by unfold maxLen; omega, ?_, .inr ⟨g, 0, rfl, ?_⟩⟩
  · intro x hx
    simp at hx
    rcases hx with rfl | rfl <;> assumption
  · intro i hi
    match i, hi with
    | 0, _ => exact c0
    | 1, _ => exact c1
theorem cmpInt_in (x y : Int) : -9223372036854775808 ≤ Lib.compareInt x y ∧ Lib.compareInt x y ≤ 9223372036854775807 := by
  unfold Lib.compareInt
  repeat' split
  all_goals omega

theorem alloc_newM (W : World) (cs : Array Value) (t : TypeId) (g i : Nat) (v : Value) (hg : g = W.heap.size) (h : cs[i]? = some v) : (W.alloc (.cells cs t)).cell? ⟨g, i, none⟩ = some v := by
  subst hg
  rw [Go.Joins.cell_of_block (cs := cs) (t := t) (fr := (0, 0)) (by rw [heap_alloc, if_pos rfl]), h]
/-- ahead of another -/
def ltM (x y : Tm) : Prop := x.a < y.a ∨ x.a = y.a ∧ x.i < y.i
instance (x y : Tm) : Decidable (ltM x y) := inferInstanceAs (Decidable (_ ∨ _))
def cmpM (x y : Tm) : Int := if x.a < y.a then -1 else if y.a < x.a then 1 else if x.i < y.i then -1 else if y.i < x.i then 1 else 0
theorem cmpM_lt (x y : Tm) : cmpM x y < 0 ↔ ltM x y := by
  unfold cmpM ltM
  repeat' split
  all_goals omega
theorem cmpM_or (xa xi ya yi : Int) : orL [Lib.compareInt xa ya, Lib.compareInt xi yi] = cmpM ⟨xa, xi⟩ ⟨ya, yi⟩ := by
  rw [orL_cons, orL_cons]
  unfold Lib.compareInt cmpM
  have : orL [] = 0 := rfl
  rw [this]
  dsimp only
  repeat' split
  all_goals omega
set_option maxRecDepth 100000 in
set_option maxHeartbeats 2000000 in
theorem tcmp_any (xa xi ya yi : Int) (w : World) : Calls Try.prog 41 #[.agg #[.int .i64 xa, .int .i64 xi], .agg #[.int .i64 ya, .int .i64 yi]] w fun e w' => e = .returned (.int .i64 (cmpM ⟨xa, xi⟩ ⟨ya, yi⟩)) ∧ Only (fun _ => False) w w' := by
  obtain ⟨W0, hW0⟩ : ∃ W0, W0 = (w.alloc (.cells #[.int .i64 xa, .int .i64 xi] 80)).alloc (.cells #[.int .i64 ya, .int .i64 yi] 80) := ⟨_, rfl⟩
  have HO0 : Hid (Only (fun _ => False) w W0) := Lib.hid (by rw [hW0]; exact ((Only.refl _ w).alloc _).alloc _)
  have HS : Hid (∀ w', Only (fun _ => False) W0 w' → Only (fun _ => False) W0 w' ∧ w'.cell? ⟨w.heap.size, 0, none⟩ = some (.int .i64 xa) ∧ w'.cell? ⟨w.heap.size, 1, none⟩ = some (.int .i64 xi) ∧ w'.cell? ⟨w.heap.size + 1, 0, none⟩ = some (.int .i64 ya) ∧ w'.cell? ⟨w.heap.size + 1, 1, none⟩ = some (.int .i64 yi)) := Lib.hid (fun w' ho => by
    have h0 : Only (fun _ => False) (w.alloc (.cells #[.int .i64 xa, .int .i64 xi] 80)) w' := Only.trans (by rw [hW0]; exact (Only.refl _ _).alloc _) ho
    refine ⟨ho, h0.cell' (alloc_newM _ _ _ _ _ _ rfl rfl) (fun f => f), h0.cell' (alloc_newM _ _ _ _ _ _ rfl rfl) (fun f => f), ho.cell' ?_ (fun f => f), ho.cell' ?_ (fun f => f)⟩
    · rw [hW0]; exact alloc_newM _ _ _ _ _ _ (by simp) rfl
    · rw [hW0]; exact alloc_newM _ _ _ _ _ _ (by simp) rfl)
  go_enter Try.func41, Try.ntmps41
  go_upto_region 1 with fail
  rw [← hW0]
  clear hW0
  refine wp_region_noPanic ?_
  refine wp_region_held_drew (S := (fun w' => Only (fun _ => False) W0 w' ∧ w'.cell? ⟨w.heap.size, 0, none⟩ = some (.int .i64 xa) ∧ w'.cell? ⟨w.heap.size, 1, none⟩ = some (.int .i64 xi) ∧ w'.cell? ⟨w.heap.size + 1, 0, none⟩ = some (.int .i64 ya) ∧ w'.cell? ⟨w.heap.size + 1, 1, none⟩ = some (.int .i64 yi))) (by kernel_rfl) (HS.out _ (Only.refl _ _).drew) (fun hHeld => ?_)
  have hot := Lib.hid ((Only.refl (fun _ => False) W0).drew)
  generalize W0.drew = u0 at *
  refine wpAnyH_take (i := 0) (v := ?_) rfl (by kernel_rfl) (by kernel_rfl) (by kernel_rfl) (fun _ _ _ h => h) (Or.inl ⟨by rfl, ?_⟩) (by assumption) ?_
  rotate_left 1
  · intro w' hSw
    try dsimp only at hSw
    go_simp
    try with_reducible rfl
  try simp only [List.getElem_toArray, List.getElem_cons_zero, Act.put, List.setIfInBounds_toArray, List.set_cons_zero, List.set_cons_succ]
  refine wpAnyH_take (i := 1) (v := ?_) rfl (by kernel_rfl) (by kernel_rfl) (by kernel_rfl) (fun _ _ _ h => h) (Or.inl ⟨by rfl, ?_⟩) (by assumption) ?_
  rotate_left 1
  · intro w' hSw
    try dsimp only at hSw
    go_simp
    try with_reducible rfl
  try simp only [List.getElem_toArray, List.getElem_cons_zero, List.getElem_cons_succ, Act.put, List.setIfInBounds_toArray, List.set_cons_zero, List.set_cons_succ]
  refine wpAnyH_take (i := 2) (v := ?_) rfl (by kernel_rfl) (by kernel_rfl) (by kernel_rfl) (fun _ _ _ h => h) (Or.inl ⟨by rfl, ?_⟩) (by assumption) ?_
  rotate_left 1
  · intro w' hSw
    try dsimp only at hSw
    go_simp
    try with_reducible rfl
  try simp only [List.getElem_toArray, List.getElem_cons_zero, List.getElem_cons_succ, Act.put, List.setIfInBounds_toArray, List.set_cons_zero, List.set_cons_succ]
  refine wpAnyH_take (i := 3) (v := ?_) rfl (by kernel_rfl) (by kernel_rfl) (by kernel_rfl) (fun _ _ _ h => h) (Or.inl ⟨by rfl, ?_⟩) (by assumption) ?_
  rotate_left 1
  · intro w' hSw
    try dsimp only at hSw
    go_simp
    try with_reducible rfl
  try simp only [List.getElem_toArray, List.getElem_cons_zero, List.getElem_cons_succ, Act.put, List.setIfInBounds_toArray, List.set_cons_zero, List.set_cons_succ]
  refine wpAnyH_take (i := 5) (v := ?_) rfl (by kernel_rfl) (by kernel_rfl) (by kernel_rfl) (fun _ _ _ h => h) (Or.inl ⟨by rfl, ?_⟩) (by assumption) ?_
  rotate_left 1
  · intro w' hSw
    try dsimp only at hSw
    go_simp
    try with_reducible rfl
  try simp only [List.getElem_toArray, List.getElem_cons_zero, List.getElem_cons_succ, Act.put, List.setIfInBounds_toArray, List.set_cons_zero, List.set_cons_succ]
  refine wpAnyH_take (i := 6) (v := ?_) rfl (by kernel_rfl) (by kernel_rfl) (by kernel_rfl) (fun _ _ _ h => h) (Or.inl ⟨by rfl, ?_⟩) (by assumption) ?_
  rotate_left 1
  · intro w' hSw
    try dsimp only at hSw
    go_simp
    try with_reducible rfl
  try simp only [List.getElem_toArray, List.getElem_cons_zero, List.getElem_cons_succ, Act.put, List.setIfInBounds_toArray, List.set_cons_zero, List.set_cons_succ]
  refine wpAnyH_take (i := 7) (v := ?_) rfl (by kernel_rfl) (by kernel_rfl) (by kernel_rfl) (fun _ _ _ h => h) (Or.inl ⟨by rfl, ?_⟩) (by assumption) ?_
  rotate_left 1
  · intro w' hSw
    try dsimp only at hSw
    go_simp
    try with_reducible rfl
  try simp only [List.getElem_toArray, List.getElem_cons_zero, List.getElem_cons_succ, Act.put, List.setIfInBounds_toArray, List.set_cons_zero, List.set_cons_succ]
  refine wpAnyH_take (i := 8) (v := ?_) rfl (by kernel_rfl) (by kernel_rfl) (by kernel_rfl) (fun _ _ _ h => h) (Or.inl ⟨by rfl, ?_⟩) (by assumption) ?_
  rotate_left 1
  · intro w' hSw
    try dsimp only at hSw
    go_simp
    try with_reducible rfl
  try simp only [List.getElem_toArray, List.getElem_cons_zero, List.getElem_cons_succ, Act.put, List.setIfInBounds_toArray, List.set_cons_zero, List.set_cons_succ]
  refine wpAnyH_ready (rs := [4]) (by kernel_rfl) (by simp) ?_
  refine AllReadyH.cons rfl (fun K hK => ?_) AllReadyH.nil
  try simp only [List.getElem_toArray, List.getElem_cons_zero, List.getElem_cons_succ]
  go_simp
  go_at_call 64
  with_reducible refine (compare_ints xa ya _).mono ?_
  rintro _ _ ⟨rfl, rfl⟩
  try dsimp only
  refine hK.out _ _ (HS.out _ hot.out) (fun hHeld1 => ?_)
  clear hK K
  try simp only [List.getElem_toArray, List.getElem_cons_zero, List.getElem_cons_succ, Act.put, List.setIfInBounds_toArray, List.set_cons_zero, List.set_cons_succ]
  refine wpAnyH_ready (rs := [9]) (by kernel_rfl) (by simp) ?_
  refine AllReadyH.cons rfl (fun K hK => ?_) AllReadyH.nil
  try simp only [List.getElem_toArray, List.getElem_cons_zero, List.getElem_cons_succ]
  go_simp
  go_at_call 64
  with_reducible refine (compare_ints xi yi _).mono ?_
  rintro _ _ ⟨rfl, rfl⟩
  try dsimp only
  refine hK.out _ _ (HS.out _ hot.out) (fun hHeld2 => ?_)
  clear hK K
  try simp only [List.getElem_toArray, List.getElem_cons_zero, List.getElem_cons_succ, Act.put, List.setIfInBounds_toArray, List.set_cons_zero, List.set_cons_succ]
  refine wpAnyH_ready (rs := [10]) (by kernel_rfl) (by simp) ?_
  refine AllReadyH.cons rfl (fun K hK => ?_) AllReadyH.nil
  try simp only [List.getElem_toArray, List.getElem_cons_zero, List.getElem_cons_succ]
  go_simp
  obtain ⟨w5, hw5⟩ : ∃ x, x = u0.alloc (.cells #[.int .i64 (Lib.compareInt xa ya), .int .i64 (Lib.compareInt xi yi)] 3) := ⟨_, rfl⟩
  rw [← hw5]
  have HOR : Hid (Calls Try.prog 63 #[.slice (some ⟨u0.heap.size, 0, none⟩) 2 2] w5 fun e w' => e = .returned (.int .i64 (orL [Lib.compareInt xa ya, Lib.compareInt xi yi])) ∧ w5 = w') := Lib.hid (or_two _ _ _ w5 (cmpInt_in _ _) (cmpInt_in _ _) (by rw [hw5]; exact alloc_newM _ _ _ _ _ _ rfl rfl) (by rw [hw5]; exact alloc_newM _ _ _ _ _ _ rfl rfl))
  have hot5 : Hid (Only (fun _ => False) W0 w5) := Lib.hid (by rw [hw5]; exact hot.out.alloc _)
  clear hw5
  refine hK.out _ _ (HS.out _ hot5.out) (fun hHeld3 => ?_)
  clear hK K
  try simp only [List.getElem_toArray, List.getElem_cons_zero, List.getElem_cons_succ, Act.put, List.setIfInBounds_toArray, List.set_cons_zero, List.set_cons_succ]
  refine wpAnyH_ready (rs := [11]) (by kernel_rfl) (by simp) ?_
  refine AllReadyH.cons rfl (fun K hK => ?_) AllReadyH.nil
  try simp only [List.getElem_toArray, List.getElem_cons_zero, List.getElem_cons_succ]
  go_simp
  go_at_call 63
  with_reducible refine HOR.out.mono ?_
  rintro _ _ ⟨rfl, rfl⟩
  try dsimp only
  refine hK.out _ _ (HS.out _ hot5.out) (fun hHeld4 => ?_)
  clear hK K
  try simp only [List.getElem_toArray, List.getElem_cons_zero, List.getElem_cons_succ, Act.put, List.setIfInBounds_toArray, List.set_cons_zero, List.set_cons_succ]
  refine wpAnyH_take (i := 12) (v := ?_) rfl (by kernel_rfl) (by kernel_rfl) (by kernel_rfl) (fun _ _ _ h => h) (Or.inl ⟨by rfl, ?_⟩) (by assumption) ?_
  rotate_left 1
  · intro w' hSw
    try dsimp only at hSw
    go_simp
    try with_reducible rfl
  try simp only [List.getElem_toArray, List.getElem_cons_zero, List.getElem_cons_succ, Act.put, List.setIfInBounds_toArray, List.set_cons_zero, List.set_cons_succ]
  refine wpAnyH_done (by kernel_rfl) ?_ _
  refine NoPanic.normal ?_
  rw [cmpM_or]
  have KE := Lib.hid (HO0.out.trans hot5.out)
  go_wp2_with fail
  go_ret
  exact ⟨rfl, KE.out⟩

set_option maxRecDepth 100000 in
set_option maxHeartbeats 2000000 in
theorem tdrop_any (p : Nat) (v : Value) (l : List Tm) (g : Int) (w : World) (h : TmAt w p v l) : Calls Try.prog 13 #[.pointer (some ⟨p, 0, none⟩), .int .i64 g] w fun e w' => e = .returned (.int .i64 (if mIdx g 0 l < 0 then 7 else 0)) ∧ (∃ v', TmAt w' p v' (remM g l) ∧ v'.ownBlock = v.ownBlock) ∧ Only (TmS p v) w w' := by
  have HF := Lib.hid (tfind_any p v l g w h)
  have HT := Lib.hid h
  rcases mIdx_rem g l 0 with ⟨e1, e2, _⟩ | ⟨k, hk, e1, e2, _⟩
  · have e1 : mIdx g 0 l = -1 := e1
    rw [e2]
    rw [e1] at HF ⊢
    rw [if_pos (by decide), if_pos (by decide)] at HF
    rw [if_pos (by decide)]
    clear h e1 e2
    go_enter Try.func13, Try.ntmps13
    go_wp2_with fail
    refine HF.out.mono ?_
    rintro _ w1 ⟨rfl, k1⟩
    have KE := Lib.hid k1
    clear k1
    go_wp2_with fail
    go_ret
    exact ⟨rfl, ⟨v, HT.out.only KE.out (fun f => f) (fun _ _ f => f), rfl⟩, KE.out.mono (fun _ _ f => f.elim)⟩
  · rw [Nat.zero_add] at e1
    have e1 : mIdx g 0 l = (k : Int) := e1
    rw [e1] at HF ⊢
    have hk0 : ¬ ((k : Int) < 0) := by omega
    rw [if_neg hk0, if_neg hk0] at HF
    rw [if_neg hk0]
    obtain ⟨h1, hfz, h3, hne, hll⟩ := h
    rcases h3.form with ⟨rfl, rfl⟩ | ⟨q, cap, rfl, hq, hc, hm, _⟩
    · simp at hk
    · have hpq : q ≠ p := fun e => hne (by simp [Value.ownBlock, e])
      have hlen : (remM g l).length = k + (l.length - (k + 1)) := by rw [e2, List.length_append, List.length_take, List.length_drop]; omega
      have HDL : Hid (∀ w', Only (fun _ => False) w w' → Calls Try.prog 43 #[.slice (some ⟨q, 0, none⟩) l.length cap, .int .i64 k, .int .i64 ((k : Int) + 1)] w' fun e w'' => e = .returned (.slice (some ⟨q, 0, none⟩) (remM g l).length cap) ∧ OwnM w'' (.slice (some ⟨q, 0, none⟩) (remM g l).length cap) (remM g l) ∧ Only (fun x => x = q) w' w'') := Lib.hid (fun w' ho => by
        have hd := tdel_any q l.length cap (mv l) k (k + 1) (by omega) (by omega) (mv_one l) w' (h3.only ho (fun _ _ f => f))
        rw [mv_take, mv_drop, ← mv_append, ← e2, ← hlen] at hd
        have e : ((k + 1 : Nat) : Int) = (k : Int) + 1 := by omega
        rw [e] at hd
        exact hd)
      have hkl : (k : Int) < 2000 := by omega
      have c1 := h1
      clear h3 e1 e2 hm hc hne h1
      have hpw : p < w.heap.size := World.block_lt_of_cell? w _ c1
      have HR : Hid ((remM g l).length ≤ 2000) := Lib.hid (by omega)
      clear hlen hll
      go_enter Try.func13, Try.ntmps13
      go_wp2_with fail
      refine HF.out.mono ?_
      rintro _ w1 ⟨rfl, k1⟩
      have K1 := Lib.hid k1
      have d1 := k1.cell' c1 (fun f => f)
      clear k1 HF
      go_wp2_with fail
      refine (HDL.out _ K1.out).mono ?_
      rintro _ w2 ⟨rfl, hown, k2⟩
      have K2 : Hid (Only (TmS p (.slice (some ⟨q, 0, none⟩) l.length cap)) w w2) := Lib.hid ((K1.out.mono (fun _ _ f => f.elim)).then k2 (fun i _ e => .inr (by have e' : i = q := e; rw [e']; rfl)))
      have d2 := k2.cell' d1 (fun e => hpq (by have e' : p = q := e; exact e'.symm))
      have f2 : w2.frozen? ⟨p, 0, none⟩ = false := ((K1.out.trans (Only.refl _ _)).frozen (p := ⟨p, 0, none⟩) hpw (fun f => f)).trans hfz |> fun h9 => (k2.frozen (p := ⟨p, 0, none⟩) (by have := K1.out.size; show p < _; omega) (fun e => hpq (by have e' : p = q := e; exact e'.symm))).trans h9
      have HOWN := Lib.hid hown
      clear k2 hown d1 HDL
      have HST : Hid (Only (fun x => x = p) w2 (w2.setCell ⟨p, 0, none⟩ (.slice (some ⟨q, 0, none⟩) (remM g l).length cap))) := Lib.hid (Only.set (fun x => x = p) w2 p 0 _ rfl)
      have HC : Hid ((w2.setCell ⟨p, 0, none⟩ (.slice (some ⟨q, 0, none⟩) (remM g l).length cap)).cell? ⟨p, 0, none⟩ = some (.slice (some ⟨q, 0, none⟩) (remM g l).length cap)) := Lib.hid (cell_same d2)
      have HFZ : Hid ((w2.setCell ⟨p, 0, none⟩ (.slice (some ⟨q, 0, none⟩) (remM g l).length cap)).frozen? ⟨p, 0, none⟩ = false) := Lib.hid (frozen_set.trans f2)
      go_wp2_with fail
      go_ret
      exact ⟨rfl, ⟨_, ⟨HC.out, HFZ.out, HOWN.out.only HST.out (fun x hx e => by have e' : x = p := e; have e2 : q = x := (by simpa [Value.ownBlock] using hx); exact hpq (by rw [e2, e'])), fun e => hpq (by simpa [Value.ownBlock] using e), HR.out⟩, rfl⟩, K2.out.then HST.out (fun i _ e => .inl e)⟩
end Go.Proofs.Ytiohdfplgpmcdaa.tmw
