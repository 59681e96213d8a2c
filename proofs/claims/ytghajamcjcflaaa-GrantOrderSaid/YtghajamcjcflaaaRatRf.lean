/- Plans: the document's Dear, Worst. -/
import Derived.Test.YtghajamcjcflaaaRatIs
import Derived.Test.YtghajamcjcflaaaRatS
import Derived.Test.YtghajamcjcflaaaStepApp
namespace Go.Proofs.Ytghajamcjcflaaa.tirw
open Go.RowKit mem tirm intm bigm bigw
set_option linter.unusedVariables false

theorem dearF_app : ∀ (a b : List Tr) (d : Int), dearF d (a ++ b) = dearF (dearF d a) b := by
  intro a
  induction a with
  | nil => intro b d; rfl
  | cons x r ih => intro b d; show dearF (max d x.p) (r ++ b) = _; rw [ih]; rfl
theorem dearF_max : ∀ (b : List Tr) (d e : Int), dearF (max d e) b = max d (dearF e b) := by
  intro b
  induction b with
  | nil => intro d e; rfl
  | cons x r ih => intro d e; show dearF (max (max d e) x.p) r = max d (dearF (max e x.p) r); rw [Int.max_assoc, ih]
theorem dear_both (a b : List Tr) : dearF 0 (a ++ b) = dearP a b := by
  rw [dearF_app]
  unfold dearP
  have h := (dearF_ge a 0).1
  have e : dearF 0 a = max (dearF 0 a) 0 := by omega
  rw [e, dearF_max]
  congr 1
theorem step_none_any {P : Program} {ops : Array Oper} {o : Oper} {a : Act} {w : World} {K : Act → World → Prop} {Q : Exit → Act → World → Prop} {E : Prop}
    (hg : o.guard = none) (s x : Operand) (t : TypeId) (ho : o.op = Op.call { callee := Callee.builtin Builtin.append, args := #[s, x], argTypes := #[t, t] })
    (base : Nat) (e : TypeId) (i : TypeInfo) (size : Nat) (ht : P.underlying t = some (.slice e)) (hi : P.info? e = some i)
    (v : Value) (n : Nat) (xs : List Value) (c : Nat) (hs : a.eval s = v) (hown : w.ownsRow base e size v n xs) (hx : a.eval x = .slice none 0 c)
    (hK : K (a.put o.dst v) w) : if Region.wanted o (yielded ops a.tmps) = true then Oper.wp P o a w K Q else E := by
  have hw : Region.wanted o (yielded ops a.tmps) = true := by simp [Region.wanted, hg]
  rw [if_pos hw]
  have hrun := run_append_none_any (P := P) (w := w) base t o.type e i size ht hi v n xs c hown
  unfold Oper.wp
  simp [execOp, ho, resolve, invoke, builtin, hs, hx, hrun, Result.andThen]
  exact hK

theorem step_tiers {ops : Array Oper} {o : Oper} {a : Act} {w : World} {K : Act → World → Prop} {Q : Exit → Act → World → Prop} {E : Prop}
    (hg : o.guard = none) (s x : Operand) (ho : o.op = Op.call { callee := Callee.builtin Builtin.append, args := #[s, x], argTypes := #[33, 33] })
    (v : Value) (xs : List Tr) (hs : a.eval s = v) (hown : OwnT w v xs) (ad : Option Addr) (m c : Nat) (ts : List Tr) (hx : a.eval x = .slice ad m c) (hr : ReadsT w ad m ts) (hb : xs.length + m ≤ 1000000)
    (hK : ∀ v' w', OwnT w' v' (xs ++ ts) → w.grownBy w' v.ownBlock → (∀ k, v'.ownBlock = some k → v.ownBlock = some k ∨ w.heap.size ≤ k) → K (a.put o.dst v') w') :
    if Region.wanted o (yielded ops a.tmps) = true then Oper.wp Try.prog o a w K Q else E := by
  obtain ⟨i0, hi, hz0, hz1, hz2⟩ := info_parts info_tier
  rcases ad with _ | ad
  · have hm : m = 0 := hr.2.2.2.elim id (fun ⟨b, off, e, _⟩ => by cases e)
    subst hm
    have hl : ts = [] := List.eq_nil_of_length_eq_zero hr.1
    subst hl
    refine step_none_any hg s x 33 ho 0 91 i0 2 Try.underlying33 hi v xs.length _ c hs hown hx ?_
    exact hK v w (by rw [List.append_nil]; exact hown) ⟨rfl, rfl, rfl, Nat.le_refl _, fun _ _ _ => rfl⟩ (fun k hk => .inl hk)
  · refine step_mine hg s x 33 ho 91 i0 _ 2 16 Try.underlying33 hi hz0 hz1 hz2 rfl (by decide) v xs.length _ hs hown ad m c (tv ts) hx (by rw [tv_length, hr.1]) (newsT hr) (tv_one ts) (by unfold maxLen; omega) (by omega) ?_
    intro v' w' h1 h2 h3
    refine hK v' w' ?_ h2 h3
    unfold OwnT
    rw [List.length_append, hr.1, tv_append]
    exact h1

set_option maxRecDepth 100000 in
set_option maxHeartbeats 1000000 in
theorem rdear_any (D F T G1 M1 B1 G2 M2 B2 : Int) (a1 a2 : Option Addr) (n1 n2 c1 c2 : Nat) (t1 t2 : List Tr) (w : World) (h1 : ReadsT w a1 n1 t1) (h2 : ReadsT w a2 n2 t2) (hs : n1 ≤ 1000 ∧ n2 ≤ 1000) :
    Calls Try.prog 103 #[.agg #[.int .i64 D, .int .i64 F, .int .i64 T, .int .i64 G1, .int .i64 M1, .int .i64 B1, .slice a1 n1 c1, .int .i64 G2, .int .i64 M2, .int .i64 B2, .slice a2 n2 c2]] w fun e w' => e = .returned (.int .i64 (dearP t1 t2)) ∧ Only (fun _ => False) w w' := by
  have HLL : Hid (t1.length = n1 ∧ t2.length = n2 ∧ n1 ≤ 1000 ∧ n2 ≤ 1000) := Lib.hid ⟨h1.1, h2.1, hs.1, hs.2⟩
  have HIN : Hid (∀ x ∈ t1 ++ t2, InI x.u ∧ InI x.p) := Lib.hid (fun x hx => (List.mem_append.1 hx).elim (h1.2.2.1 x) (h2.2.2.1 x))
  rw [← dear_both]
  obtain ⟨P, hP⟩ : ∃ P, dearF 0 (t1 ++ t2) = P := ⟨_, rfl⟩
  rw [hP]
  have HPP := Lib.hid hP
  clear hP
  obtain ⟨W0, hW0⟩ : ∃ W0, W0 = w.alloc (.cells #[.int .i64 D, .int .i64 F, .int .i64 T, .int .i64 G1, .int .i64 M1, .int .i64 B1, .slice a1 n1 c1, .int .i64 G2, .int .i64 M2, .int .i64 B2, .slice a2 n2 c2] 37) := ⟨_, rfl⟩
  have HO0 : Hid (Only (fun _ => False) w W0) := Lib.hid (by rw [hW0]; exact (Only.refl _ w).alloc _)
  have HPA : Hid (PlanAt W0 w.heap.size D F T G1 M1 B1 G2 M2 B2 a1 a2 n1 n2 c1 c2) := Lib.hid (by rw [hW0]; exact PlanAt.new ..)
  have HR1 := Lib.hid (fun w' (ho : Only (fun _ => False) W0 w') => h1.only (HO0.out.trans ho) (fun _ _ f => f))
  have HR2 := Lib.hid (fun w' (ho : Only (fun _ => False) W0 w') => h2.only (HO0.out.trans ho) (fun _ _ f => f))
  have HS : Hid (∀ w', Only (fun _ => False) W0 w' → Only (fun _ => False) W0 w' ∧ w'.cell? ⟨w.heap.size, 6, none⟩ = some (.slice a1 n1 c1) ∧ w'.cell? ⟨w.heap.size, 10, none⟩ = some (.slice a2 n2 c2)) := Lib.hid (fun w' ho => by
    obtain ⟨p0, p1, p2, p3, p4, p5, p6, p7, p8, p9, p10⟩ := HPA.out.only ho (fun f => f)
    exact ⟨ho, p6, p10⟩)
  have HOW : Hid (OwnT (W0.drew.alloc (.cells #[] 91)) (.slice (some ⟨W0.heap.size, 0, none⟩) 0 0) []) := Lib.hid (World.ownsRow_lit W0.drew #[] 0 (Nat.zero_le _) (by decide) rfl)
  have hn := hs
  clear h1 h2 hs
  go_enter Try.func103, Try.ntmps103
  go_wp2_with fail
  rw [← hW0]
  clear hW0
  refine wp_region_noPanic ?_
  refine wp_region_held_drew (S := (fun w' => Only (fun _ => False) W0 w' ∧ w'.cell? ⟨w.heap.size, 6, none⟩ = some (.slice a1 n1 c1) ∧ w'.cell? ⟨w.heap.size, 10, none⟩ = some (.slice a2 n2 c2))) (by kernel_rfl) (HS.out _ (Only.refl _ _).drew) (fun hHeld => ?_)
  refine wpAnyH_take (i := 1) (v := ?_) rfl (by kernel_rfl) (by kernel_rfl) (by kernel_rfl) (fun _ _ _ h => h) (Or.inl ⟨by rfl, ?_⟩) (by assumption) ?_
  rotate_left 1
  · intro w' hSw
    try dsimp only at hSw
    go_simp
    try with_reducible rfl
  try simp only [List.getElem_toArray, List.getElem_cons_zero, List.getElem_cons_succ, Act.put, List.setIfInBounds_toArray, List.set_cons_zero, List.set_cons_succ]
  refine wpAnyH_take (i := 2) (v := ?_) rfl (by kernel_rfl) (by kernel_rfl) (by kernel_rfl) (fun _ _ _ h => h) (Or.inl ⟨by rfl, ?_⟩) (by assumption) ?_
  rotate_left 1
  · intro w' hSw
    try dsimp only at hSw
    go_simp
    try with_reducible rfl
  try simp only [List.getElem_toArray, List.getElem_cons_zero, List.getElem_cons_succ, Act.put, List.setIfInBounds_toArray, List.set_cons_zero, List.set_cons_succ]
  refine wpAnyH_take (i := 3) (v := ?_) rfl (by kernel_rfl) (by kernel_rfl) (by kernel_rfl) (fun _ _ _ h => h) (Or.inl ⟨by rfl, ?_⟩) (by assumption) ?_
  rotate_left 1
  · intro w' hSw
    try dsimp only at hSw
    go_simp
    try with_reducible rfl
  try simp only [List.getElem_toArray, List.getElem_cons_zero, List.getElem_cons_succ, Act.put, List.setIfInBounds_toArray, List.set_cons_zero, List.set_cons_succ]
  refine wpAnyH_take (i := 5) (v := ?_) rfl (by kernel_rfl) (by kernel_rfl) (by kernel_rfl) (fun _ _ _ h => h) (Or.inl ⟨by rfl, ?_⟩) (by assumption) ?_
  rotate_left 1
  · intro w' hSw
    try dsimp only at hSw
    go_simp
    try with_reducible rfl
  try simp only [List.getElem_toArray, List.getElem_cons_zero, List.getElem_cons_succ, Act.put, List.setIfInBounds_toArray, List.set_cons_zero, List.set_cons_succ]
  refine wpAnyH_take (i := 6) (v := ?_) rfl (by kernel_rfl) (by kernel_rfl) (by kernel_rfl) (fun _ _ _ h => h) (Or.inl ⟨by rfl, ?_⟩) (by assumption) ?_
  rotate_left 1
  · intro w' hSw
    try dsimp only at hSw
    go_simp
    try with_reducible rfl
  try simp only [List.getElem_toArray, List.getElem_cons_zero, List.getElem_cons_succ, Act.put, List.setIfInBounds_toArray, List.set_cons_zero, List.set_cons_succ]
  refine wpAnyH_take (i := 7) (v := ?_) rfl (by kernel_rfl) (by kernel_rfl) (by kernel_rfl) (fun _ _ _ h => h) (Or.inl ⟨by rfl, ?_⟩) (by assumption) ?_
  rotate_left 1
  · intro w' hSw
    try dsimp only at hSw
    go_simp
    try with_reducible rfl
  try simp only [List.getElem_toArray, List.getElem_cons_zero, List.getElem_cons_succ, Act.put, List.setIfInBounds_toArray, List.set_cons_zero, List.set_cons_succ]
  refine wpAnyH_ready (rs := [0]) (by kernel_rfl) (by simp) ?_
  refine AllReadyH.cons rfl (fun K hK => ?_) AllReadyH.nil
  try simp only [List.getElem_toArray, List.getElem_cons_zero]
  go_simp
  refine hK.out _ _ (HS.out _ ((Only.refl _ _).drew.alloc _)) (fun hHeld2 => ?_)
  clear hK K
  try simp only [List.getElem_toArray, List.getElem_cons_zero, Act.put, List.setIfInBounds_toArray, List.set_cons_zero, List.set_cons_succ]
  refine wpAnyH_ready (rs := [4]) (by kernel_rfl) (by simp) ?_
  refine AllReadyH.cons rfl (fun K hK => ?_) AllReadyH.nil
  try simp only [List.getElem_toArray, List.getElem_cons_zero, List.getElem_cons_succ]
  refine step_tiers (a := { tmps := _, defers := _ }) rfl _ _ rfl (.slice (some ⟨W0.heap.size, 0, none⟩) 0 0) [] rfl HOW.out a1 n1 c1 t1 rfl (HR1.out _ ((Only.refl _ _).drew.alloc _)) (by simp only [List.length_nil]; omega) ?_
  intro v1 w1 hown1 hgrow1 hk1
  have HX1 : Hid (Only (fun _ => False) W0 w1) := Lib.hid (((Only.refl _ W0).drew.alloc _).then (Only.of_grown hgrow1) (fun q hq e => by
    have : W0.heap.size = q := by simpa [Value.ownBlock] using e
    omega))
  refine hK.out _ _ (HS.out _ HX1.out) (fun hHeld3 => ?_)
  clear hK K
  try simp only [Act.put, List.setIfInBounds_toArray, List.set_cons_zero, List.set_cons_succ]
  refine wpAnyH_ready (rs := [8]) (by kernel_rfl) (by simp) ?_
  refine AllReadyH.cons rfl (fun K hK => ?_) AllReadyH.nil
  try simp only [List.getElem_toArray, List.getElem_cons_zero, List.getElem_cons_succ]
  refine step_tiers (a := { tmps := _, defers := _ }) rfl _ _ rfl v1 t1 rfl (by simpa using hown1) a2 n2 c2 t2 rfl (HR2.out _ HX1.out) (by have := HLL.out; omega) ?_
  intro v2 w2 hown2 hgrow2 hk2
  have HX2 : Hid (Only (fun _ => False) W0 w2) := Lib.hid (HX1.out.then (Only.of_grown hgrow2) (fun q hq e => by
    rcases hk1 q e with e1 | e1
    · have : W0.heap.size = q := by simpa [Value.ownBlock] using e1
      omega
    · have e2 : W0.heap.size + 1 ≤ q := by simpa using e1
      omega))
  refine hK.out _ _ (HS.out _ HX2.out) (fun hHeld4 => ?_)
  clear hK K
  try simp only [Act.put, List.setIfInBounds_toArray, List.set_cons_zero, List.set_cons_succ]
  refine wpAnyH_take (i := 9) (v := ?_) rfl (by kernel_rfl) (by kernel_rfl) (by kernel_rfl) (fun _ _ _ h => h) (Or.inl ⟨by rfl, ?_⟩) (by assumption) ?_
  rotate_left 1
  · intro w' hSw
    try dsimp only at hSw
    go_simp
    try with_reducible rfl
  try simp only [List.getElem_toArray, List.getElem_cons_zero, List.getElem_cons_succ, Act.put, List.setIfInBounds_toArray, List.set_cons_zero, List.set_cons_succ]
  refine wpAnyH_done (by kernel_rfl) ?_ _
  refine NoPanic.normal ?_
  obtain ⟨a, cap, hv, hrd⟩ := own_readsT3 hown2 HIN.out (by have := HLL.out; rw [List.length_append]; omega)
  have hx : (t1 ++ t2).length = n1 + n2 := by have := HLL.out; rw [List.length_append]; omega
  rw [hx] at hv hrd
  rw [hv]
  have H := Lib.hid hrd
  have HL := Lib.hid hx
  have HOO := Lib.hid (HO0.out.trans HX2.out)
  have hlen : n1 + n2 ≤ 2000 := by omega
  clear hown1 hown2 hgrow1 hgrow2 hk1 hk2 hHeld hHeld2 hHeld3 hHeld4 HX1 HX2 HS HOW HR1 HR2 HPA HLL HIN hrd hx hv
  generalize t1 ++ t2 = ts at *
  generalize n1 + n2 = len at *
  have HST : Hid (∀ k d, k < len → dearF d (ts.drop k) = dearF (max d (ts.getD k default).p) (ts.drop (k + 1))) := Lib.hid (fun k d hk => by rw [drop_getT ts k (by rw [HL.out]; exact hk)]; rfl)
  go_wp2_with fail
  go_loopw [3, 5] (fun pv i wr => ∃ (k : Nat) (d : Int), k ≤ len ∧ i = .int .i64 k ∧ pv = .int .i64 d ∧ Hid (dearF d (ts.drop k) = dearF 0 ts) ∧ Hid (Only (fun _ => False) w2 wr)) (fun _ i _ => len - (intOf i).toNat)
  case atStart => exact ⟨0, 0, by omega, rfl, rfl, Lib.hid rfl, Lib.hid (Only.refl _ _)⟩
  case round =>
    obtain ⟨k, d, hk, rfl, rfl, HD, HW⟩ := hrel
    by_cases h8 : k < len
    · obtain ⟨b, off, rfl, hcell⟩ := H.out.2.2.2.resolve_left (by omega)
      obtain ⟨hc0, hc1⟩ := hcell k h8
      have c1 := HW.out.cell' hc1 (fun f => f)
      have hd := HD.out
      rw [HST.out k d h8] at hd
      generalize ts.getD k default = x at *
      obtain ⟨u, p⟩ := x
      dsimp only at c1 hd
      have HN := Lib.hid hd
      clear hcell hc0 hc1 hd
      by_cases hx : d < p
      · rw [Int.max_eq_right (by omega)] at HN
        have hmx : max d p = p := Int.max_eq_right (by omega)
        go_wp2_with fail
        go_roundw
        case rel => exact ⟨k + 1, p, by omega, by go_num, by first | rfl | rw [hmx], HN, HW⟩
        case measure => simp [intOf]; omega
      · rw [Int.max_eq_left (by omega)] at HN
        have hmx : max d p = d := Int.max_eq_left (by omega)
        go_wp2_with fail
        go_roundw
        case rel => exact ⟨k + 1, d, by omega, by go_num, by first | rfl | rw [hmx], HN, HW⟩
        case measure => simp [intOf]; omega
    · obtain rfl : k = len := by omega
      have hd := HD.out
      rw [List.drop_of_length_le (by rw [HL.out]; omega)] at hd
      have HN : Hid (d = dearF 0 ts) := Lib.hid hd
      clear hd
      go_wp2_with fail
      go_ret
      exact ⟨by rw [← HPP.out, ← HN.out]; rfl, HOO.out.trans HW.out⟩
end Go.Proofs.Ytghajamcjcflaaa.tirw
