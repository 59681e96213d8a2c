/- Timers: the document's Drop. -/
import Derived.Test.YtiohdfplgpmcdaaTmN
import Derived.Test.YtiohdfplgpmcdaaStepApp
import Derived.Deep.RegionHeld3
namespace Go.Proofs.Ytiohdfplgpmcdaa.tmw
open Go.RowKit mem rowz
set_option linter.unusedVariables false

theorem info_one : (Try.prog.info? 45).map (fun i => (i.zero, i.size, i.bytes)) = some (some (Value.agg #[.int .i64 0, .int .i64 0]), 2, 16) := by kernel_rfl
theorem wrap_i64' (n : Int) : IntKind.i64.wrap n = (n + 9223372036854775808) % 18446744073709551616 - 9223372036854775808 := by
  simp [IntKind.wrap, IntKind.bits, IntKind.signed]
  split <;> omega
def sw (x : Tm) : Tm := ⟨x.i, x.a⟩
def ov (l : List Tm) : List Value := mv (l.map sw)
theorem ov_append (a b : List Tm) : ov (a ++ b) = ov a ++ ov b := by unfold ov; rw [List.map_append, mv_append]
theorem ov_length (l : List Tm) : (ov l).length = l.length * 2 := by unfold ov; rw [mv_length, List.length_map]
theorem ov_one (l : List Tm) : ∀ u ∈ ov l, u.oneCell' = true := mv_one _
def OwnO (w : World) (v : Value) (l : List Tm) : Prop := w.ownsRow 0 45 2 v l.length (ov l)
theorem run_append_none_any {P : Program} {w : World} (base : Nat) (t ty e : TypeId) (i : TypeInfo) (size : Nat) (ht : P.underlying t = some (.slice e)) (hi : P.info? e = some i)
    (v : Value) (n : Nat) (xs : List Value) (c : Nat) (hown : w.ownsRow base e size v n xs) :
    (Builtin.append_ #[t, t] ty #[v, .slice none 0 c]).run P w = .ok v w := by
  rcases hown.2 with ⟨rfl, rfl⟩ | ⟨g, cap, cur, rfl, _, _, hnc, _⟩
  · simp [Builtin.append_, run_underlying ht, sizeOf, typeInfo, hi, Builtin.lenOf, Builtin.firstCells]
  · simp [Builtin.append_, run_underlying ht, sizeOf, typeInfo, hi, Builtin.lenOf, Builtin.firstCells, hnc, storeCells]
theorem step_none_any {P : Program} {ops : Array Oper} {o : Oper} {a : Act} {w : World} {K : Act → World → Prop} {Q : Exit → Act → World → Prop} {E : Prop}
    (hg : o.guard = none) (s x : Operand) (t : TypeId) (ho : o.op = Op.call { callee := Callee.builtin Builtin.append, args := #[s, x], argTypes := #[t, t] })
    (base : Nat) (e : TypeId) (i : TypeInfo) (size : Nat) (ht : P.underlying t = some (.slice e)) (hi : P.info? e = some i)
    (v : Value) (n : Nat) (xs : List Value) (c : Nat) (hs : a.eval s = v) (hown : w.ownsRow base e size v n xs) (hx : a.eval x = .slice none 0 c)
    (hK : K (a.put o.dst v) w) : if Region.wanted o (yielded ops a.tmps) = true then Oper.wp P o a w K Q else E := by
  have hw : Region.wanted o (yielded ops a.tmps) = true := by simp [Region.wanted, hg]
  rw [if_pos hw]
  have hrun := run_append_none_any (P := P) (w := w) base t o.type e i size ht hi v n xs c hown
  unfold Oper.wp
  simp [execOp, ho, resolve, invoke, builtin, hs, hx, hrun, Result.andThen]
  exact hK

theorem newsO {w : World} {x : Addr} {n : Nat} {ls : List Tm} (h : ReadsO w (some x) n ls) : ∀ j u, (ov ls)[j]? = some u → w.cell? (x.add j) = some u := by
  intro j u hu
  have hj : j < ls.length * 2 := by
    rcases Nat.lt_or_ge j (ls.length * 2) with h' | h'
    · exact h'
    · rw [List.getElem?_eq_none (by rw [ov_length]; exact h')] at hu; cases hu
  rcases h.2 with h0 | ⟨b, off, ha, hc⟩
  · have := h.1; omega
  · obtain rfl : x = ⟨b, off, none⟩ := by injection ha
    rw [add_none]
    obtain ⟨i, hi⟩ : ∃ i, i = j / 2 := ⟨_, rfl⟩
    have hq : i < ls.length := by omega
    obtain ⟨c0, c1⟩ := hc i (by rw [← h.1]; exact hq)
    have hg : (ls.map sw).getD i default = sw (ls.getD i default) := by simp [List.getD, hq]
    have hr : j = i * 2 + 0 ∨ j = i * 2 + 1 := by omega
    clear hi hj
    unfold ov at hu
    rcases hr with rfl | rfl
    · rw [mv_get _ _ _ (by rw [List.length_map]; exact hq) (by omega), hg] at hu
      have : u = .int .i64 (ls.getD i default).i := by simpa [encM, sw] using hu.symm
      rw [this]; exact c0
    · rw [mv_get _ _ _ (by rw [List.length_map]; exact hq) (by omega), hg] at hu
      have : u = .int .i64 (ls.getD i default).a := by simpa [encM, sw] using hu.symm
      rw [this]; exact c1
theorem OwnO.form {w : World} {v : Value} {l : List Tm} (h : OwnO w v l) (hm : l.length ≤ 1000000) : ∃ a c, v = .slice a l.length c ∧ ReadsO w a l.length l ∧ l.length ≤ c ∧ c ≤ maxLen ∧ (a = none → c = 0) ∧ ∀ y, a = some y → v.ownBlock = some y.block := by
  have h0 := h
  rcases h.2 with ⟨hv, hn⟩ | ⟨g, cap, cur, hv, hg, hh, hc, hmm, hcs, htk⟩
  · exact ⟨none, 0, by rw [hv, hn], ⟨rfl, .inl hn⟩, by omega, by unfold maxLen; omega, fun _ => rfl, fun y e => by cases e⟩
  · refine ⟨some ⟨g, 0, none⟩, cap, hv, ⟨rfl, .inr ⟨g, 0, rfl, fun k hk => ?_⟩⟩, hc, hmm, fun e => (by cases e), fun y e => by rw [hv, ← Option.some.inj e]; rfl⟩
    have hcl := cells_row hh htk 0
    have key : ∀ c, c < 2 → w.cell? ⟨g, k * 2 + c, none⟩ = (encM (sw (l.getD k default)))[c]? := fun c hc2 => by
      have hg2 : (l.map sw).getD k default = sw (l.getD k default) := by simp [List.getD, hk]
      have e := mv_get (l.map sw) k c (by rw [List.length_map]; exact hk) hc2
      rw [hg2] at e
      have hlt : c < (encM (sw (l.getD k default))).length := by simpa [encM] using hc2
      rw [List.getElem?_eq_getElem hlt] at e ⊢
      have h9 := hcl (k * 2 + c) _ (by rw [List.drop_zero]; exact e)
      rw [add_none, Nat.zero_add] at h9
      exact h9
    rw [Nat.zero_add]
    exact ⟨key 0 (by omega), key 1 (by omega)⟩
theorem step_one {ops : Array Oper} {o : Oper} {a : Act} {w : World} {K : Act → World → Prop} {Q : Exit → Act → World → Prop} {E : Prop}
    (hg : o.guard = none) (s x : Operand) (ho : o.op = Op.call { callee := Callee.builtin Builtin.append, args := #[s, x], argTypes := #[37, 37] })
    (v : Value) (xs : List Tm) (hs : a.eval s = v) (hown : OwnO w v xs) (ad : Option Addr) (m c : Nat) (ts : List Tm) (hx : a.eval x = .slice ad m c) (hr : ReadsO w ad m ts) (hb : xs.length + m ≤ 1000000)
    (hK : ∀ v' w', OwnO w' v' (xs ++ ts) → w.grownBy w' v.ownBlock → (∀ k, v'.ownBlock = some k → v.ownBlock = some k ∨ w.heap.size ≤ k) → K (a.put o.dst v') w') :
    if Region.wanted o (yielded ops a.tmps) = true then Oper.wp Try.prog o a w K Q else E := by
  obtain ⟨i0, hi, hz0, hz1, hz2⟩ := info_parts info_one
  rcases ad with _ | ad
  · have hm : m = 0 := hr.2.elim id (fun ⟨b, off, e, _⟩ => by cases e)
    subst hm
    have hl : ts = [] := List.eq_nil_of_length_eq_zero hr.1
    subst hl
    refine step_none_any hg s x 37 ho 0 45 i0 2 Try.underlying37 hi v xs.length _ c hs hown hx ?_
    exact hK v w (by rw [List.append_nil]; exact hown) ⟨rfl, rfl, rfl, Nat.le_refl _, fun _ _ _ => rfl⟩ (fun k hk => .inl hk)
  · refine step_mine hg s x 37 ho 45 i0 _ 2 16 Try.underlying37 hi hz0 hz1 hz2 rfl (by decide) v xs.length _ hs hown ad m c (ov ts) hx (by rw [ov_length, hr.1]) (newsO hr) (ov_one ts) (by unfold maxLen; omega) (by omega) ?_
    intro v' w' h1 h2 h3
    refine hK v' w' ?_ h2 h3
    unfold OwnO
    rw [List.length_append, hr.1, ov_append]
    exact h1

def DropU (p : Nat) (a : Option Addr) (m : List Tm) (g : Int) (w : World) (e : Ending) (w' : World) : Prop :=
  e = .returned (.int .i64 (if mIdx g 0 m < 0 then 7 else 0)) ∧ (∃ a' c', UAt w' p a' c' (remM g m) ∧ ∀ y, a' = some y → a = some y ∨ w.heap.size ≤ y.block) ∧ Only (fun q => q = p) w w'
set_option maxRecDepth 100000 in
set_option maxHeartbeats 8000000 in
theorem rdrop_any (p : Nat) (a : Option Addr) (c : Nat) (m : List Tm) (g : Int) (w : World) (h : UAt w p a c m) :
    Calls Try.prog 18 #[.pointer (some ⟨p, 0, none⟩), .int .i64 g] w (DropU p a m g w) := by
  obtain ⟨i1, hj, hy0, hy1, hy2⟩ := info_parts info_one
  have HF := Lib.hid (rfind_any p a c m g w h)
  rcases mIdx_rem g m 0 with ⟨h1, h2, _⟩ | ⟨k, hk, h1, h2, _⟩
  · have HQ : Hid (∀ w', Only (fun _ => False) w w' → DropU p a m g w (.returned (.int .i64 7)) w') := Lib.hid fun w' ho => ⟨by rw [show (0 : Int) = ((0 : Nat) : Int) from rfl, h1]; rfl, ⟨a, c, by rw [h2]; exact h.only ho (fun f => f) (fun _ _ f => f), fun y e => .inl e⟩, ho.mono fun _ _ f => f.elim⟩
    rw [show mIdx g 0 m = -1 from h1] at HF
    clear h h1 h2
    go_enter Try.func18, Try.ntmps18
    go_wp2_with fail
    refine HF.out.mono ?_
    rintro _ w1 ⟨rfl, k1⟩
    have KE := Lib.hid (HQ.out _ k1)
    clear k1 HQ
    go_wp2_with fail
    go_ret
    exact KE.out
  · have HQ : Hid (∀ w' a' c', UAt w' p a' c' (m.take k ++ m.drop (k + 1)) → (∀ y, a' = some y → w.heap.size ≤ y.block) → Only (fun q => q = p) w w' → DropU p a m g w (.returned (.int .i64 0)) w') := Lib.hid fun w' a' c' hu hb ho => ⟨by rw [show (0 : Int) = ((0 : Nat) : Int) from rfl, h1, if_neg (by omega)], ⟨a', c', by rw [h2]; exact hu, fun y e => .inr (hb y e)⟩, ho⟩
    have hm : mIdx g 0 m = k := by rw [show (0 : Int) = ((0 : Nat) : Int) from rfl, h1, Nat.zero_add]
    rw [hm] at HF
    clear hm h1 h2
    have HU := Lib.hid h
    clear h
    obtain ⟨u1, u2, u3, u4, u5, u6, u7, u8⟩ := HU.out
    unfold maxLen at u6
    have HPW : Hid (p < w.heap.size) := Lib.hid (World.block_lt_of_cell? w _ u1)
    obtain ⟨n, hn⟩ : ∃ n, n = m.length := ⟨_, rfl⟩
    rw [← hn] at u1 u3 u5 u7 hk
    have HN := Lib.hid hn
    obtain ⟨b, off, rfl, hcell⟩ := u3.2.resolve_left (by omega)
    have HCL := Lib.hid hcell
    have HU1 := Lib.hid u1
    have HU2 := Lib.hid u2
    have hbp : b ≠ p := u4 _ rfl
    clear u1 u2 u3 u4 u8 hcell hn
    obtain ⟨k1, hk1⟩ : ∃ k1, k1 = k + 1 := ⟨_, rfl⟩
    rw [← hk1] at HQ
    have HK1 := Lib.hid hk1
    have hw1 : wrap64 ((k : Int) + 1) = (k1 : Int) := by rw [wrap64_eq]; omega
    have hw2 : IntKind.i64.wrap ((k : Int) + 1) = (k1 : Int) := by rw [wrap_i64']; omega
    go_enter Try.func18, Try.ntmps18
    go_wp2_with fail
    refine HF.out.mono ?_
    rintro _ wr ⟨rfl, k1⟩
    have HO := Lib.hid k1
    have hc0 := k1.cell' HU1.out (fun f => f)
    have hf0 : wr.frozen? ⟨p, 0, none⟩ = false := by rw [k1.frozen HPW.out (fun f => f)]; exact HU2.out
    clear k1 HF
    have k0 : (0 : Int) ≤ k := by omega
    have kn : (k : Int) ≤ n := by omega
    have kc : (k : Int) ≤ c := by omega
    have kn2 : (k1 : Int) ≤ n := by omega
    have k01 : (0 : Int) ≤ k1 := by omega
    have kn3 : k1 ≤ n := by omega
    clear hk1
    have HT1 : Hid (∀ w', Only (fun _ => False) wr w' → ReadsO w' (some ⟨b, off, none⟩) k (m.take k)) := Lib.hid fun w' ho => ⟨by have := HN.out; rw [List.length_take]; omega, .inr ⟨b, off, rfl, fun j hj => by
      obtain ⟨q0, q1⟩ := HCL.out j (by omega)
      have e : (m.take k).getD j default = m.getD j default := by simp [List.getD, hj]
      rw [e]
      exact ⟨ho.cell' (HO.out.cell' q0 (fun f => f)) (fun f => f), ho.cell' (HO.out.cell' q1 (fun f => f)) (fun f => f)⟩⟩⟩
    have HT2 : Hid (∀ w', Only (fun _ => False) wr w' → ReadsO w' (if c = k1 then some (⟨b, off, none⟩ : Addr) else some ⟨b, off + k1 * 2, none⟩) (n - k1) (m.drop k1)) := Lib.hid fun w' ho => by
      refine ⟨by have := HN.out; rw [List.length_drop]; omega, ?_⟩
      by_cases hz : n - k1 = 0
      · exact .inl hz
      · rw [if_neg (by omega)]
        refine .inr ⟨b, off + k1 * 2, rfl, fun j hj => ?_⟩
        obtain ⟨q0, q1⟩ := HCL.out (k1 + j) (by omega)
        have e : (m.drop k1).getD j default = m.getD (k1 + j) default := by simp [List.getD]
        rw [e, show off + k1 * 2 + j * 2 = off + (k1 + j) * 2 by omega]
        exact ⟨ho.cell' (HO.out.cell' q0 (fun f => f)) (fun f => f), ho.cell' (HO.out.cell' q1 (fun f => f)) (fun f => f)⟩
    go_upto_region 4 with fail
    refine wp_region_noPanic ?_
    refine wp_region_held_drew (S := (fun w' => Only (fun q => q = p) wr w')) (by kernel_rfl) ((Only.refl _ _).drew) (fun hHeld => ?_)
    obtain ⟨u0, hu0⟩ : ∃ x, x = wr.drew := ⟨_, rfl⟩
    rw [← hu0] at hHeld ⊢
    have hot : Hid (Only (fun _ => False) wr u0) := Lib.hid (by rw [hu0]; exact (Only.refl _ _).drew)
    have hcu := hot.out.cell' hc0 (fun f => f)
    clear hu0
    refine wpAnyH_take (i := 0) (v := ?_) rfl (by kernel_rfl) (by kernel_rfl) (by kernel_rfl) (fun _ _ _ h => h) (Or.inl ⟨by rfl, ?_⟩) (by assumption) ?_
    rotate_left 1
    · intro w' hSw
      try dsimp only at hSw
      go_simp
      try with_reducible rfl
    try simp only [List.getElem_toArray, List.getElem_cons_zero, Act.put, List.setIfInBounds_toArray, List.set_cons_zero, List.set_cons_succ]
    refine wpAnyH_take (i := 2) (v := ?_) rfl (by kernel_rfl) (by kernel_rfl) (by kernel_rfl) (fun _ _ _ h => h) (Or.inl ⟨by rfl, ?_⟩) (by assumption) ?_
    rotate_left 1
    · intro w' hSw
      try dsimp only at hSw
      go_simp
      try with_reducible rfl
    try simp only [List.getElem_toArray, List.getElem_cons_zero, List.getElem_cons_succ, Act.put, List.setIfInBounds_toArray, List.set_cons_zero, List.set_cons_succ]
    refine wpAnyH_take (i := 3) (v := ?_) rfl (by kernel_rfl) (by kernel_rfl) (by kernel_rfl) (fun _ _ _ h => h) (Or.inl ⟨by rfl, ?_⟩) (by assumption) ?_
    rotate_left 1
    · intro w' hSw
      try dsimp only at hSw
      go_simp
      try with_reducible rfl
    try simp only [List.getElem_toArray, List.getElem_cons_zero, List.getElem_cons_succ, Act.put, List.setIfInBounds_toArray, List.set_cons_zero, List.set_cons_succ]
    refine wpAnyH_take (i := 4) (v := ?_) rfl (by kernel_rfl) (by kernel_rfl) (by kernel_rfl) (fun _ _ _ h => h) (Or.inl ⟨by rfl, ?_⟩) (by assumption) ?_
    rotate_left 1
    · intro w' hSw
      try dsimp only at hSw
      go_simp
      try with_reducible rfl
    try simp only [List.getElem_toArray, List.getElem_cons_zero, List.getElem_cons_succ, Act.put, List.setIfInBounds_toArray, List.set_cons_zero, List.set_cons_succ]
    refine wpAnyH_take (i := 6) (v := ?_) rfl (by kernel_rfl) (by kernel_rfl) (by kernel_rfl) (fun _ _ _ h => h) (Or.inl ⟨by rfl, ?_⟩) (by assumption) ?_
    rotate_left 1
    · intro w' hSw
      try dsimp only at hSw
      go_simp
      try with_reducible rfl
    try simp only [List.getElem_toArray, List.getElem_cons_zero, List.getElem_cons_succ, Act.put, List.setIfInBounds_toArray, List.set_cons_zero, List.set_cons_succ]
    refine wpAnyH_take (i := 9) (v := ?_) rfl (by kernel_rfl) (by kernel_rfl) (by kernel_rfl) (fun _ _ _ h => h) (Or.inl ⟨by rfl, ?_⟩) (by assumption) ?_
    rotate_left 1
    · intro w' hSw
      try dsimp only at hSw
      go_simp
      try with_reducible rfl
    try simp only [List.getElem_toArray, List.getElem_cons_zero, List.getElem_cons_succ, Act.put, List.setIfInBounds_toArray, List.set_cons_zero, List.set_cons_succ]
    refine wpAnyH_take (i := 10) (v := ?_) rfl (by kernel_rfl) (by kernel_rfl) (by kernel_rfl) (fun _ _ _ h => h) (Or.inl ⟨by rfl, ?_⟩) (by assumption) ?_
    rotate_left 1
    · intro w' hSw
      try dsimp only at hSw
      go_simp
      try with_reducible rfl
    try simp only [List.getElem_toArray, List.getElem_cons_zero, List.getElem_cons_succ, Act.put, List.setIfInBounds_toArray, List.set_cons_zero, List.set_cons_succ]
    refine wpAnyH_take (i := 11) (v := ?_) rfl (by kernel_rfl) (by kernel_rfl) (by kernel_rfl) (fun _ _ _ h => h) (Or.inl ⟨by rfl, ?_⟩) (by assumption) ?_
    rotate_left 1
    · intro w' hSw
      try dsimp only at hSw
      go_simp
      try with_reducible rfl
    try simp only [List.getElem_toArray, List.getElem_cons_zero, List.getElem_cons_succ, Act.put, List.setIfInBounds_toArray, List.set_cons_zero, List.set_cons_succ]
    refine wpAnyH_take (i := 13) (v := ?_) rfl (by kernel_rfl) (by kernel_rfl) (by kernel_rfl) (fun _ _ _ h => h) (Or.inl ⟨by rfl, ?_⟩) (by assumption) ?_
    rotate_left 1
    · intro w' hSw
      try dsimp only at hSw
      go_simp
      try with_reducible rfl
    try simp only [List.getElem_toArray, List.getElem_cons_zero, List.getElem_cons_succ, Act.put, List.setIfInBounds_toArray, List.set_cons_zero, List.set_cons_succ]
    refine wpAnyH_take (i := 14) (v := ?_) rfl (by kernel_rfl) (by kernel_rfl) (by kernel_rfl) (fun _ _ _ h => h) (Or.inl ⟨by rfl, ?_⟩) (by assumption) ?_
    rotate_left 1
    · intro w' hSw
      try dsimp only at hSw
      go_simp
      try with_reducible rfl
    try simp only [List.getElem_toArray, List.getElem_cons_zero, List.getElem_cons_succ, Act.put, List.setIfInBounds_toArray, List.set_cons_zero, List.set_cons_succ]
    refine wpAnyH_ready (rs := [1, 5, 12]) (by kernel_rfl) (by simp) ?_
    refine AllReadyH.cons rfl (fun K hK => ?_) (AllReadyH.cons rfl (fun K hK => ?_) (AllReadyH.cons rfl (fun K hK => ?_) AllReadyH.nil))
    · try simp only [List.getElem_toArray, List.getElem_cons_zero, List.getElem_cons_succ]
      go_simp
      obtain ⟨W1, hW1⟩ : ∃ x, x = u0.alloc (.cells #[] 45) := ⟨_, rfl⟩
      obtain ⟨g1, hg1⟩ : ∃ x, x = u0.heap.size := ⟨_, rfl⟩
      rw [← hW1, ← hg1]
      have HV1 : Hid (OwnO W1 (.slice (some ⟨g1, 0, none⟩) 0 0) []) := Lib.hid (by rw [hW1, hg1]; exact World.ownsRow_lit u0 #[] 0 (Nat.zero_le _) (by decide) rfl)
      have HB1 : Hid (wr.heap.size ≤ g1) := Lib.hid (by rw [hg1]; exact hot.out.size)
      replace hot : Hid (Only (fun _ => False) wr W1) := Lib.hid (by rw [hW1]; exact hot.out.alloc _)
      have hc1 := hot.out.cell' hc0 (fun f => f)
      clear hW1 hg1
      try clear hcu
      refine hK.out _ _ (hot.out.mono (fun _ _ f => f.elim)) (fun hHeld1 => ?_)
      clear hK K
      try simp only [List.getElem_toArray, List.getElem_cons_zero, List.getElem_cons_succ, Act.put, List.setIfInBounds_toArray, List.set_cons_zero, List.set_cons_succ]
      refine wpAnyH_ready (rs := [5, 12]) (by kernel_rfl) (by simp) ?_
      refine AllReadyH.cons rfl (fun K hK => ?_) (AllReadyH.cons rfl (fun K hK => ?_) AllReadyH.nil)
      · try simp only [List.getElem_toArray, List.getElem_cons_zero, List.getElem_cons_succ]
        go_simp
        refine hK.out _ _ (hot.out.mono (fun _ _ f => f.elim)) (fun hHeld2 => ?_)
        clear hK K
        try simp only [List.getElem_toArray, List.getElem_cons_zero, List.getElem_cons_succ, Act.put, List.setIfInBounds_toArray, List.set_cons_zero, List.set_cons_succ]
        refine wpAnyH_take (i := 7) (v := ?_) rfl (by kernel_rfl) (by kernel_rfl) (by kernel_rfl) (fun _ _ _ h => h) (Or.inl ⟨by rfl, ?_⟩) (by assumption) ?_
        rotate_left 1
        · intro w' hSw
          try dsimp only at hSw
          go_simp
          try with_reducible rfl
        try simp only [List.getElem_toArray, List.getElem_cons_zero, List.getElem_cons_succ, Act.put, List.setIfInBounds_toArray, List.set_cons_zero, List.set_cons_succ]
        refine wpAnyH_ready (rs := [8, 12]) (by kernel_rfl) (by simp) ?_
        refine AllReadyH.cons rfl (fun K hK => ?_) (AllReadyH.cons rfl (fun K hK => ?_) AllReadyH.nil)
        · refine step_one (a := { tmps := _, defers := _ }) rfl _ _ rfl (.slice (some ⟨g1, 0, none⟩) 0 0) [] rfl HV1.out (some ⟨b, off, none⟩) k c (m.take k) rfl (HT1.out _ hot.out) (by simp only [List.length_nil]; omega) ?_
          rintro v3 W3 hown hgrow hkk
          have HV3 : Hid (OwnO W3 v3 (m.take k)) := Lib.hid (by simpa using hown)
          have HB3 : Hid (∀ q, v3.ownBlock = some q → wr.heap.size ≤ q) := Lib.hid (fun q hq => by
            rcases hkk q hq with e | e
            · have e' : g1 = q := by simpa [Value.ownBlock] using e
              have := HB1.out; omega
            · have := hot.out.size; omega)
          replace hot : Hid (Only (fun _ => False) wr W3) := Lib.hid (hot.out.then (Only.of_grown hgrow) (fun q hq e => by
            have e' : g1 = q := by simpa [Value.ownBlock] using e
            have := HB1.out; omega))
          have hc3 := hot.out.cell' hc0 (fun f => f)
          clear hown hgrow hkk HV1
          try clear hc1
          refine hK.out _ _ (hot.out.mono (fun _ _ f => f.elim)) (fun hHeld3 => ?_)
          clear hK K
          try simp only [List.getElem_toArray, List.getElem_cons_zero, List.getElem_cons_succ, Act.put, List.setIfInBounds_toArray, List.set_cons_zero, List.set_cons_succ]
          refine wpAnyH_ready (rs := [12]) (by kernel_rfl) (by simp) ?_
          refine AllReadyH.cons rfl (fun K hK => ?_) AllReadyH.nil
          try simp only [List.getElem_toArray, List.getElem_cons_zero, List.getElem_cons_succ]
          go_simp
          refine hK.out _ _ (hot.out.mono (fun _ _ f => f.elim)) (fun hHeld4 => ?_)
          clear hK K
          try simp only [List.getElem_toArray, List.getElem_cons_zero, List.getElem_cons_succ, Act.put, List.setIfInBounds_toArray, List.set_cons_zero, List.set_cons_succ]
          refine wpAnyH_take (i := 15) (v := ?_) rfl (by kernel_rfl) (by kernel_rfl) (by kernel_rfl) (fun _ _ _ h => h) (Or.inl ⟨by rfl, ?_⟩) (by assumption) ?_
          rotate_left 1
          · intro w' hSw
            try dsimp only at hSw
            go_simp
            try with_reducible rfl
          try simp only [List.getElem_toArray, List.getElem_cons_zero, List.getElem_cons_succ, Act.put, List.setIfInBounds_toArray, List.set_cons_zero, List.set_cons_succ]
          refine wpAnyH_ready (rs := [16]) (by kernel_rfl) (by simp) ?_
          refine AllReadyH.cons rfl (fun K hK => ?_) AllReadyH.nil
          refine step_one (a := { tmps := _, defers := _ }) rfl _ _ rfl v3 (m.take k) rfl HV3.out _ (n - k1) (c - k1) (m.drop k1) rfl (HT2.out _ hot.out) (by have := HN.out; rw [List.length_take]; omega) ?_
          rintro v5 W5 hown hgrow hkk
          have HB5 : Hid (∀ q, v5.ownBlock = some q → wr.heap.size ≤ q) := Lib.hid (fun q hq => by
            rcases hkk q hq with e | e
            · exact HB3.out q e
            · have := hot.out.size; omega)
          replace hot : Hid (Only (fun _ => False) wr W5) := Lib.hid (hot.out.then (Only.of_grown hgrow) (fun q hq e => by have := HB3.out q e; omega))
          have hc5 := hot.out.cell' hc0 (fun f => f)
          have hf5 : W5.frozen? ⟨p, 0, none⟩ = false := by rw [hot.out.frozen (World.block_lt_of_cell? wr _ hc0) (fun f => f)]; exact hf0
          have hLL : (m.take k ++ m.drop k1).length ≤ 1000 := by have := HN.out; have := HK1.out; rw [List.length_append, List.length_take, List.length_drop]; omega
          obtain ⟨a2, c2, rfl, hr2, hl2, hm2, hn2, hb2⟩ := hown.form (by omega)
          generalize hL : (m.take k ++ m.drop k1).length = L at *
          have HLL := Lib.hid hL
          have HL1 := Lib.hid hLL
          clear hL hLL
          have HRR := Lib.hid hr2
          have HLM := Lib.hid hl2
          have HMM := Lib.hid hm2
          have HNN := Lib.hid hn2
          have HBB := Lib.hid hb2
          clear hown hgrow hkk HV3 hr2 hl2 hm2 hn2 hb2
          try clear hc3
          refine hK.out _ _ (hot.out.mono (fun _ _ f => f.elim)) (fun hHeld5 => ?_)
          clear hK K
          try simp only [List.getElem_toArray, List.getElem_cons_zero, List.getElem_cons_succ, Act.put, List.setIfInBounds_toArray, List.set_cons_zero, List.set_cons_succ]
          refine wpAnyH_take (i := 17) (v := ?_) rfl (by kernel_rfl) (by kernel_rfl) (by kernel_rfl) (fun _ _ _ h => h) (Or.inl ⟨by rfl, ?_⟩) (by assumption) ?_
          rotate_left 1
          · intro w' hSw
            try dsimp only at hSw
            go_simp
            try with_reducible rfl
          try simp only [List.getElem_toArray, List.getElem_cons_zero, List.getElem_cons_succ, Act.put, List.setIfInBounds_toArray, List.set_cons_zero, List.set_cons_succ]
          refine wpAnyH_take (i := 18) (v := ?_) rfl (by kernel_rfl) (by kernel_rfl) (by kernel_rfl) (fun _ _ _ h => h) (Or.inl ⟨by rfl, ?_⟩) (by assumption) ?_
          rotate_left 1
          · intro w' hSw
            try dsimp only at hSw
            go_simp
            try with_reducible rfl
          try simp only [List.getElem_toArray, List.getElem_cons_zero, List.getElem_cons_succ, Act.put, List.setIfInBounds_toArray, List.set_cons_zero, List.set_cons_succ]
          refine wpAnyH_ready (rs := [19]) (by kernel_rfl) (by simp) ?_
          refine AllReadyH.cons rfl (fun K hK => ?_) AllReadyH.nil
          try simp only [List.getElem_toArray, List.getElem_cons_zero, List.getElem_cons_succ]
          go_simp
          obtain ⟨WZ, hWZ⟩ : ∃ x, x = W5.setCell ⟨p, 0, none⟩ (.slice a2 L c2) := ⟨_, rfl⟩
          rw [← hWZ]
          have HST : Hid (Only (fun x => x = p) W5 WZ) := Lib.hid (by rw [hWZ]; exact Only.set (fun x => x = p) W5 p 0 _ rfl)
          have HC9 : Hid (WZ.cell? ⟨p, 0, none⟩ = some (.slice a2 L c2)) := Lib.hid (by rw [hWZ]; exact cell_same hc5)
          have HF9 : Hid (WZ.frozen? ⟨p, 0, none⟩ = false) := Lib.hid (by rw [hWZ]; exact frozen_set.trans hf5)
          have hot9 : Hid (Only (fun q => q = p) wr WZ) := Lib.hid ((hot.out.mono (fun _ _ f => f.elim)).trans HST.out)
          have HBF : Hid (∀ y, a2 = some y → wr.heap.size ≤ y.block) := Lib.hid (fun y e => HB5.out _ (HBB.out y e))
          have HEND := Lib.hid (HQ.out WZ a2 c2 ⟨by rw [HLL.out]; exact HC9.out, HF9.out, by rw [HLL.out]; exact HRR.out.only HST.out (fun y e h => by have := HBF.out y e; have := HPW.out; have := HO.out.size; have h' : y.block = p := h; omega), fun y e h => by have := HBF.out y e; have := HPW.out; have := HO.out.size; omega, by rw [HLL.out]; exact HLM.out, HMM.out, by rw [HLL.out]; exact HL1.out, HNN.out⟩ (fun y e => by have := HBF.out y e; have := HO.out.size; omega) ((HO.out.mono (fun _ _ f => f.elim)).trans hot9.out))
          clear hWZ
          refine hK.out _ _ (hot9.out) (fun hHeld6 => ?_)
          clear hK K
          try simp only [List.getElem_toArray, List.getElem_cons_zero, List.getElem_cons_succ, Act.put, List.setIfInBounds_toArray, List.set_cons_zero, List.set_cons_succ]
          refine wpAnyH_done (by kernel_rfl) ?_ _
          refine NoPanic.normal ?_
          go_wp2_with fail
          all_goals
            go_ret
            exact HEND.out

        · try simp only [List.getElem_toArray, List.getElem_cons_zero, List.getElem_cons_succ]
          go_simp
          refine hK.out _ _ (hot.out.mono (fun _ _ f => f.elim)) (fun hHeld7 => ?_)
          clear hK K
          try simp only [List.getElem_toArray, List.getElem_cons_zero, List.getElem_cons_succ, Act.put, List.setIfInBounds_toArray, List.set_cons_zero, List.set_cons_succ]
          refine wpAnyH_take (i := 15) (v := ?_) rfl (by kernel_rfl) (by kernel_rfl) (by kernel_rfl) (fun _ _ _ h => h) (Or.inl ⟨by rfl, ?_⟩) (by assumption) ?_
          rotate_left 1
          · intro w' hSw
            try dsimp only at hSw
            go_simp
            try with_reducible rfl
          try simp only [List.getElem_toArray, List.getElem_cons_zero, List.getElem_cons_succ, Act.put, List.setIfInBounds_toArray, List.set_cons_zero, List.set_cons_succ]
          refine wpAnyH_ready (rs := [8]) (by kernel_rfl) (by simp) ?_
          refine AllReadyH.cons rfl (fun K hK => ?_) AllReadyH.nil
          refine step_one (a := { tmps := _, defers := _ }) rfl _ _ rfl (.slice (some ⟨g1, 0, none⟩) 0 0) [] rfl HV1.out (some ⟨b, off, none⟩) k c (m.take k) rfl (HT1.out _ hot.out) (by simp only [List.length_nil]; omega) ?_
          rintro v8 W8 hown hgrow hkk
          have HV8 : Hid (OwnO W8 v8 (m.take k)) := Lib.hid (by simpa using hown)
          have HB8 : Hid (∀ q, v8.ownBlock = some q → wr.heap.size ≤ q) := Lib.hid (fun q hq => by
            rcases hkk q hq with e | e
            · have e' : g1 = q := by simpa [Value.ownBlock] using e
              have := HB1.out; omega
            · have := hot.out.size; omega)
          replace hot : Hid (Only (fun _ => False) wr W8) := Lib.hid (hot.out.then (Only.of_grown hgrow) (fun q hq e => by
            have e' : g1 = q := by simpa [Value.ownBlock] using e
            have := HB1.out; omega))
          have hc8 := hot.out.cell' hc0 (fun f => f)
          clear hown hgrow hkk HV1
          try clear hc1
          refine hK.out _ _ (hot.out.mono (fun _ _ f => f.elim)) (fun hHeld8 => ?_)
          clear hK K
          try simp only [List.getElem_toArray, List.getElem_cons_zero, List.getElem_cons_succ, Act.put, List.setIfInBounds_toArray, List.set_cons_zero, List.set_cons_succ]
          refine wpAnyH_ready (rs := [16]) (by kernel_rfl) (by simp) ?_
          refine AllReadyH.cons rfl (fun K hK => ?_) AllReadyH.nil
          refine step_one (a := { tmps := _, defers := _ }) rfl _ _ rfl v8 (m.take k) rfl HV8.out _ (n - k1) (c - k1) (m.drop k1) rfl (HT2.out _ hot.out) (by have := HN.out; rw [List.length_take]; omega) ?_
          rintro v9 W9 hown hgrow hkk
          have HB9 : Hid (∀ q, v9.ownBlock = some q → wr.heap.size ≤ q) := Lib.hid (fun q hq => by
            rcases hkk q hq with e | e
            · exact HB8.out q e
            · have := hot.out.size; omega)
          replace hot : Hid (Only (fun _ => False) wr W9) := Lib.hid (hot.out.then (Only.of_grown hgrow) (fun q hq e => by have := HB8.out q e; omega))
          have hc9 := hot.out.cell' hc0 (fun f => f)
          have hf9 : W9.frozen? ⟨p, 0, none⟩ = false := by rw [hot.out.frozen (World.block_lt_of_cell? wr _ hc0) (fun f => f)]; exact hf0
          have hLL : (m.take k ++ m.drop k1).length ≤ 1000 := by have := HN.out; have := HK1.out; rw [List.length_append, List.length_take, List.length_drop]; omega
          obtain ⟨a2, c2, rfl, hr2, hl2, hm2, hn2, hb2⟩ := hown.form (by omega)
          generalize hL : (m.take k ++ m.drop k1).length = L at *
          have HLL := Lib.hid hL
          have HL1 := Lib.hid hLL
          clear hL hLL
          have HRR := Lib.hid hr2
          have HLM := Lib.hid hl2
          have HMM := Lib.hid hm2
          have HNN := Lib.hid hn2
          have HBB := Lib.hid hb2
          clear hown hgrow hkk HV8 hr2 hl2 hm2 hn2 hb2
          try clear hc8
          refine hK.out _ _ (hot.out.mono (fun _ _ f => f.elim)) (fun hHeld9 => ?_)
          clear hK K
          try simp only [List.getElem_toArray, List.getElem_cons_zero, List.getElem_cons_succ, Act.put, List.setIfInBounds_toArray, List.set_cons_zero, List.set_cons_succ]
          refine wpAnyH_take (i := 17) (v := ?_) rfl (by kernel_rfl) (by kernel_rfl) (by kernel_rfl) (fun _ _ _ h => h) (Or.inl ⟨by rfl, ?_⟩) (by assumption) ?_
          rotate_left 1
          · intro w' hSw
            try dsimp only at hSw
            go_simp
            try with_reducible rfl
          try simp only [List.getElem_toArray, List.getElem_cons_zero, List.getElem_cons_succ, Act.put, List.setIfInBounds_toArray, List.set_cons_zero, List.set_cons_succ]
          refine wpAnyH_take (i := 18) (v := ?_) rfl (by kernel_rfl) (by kernel_rfl) (by kernel_rfl) (fun _ _ _ h => h) (Or.inl ⟨by rfl, ?_⟩) (by assumption) ?_
          rotate_left 1
          · intro w' hSw
            try dsimp only at hSw
            go_simp
            try with_reducible rfl
          try simp only [List.getElem_toArray, List.getElem_cons_zero, List.getElem_cons_succ, Act.put, List.setIfInBounds_toArray, List.set_cons_zero, List.set_cons_succ]
          refine wpAnyH_ready (rs := [19]) (by kernel_rfl) (by simp) ?_
          refine AllReadyH.cons rfl (fun K hK => ?_) AllReadyH.nil
          try simp only [List.getElem_toArray, List.getElem_cons_zero, List.getElem_cons_succ]
          go_simp
          obtain ⟨WZ, hWZ⟩ : ∃ x, x = W9.setCell ⟨p, 0, none⟩ (.slice a2 L c2) := ⟨_, rfl⟩
          rw [← hWZ]
          have HST : Hid (Only (fun x => x = p) W9 WZ) := Lib.hid (by rw [hWZ]; exact Only.set (fun x => x = p) W9 p 0 _ rfl)
          have HC9 : Hid (WZ.cell? ⟨p, 0, none⟩ = some (.slice a2 L c2)) := Lib.hid (by rw [hWZ]; exact cell_same hc9)
          have HF9 : Hid (WZ.frozen? ⟨p, 0, none⟩ = false) := Lib.hid (by rw [hWZ]; exact frozen_set.trans hf9)
          have hot9 : Hid (Only (fun q => q = p) wr WZ) := Lib.hid ((hot.out.mono (fun _ _ f => f.elim)).trans HST.out)
          have HBF : Hid (∀ y, a2 = some y → wr.heap.size ≤ y.block) := Lib.hid (fun y e => HB9.out _ (HBB.out y e))
          have HEND := Lib.hid (HQ.out WZ a2 c2 ⟨by rw [HLL.out]; exact HC9.out, HF9.out, by rw [HLL.out]; exact HRR.out.only HST.out (fun y e h => by have := HBF.out y e; have := HPW.out; have := HO.out.size; have h' : y.block = p := h; omega), fun y e h => by have := HBF.out y e; have := HPW.out; have := HO.out.size; omega, by rw [HLL.out]; exact HLM.out, HMM.out, by rw [HLL.out]; exact HL1.out, HNN.out⟩ (fun y e => by have := HBF.out y e; have := HO.out.size; omega) ((HO.out.mono (fun _ _ f => f.elim)).trans hot9.out))
          clear hWZ
          refine hK.out _ _ (hot9.out) (fun hHeld10 => ?_)
          clear hK K
          try simp only [List.getElem_toArray, List.getElem_cons_zero, List.getElem_cons_succ, Act.put, List.setIfInBounds_toArray, List.set_cons_zero, List.set_cons_succ]
          refine wpAnyH_done (by kernel_rfl) ?_ _
          refine NoPanic.normal ?_
          go_wp2_with fail
          all_goals
            go_ret
            exact HEND.out

      · try simp only [List.getElem_toArray, List.getElem_cons_zero, List.getElem_cons_succ]
        go_simp
        refine hK.out _ _ (hot.out.mono (fun _ _ f => f.elim)) (fun hHeld11 => ?_)
        clear hK K
        try simp only [List.getElem_toArray, List.getElem_cons_zero, List.getElem_cons_succ, Act.put, List.setIfInBounds_toArray, List.set_cons_zero, List.set_cons_succ]
        refine wpAnyH_take (i := 15) (v := ?_) rfl (by kernel_rfl) (by kernel_rfl) (by kernel_rfl) (fun _ _ _ h => h) (Or.inl ⟨by rfl, ?_⟩) (by assumption) ?_
        rotate_left 1
        · intro w' hSw
          try dsimp only at hSw
          go_simp
          try with_reducible rfl
        try simp only [List.getElem_toArray, List.getElem_cons_zero, List.getElem_cons_succ, Act.put, List.setIfInBounds_toArray, List.set_cons_zero, List.set_cons_succ]
        refine wpAnyH_ready (rs := [5]) (by kernel_rfl) (by simp) ?_
        refine AllReadyH.cons rfl (fun K hK => ?_) AllReadyH.nil
        try simp only [List.getElem_toArray, List.getElem_cons_zero, List.getElem_cons_succ]
        go_simp
        refine hK.out _ _ (hot.out.mono (fun _ _ f => f.elim)) (fun hHeld12 => ?_)
        clear hK K
        try simp only [List.getElem_toArray, List.getElem_cons_zero, List.getElem_cons_succ, Act.put, List.setIfInBounds_toArray, List.set_cons_zero, List.set_cons_succ]
        refine wpAnyH_take (i := 7) (v := ?_) rfl (by kernel_rfl) (by kernel_rfl) (by kernel_rfl) (fun _ _ _ h => h) (Or.inl ⟨by rfl, ?_⟩) (by assumption) ?_
        rotate_left 1
        · intro w' hSw
          try dsimp only at hSw
          go_simp
          try with_reducible rfl
        try simp only [List.getElem_toArray, List.getElem_cons_zero, List.getElem_cons_succ, Act.put, List.setIfInBounds_toArray, List.set_cons_zero, List.set_cons_succ]
        refine wpAnyH_ready (rs := [8]) (by kernel_rfl) (by simp) ?_
        refine AllReadyH.cons rfl (fun K hK => ?_) AllReadyH.nil
        refine step_one (a := { tmps := _, defers := _ }) rfl _ _ rfl (.slice (some ⟨g1, 0, none⟩) 0 0) [] rfl HV1.out (some ⟨b, off, none⟩) k c (m.take k) rfl (HT1.out _ hot.out) (by simp only [List.length_nil]; omega) ?_
        rintro v13 W13 hown hgrow hkk
        have HV13 : Hid (OwnO W13 v13 (m.take k)) := Lib.hid (by simpa using hown)
        have HB13 : Hid (∀ q, v13.ownBlock = some q → wr.heap.size ≤ q) := Lib.hid (fun q hq => by
          rcases hkk q hq with e | e
          · have e' : g1 = q := by simpa [Value.ownBlock] using e
            have := HB1.out; omega
          · have := hot.out.size; omega)
        replace hot : Hid (Only (fun _ => False) wr W13) := Lib.hid (hot.out.then (Only.of_grown hgrow) (fun q hq e => by
          have e' : g1 = q := by simpa [Value.ownBlock] using e
          have := HB1.out; omega))
        have hc13 := hot.out.cell' hc0 (fun f => f)
        clear hown hgrow hkk HV1
        try clear hc1
        refine hK.out _ _ (hot.out.mono (fun _ _ f => f.elim)) (fun hHeld13 => ?_)
        clear hK K
        try simp only [List.getElem_toArray, List.getElem_cons_zero, List.getElem_cons_succ, Act.put, List.setIfInBounds_toArray, List.set_cons_zero, List.set_cons_succ]
        refine wpAnyH_ready (rs := [16]) (by kernel_rfl) (by simp) ?_
        refine AllReadyH.cons rfl (fun K hK => ?_) AllReadyH.nil
        refine step_one (a := { tmps := _, defers := _ }) rfl _ _ rfl v13 (m.take k) rfl HV13.out _ (n - k1) (c - k1) (m.drop k1) rfl (HT2.out _ hot.out) (by have := HN.out; rw [List.length_take]; omega) ?_
        rintro v14 W14 hown hgrow hkk
        have HB14 : Hid (∀ q, v14.ownBlock = some q → wr.heap.size ≤ q) := Lib.hid (fun q hq => by
          rcases hkk q hq with e | e
          · exact HB13.out q e
          · have := hot.out.size; omega)
        replace hot : Hid (Only (fun _ => False) wr W14) := Lib.hid (hot.out.then (Only.of_grown hgrow) (fun q hq e => by have := HB13.out q e; omega))
        have hc14 := hot.out.cell' hc0 (fun f => f)
        have hf14 : W14.frozen? ⟨p, 0, none⟩ = false := by rw [hot.out.frozen (World.block_lt_of_cell? wr _ hc0) (fun f => f)]; exact hf0
        have hLL : (m.take k ++ m.drop k1).length ≤ 1000 := by have := HN.out; have := HK1.out; rw [List.length_append, List.length_take, List.length_drop]; omega
        obtain ⟨a2, c2, rfl, hr2, hl2, hm2, hn2, hb2⟩ := hown.form (by omega)
        generalize hL : (m.take k ++ m.drop k1).length = L at *
        have HLL := Lib.hid hL
        have HL1 := Lib.hid hLL
        clear hL hLL
        have HRR := Lib.hid hr2
        have HLM := Lib.hid hl2
        have HMM := Lib.hid hm2
        have HNN := Lib.hid hn2
        have HBB := Lib.hid hb2
        clear hown hgrow hkk HV13 hr2 hl2 hm2 hn2 hb2
        try clear hc13
        refine hK.out _ _ (hot.out.mono (fun _ _ f => f.elim)) (fun hHeld14 => ?_)
        clear hK K
        try simp only [List.getElem_toArray, List.getElem_cons_zero, List.getElem_cons_succ, Act.put, List.setIfInBounds_toArray, List.set_cons_zero, List.set_cons_succ]
        refine wpAnyH_take (i := 17) (v := ?_) rfl (by kernel_rfl) (by kernel_rfl) (by kernel_rfl) (fun _ _ _ h => h) (Or.inl ⟨by rfl, ?_⟩) (by assumption) ?_
        rotate_left 1
        · intro w' hSw
          try dsimp only at hSw
          go_simp
          try with_reducible rfl
        try simp only [List.getElem_toArray, List.getElem_cons_zero, List.getElem_cons_succ, Act.put, List.setIfInBounds_toArray, List.set_cons_zero, List.set_cons_succ]
        refine wpAnyH_take (i := 18) (v := ?_) rfl (by kernel_rfl) (by kernel_rfl) (by kernel_rfl) (fun _ _ _ h => h) (Or.inl ⟨by rfl, ?_⟩) (by assumption) ?_
        rotate_left 1
        · intro w' hSw
          try dsimp only at hSw
          go_simp
          try with_reducible rfl
        try simp only [List.getElem_toArray, List.getElem_cons_zero, List.getElem_cons_succ, Act.put, List.setIfInBounds_toArray, List.set_cons_zero, List.set_cons_succ]
        refine wpAnyH_ready (rs := [19]) (by kernel_rfl) (by simp) ?_
        refine AllReadyH.cons rfl (fun K hK => ?_) AllReadyH.nil
        try simp only [List.getElem_toArray, List.getElem_cons_zero, List.getElem_cons_succ]
        go_simp
        obtain ⟨WZ, hWZ⟩ : ∃ x, x = W14.setCell ⟨p, 0, none⟩ (.slice a2 L c2) := ⟨_, rfl⟩
        rw [← hWZ]
        have HST : Hid (Only (fun x => x = p) W14 WZ) := Lib.hid (by rw [hWZ]; exact Only.set (fun x => x = p) W14 p 0 _ rfl)
        have HC9 : Hid (WZ.cell? ⟨p, 0, none⟩ = some (.slice a2 L c2)) := Lib.hid (by rw [hWZ]; exact cell_same hc14)
        have HF9 : Hid (WZ.frozen? ⟨p, 0, none⟩ = false) := Lib.hid (by rw [hWZ]; exact frozen_set.trans hf14)
        have hot9 : Hid (Only (fun q => q = p) wr WZ) := Lib.hid ((hot.out.mono (fun _ _ f => f.elim)).trans HST.out)
        have HBF : Hid (∀ y, a2 = some y → wr.heap.size ≤ y.block) := Lib.hid (fun y e => HB14.out _ (HBB.out y e))
        have HEND := Lib.hid (HQ.out WZ a2 c2 ⟨by rw [HLL.out]; exact HC9.out, HF9.out, by rw [HLL.out]; exact HRR.out.only HST.out (fun y e h => by have := HBF.out y e; have := HPW.out; have := HO.out.size; have h' : y.block = p := h; omega), fun y e h => by have := HBF.out y e; have := HPW.out; have := HO.out.size; omega, by rw [HLL.out]; exact HLM.out, HMM.out, by rw [HLL.out]; exact HL1.out, HNN.out⟩ (fun y e => by have := HBF.out y e; have := HO.out.size; omega) ((HO.out.mono (fun _ _ f => f.elim)).trans hot9.out))
        clear hWZ
        refine hK.out _ _ (hot9.out) (fun hHeld15 => ?_)
        clear hK K
        try simp only [List.getElem_toArray, List.getElem_cons_zero, List.getElem_cons_succ, Act.put, List.setIfInBounds_toArray, List.set_cons_zero, List.set_cons_succ]
        refine wpAnyH_done (by kernel_rfl) ?_ _
        refine NoPanic.normal ?_
        go_wp2_with fail
        all_goals
          go_ret
          exact HEND.out

    · try simp only [List.getElem_toArray, List.getElem_cons_zero, List.getElem_cons_succ]
      go_simp
      refine hK.out _ _ (hot.out.mono (fun _ _ f => f.elim)) (fun hHeld16 => ?_)
      clear hK K
      try simp only [List.getElem_toArray, List.getElem_cons_zero, List.getElem_cons_succ, Act.put, List.setIfInBounds_toArray, List.set_cons_zero, List.set_cons_succ]
      refine wpAnyH_take (i := 7) (v := ?_) rfl (by kernel_rfl) (by kernel_rfl) (by kernel_rfl) (fun _ _ _ h => h) (Or.inl ⟨by rfl, ?_⟩) (by assumption) ?_
      rotate_left 1
      · intro w' hSw
        try dsimp only at hSw
        go_simp
        try with_reducible rfl
      try simp only [List.getElem_toArray, List.getElem_cons_zero, List.getElem_cons_succ, Act.put, List.setIfInBounds_toArray, List.set_cons_zero, List.set_cons_succ]
      refine wpAnyH_ready (rs := [1, 12]) (by kernel_rfl) (by simp) ?_
      refine AllReadyH.cons rfl (fun K hK => ?_) (AllReadyH.cons rfl (fun K hK => ?_) AllReadyH.nil)
      · try simp only [List.getElem_toArray, List.getElem_cons_zero, List.getElem_cons_succ]
        go_simp
        obtain ⟨W17, hW17⟩ : ∃ x, x = u0.alloc (.cells #[] 45) := ⟨_, rfl⟩
        obtain ⟨g17, hg17⟩ : ∃ x, x = u0.heap.size := ⟨_, rfl⟩
        rw [← hW17, ← hg17]
        have HV17 : Hid (OwnO W17 (.slice (some ⟨g17, 0, none⟩) 0 0) []) := Lib.hid (by rw [hW17, hg17]; exact World.ownsRow_lit u0 #[] 0 (Nat.zero_le _) (by decide) rfl)
        have HB17 : Hid (wr.heap.size ≤ g17) := Lib.hid (by rw [hg17]; exact hot.out.size)
        replace hot : Hid (Only (fun _ => False) wr W17) := Lib.hid (by rw [hW17]; exact hot.out.alloc _)
        have hc17 := hot.out.cell' hc0 (fun f => f)
        clear hW17 hg17
        try clear hcu
        refine hK.out _ _ (hot.out.mono (fun _ _ f => f.elim)) (fun hHeld17 => ?_)
        clear hK K
        try simp only [List.getElem_toArray, List.getElem_cons_zero, List.getElem_cons_succ, Act.put, List.setIfInBounds_toArray, List.set_cons_zero, List.set_cons_succ]
        refine wpAnyH_ready (rs := [8, 12]) (by kernel_rfl) (by simp) ?_
        refine AllReadyH.cons rfl (fun K hK => ?_) (AllReadyH.cons rfl (fun K hK => ?_) AllReadyH.nil)
        · refine step_one (a := { tmps := _, defers := _ }) rfl _ _ rfl (.slice (some ⟨g17, 0, none⟩) 0 0) [] rfl HV17.out (some ⟨b, off, none⟩) k c (m.take k) rfl (HT1.out _ hot.out) (by simp only [List.length_nil]; omega) ?_
          rintro v18 W18 hown hgrow hkk
          have HV18 : Hid (OwnO W18 v18 (m.take k)) := Lib.hid (by simpa using hown)
          have HB18 : Hid (∀ q, v18.ownBlock = some q → wr.heap.size ≤ q) := Lib.hid (fun q hq => by
            rcases hkk q hq with e | e
            · have e' : g17 = q := by simpa [Value.ownBlock] using e
              have := HB17.out; omega
            · have := hot.out.size; omega)
          replace hot : Hid (Only (fun _ => False) wr W18) := Lib.hid (hot.out.then (Only.of_grown hgrow) (fun q hq e => by
            have e' : g17 = q := by simpa [Value.ownBlock] using e
            have := HB17.out; omega))
          have hc18 := hot.out.cell' hc0 (fun f => f)
          clear hown hgrow hkk HV17
          try clear hc17
          refine hK.out _ _ (hot.out.mono (fun _ _ f => f.elim)) (fun hHeld18 => ?_)
          clear hK K
          try simp only [List.getElem_toArray, List.getElem_cons_zero, List.getElem_cons_succ, Act.put, List.setIfInBounds_toArray, List.set_cons_zero, List.set_cons_succ]
          refine wpAnyH_ready (rs := [12]) (by kernel_rfl) (by simp) ?_
          refine AllReadyH.cons rfl (fun K hK => ?_) AllReadyH.nil
          try simp only [List.getElem_toArray, List.getElem_cons_zero, List.getElem_cons_succ]
          go_simp
          refine hK.out _ _ (hot.out.mono (fun _ _ f => f.elim)) (fun hHeld19 => ?_)
          clear hK K
          try simp only [List.getElem_toArray, List.getElem_cons_zero, List.getElem_cons_succ, Act.put, List.setIfInBounds_toArray, List.set_cons_zero, List.set_cons_succ]
          refine wpAnyH_take (i := 15) (v := ?_) rfl (by kernel_rfl) (by kernel_rfl) (by kernel_rfl) (fun _ _ _ h => h) (Or.inl ⟨by rfl, ?_⟩) (by assumption) ?_
          rotate_left 1
          · intro w' hSw
            try dsimp only at hSw
            go_simp
            try with_reducible rfl
          try simp only [List.getElem_toArray, List.getElem_cons_zero, List.getElem_cons_succ, Act.put, List.setIfInBounds_toArray, List.set_cons_zero, List.set_cons_succ]
          refine wpAnyH_ready (rs := [16]) (by kernel_rfl) (by simp) ?_
          refine AllReadyH.cons rfl (fun K hK => ?_) AllReadyH.nil
          refine step_one (a := { tmps := _, defers := _ }) rfl _ _ rfl v18 (m.take k) rfl HV18.out _ (n - k1) (c - k1) (m.drop k1) rfl (HT2.out _ hot.out) (by have := HN.out; rw [List.length_take]; omega) ?_
          rintro v20 W20 hown hgrow hkk
          have HB20 : Hid (∀ q, v20.ownBlock = some q → wr.heap.size ≤ q) := Lib.hid (fun q hq => by
            rcases hkk q hq with e | e
            · exact HB18.out q e
            · have := hot.out.size; omega)
          replace hot : Hid (Only (fun _ => False) wr W20) := Lib.hid (hot.out.then (Only.of_grown hgrow) (fun q hq e => by have := HB18.out q e; omega))
          have hc20 := hot.out.cell' hc0 (fun f => f)
          have hf20 : W20.frozen? ⟨p, 0, none⟩ = false := by rw [hot.out.frozen (World.block_lt_of_cell? wr _ hc0) (fun f => f)]; exact hf0
          have hLL : (m.take k ++ m.drop k1).length ≤ 1000 := by have := HN.out; have := HK1.out; rw [List.length_append, List.length_take, List.length_drop]; omega
          obtain ⟨a2, c2, rfl, hr2, hl2, hm2, hn2, hb2⟩ := hown.form (by omega)
          generalize hL : (m.take k ++ m.drop k1).length = L at *
          have HLL := Lib.hid hL
          have HL1 := Lib.hid hLL
          clear hL hLL
          have HRR := Lib.hid hr2
          have HLM := Lib.hid hl2
          have HMM := Lib.hid hm2
          have HNN := Lib.hid hn2
          have HBB := Lib.hid hb2
          clear hown hgrow hkk HV18 hr2 hl2 hm2 hn2 hb2
          try clear hc18
          refine hK.out _ _ (hot.out.mono (fun _ _ f => f.elim)) (fun hHeld20 => ?_)
          clear hK K
          try simp only [List.getElem_toArray, List.getElem_cons_zero, List.getElem_cons_succ, Act.put, List.setIfInBounds_toArray, List.set_cons_zero, List.set_cons_succ]
          refine wpAnyH_take (i := 17) (v := ?_) rfl (by kernel_rfl) (by kernel_rfl) (by kernel_rfl) (fun _ _ _ h => h) (Or.inl ⟨by rfl, ?_⟩) (by assumption) ?_
          rotate_left 1
          · intro w' hSw
            try dsimp only at hSw
            go_simp
            try with_reducible rfl
          try simp only [List.getElem_toArray, List.getElem_cons_zero, List.getElem_cons_succ, Act.put, List.setIfInBounds_toArray, List.set_cons_zero, List.set_cons_succ]
          refine wpAnyH_take (i := 18) (v := ?_) rfl (by kernel_rfl) (by kernel_rfl) (by kernel_rfl) (fun _ _ _ h => h) (Or.inl ⟨by rfl, ?_⟩) (by assumption) ?_
          rotate_left 1
          · intro w' hSw
            try dsimp only at hSw
            go_simp
            try with_reducible rfl
          try simp only [List.getElem_toArray, List.getElem_cons_zero, List.getElem_cons_succ, Act.put, List.setIfInBounds_toArray, List.set_cons_zero, List.set_cons_succ]
          refine wpAnyH_ready (rs := [19]) (by kernel_rfl) (by simp) ?_
          refine AllReadyH.cons rfl (fun K hK => ?_) AllReadyH.nil
          try simp only [List.getElem_toArray, List.getElem_cons_zero, List.getElem_cons_succ]
          go_simp
          obtain ⟨WZ, hWZ⟩ : ∃ x, x = W20.setCell ⟨p, 0, none⟩ (.slice a2 L c2) := ⟨_, rfl⟩
          rw [← hWZ]
          have HST : Hid (Only (fun x => x = p) W20 WZ) := Lib.hid (by rw [hWZ]; exact Only.set (fun x => x = p) W20 p 0 _ rfl)
          have HC9 : Hid (WZ.cell? ⟨p, 0, none⟩ = some (.slice a2 L c2)) := Lib.hid (by rw [hWZ]; exact cell_same hc20)
          have HF9 : Hid (WZ.frozen? ⟨p, 0, none⟩ = false) := Lib.hid (by rw [hWZ]; exact frozen_set.trans hf20)
          have hot9 : Hid (Only (fun q => q = p) wr WZ) := Lib.hid ((hot.out.mono (fun _ _ f => f.elim)).trans HST.out)
          have HBF : Hid (∀ y, a2 = some y → wr.heap.size ≤ y.block) := Lib.hid (fun y e => HB20.out _ (HBB.out y e))
          have HEND := Lib.hid (HQ.out WZ a2 c2 ⟨by rw [HLL.out]; exact HC9.out, HF9.out, by rw [HLL.out]; exact HRR.out.only HST.out (fun y e h => by have := HBF.out y e; have := HPW.out; have := HO.out.size; have h' : y.block = p := h; omega), fun y e h => by have := HBF.out y e; have := HPW.out; have := HO.out.size; omega, by rw [HLL.out]; exact HLM.out, HMM.out, by rw [HLL.out]; exact HL1.out, HNN.out⟩ (fun y e => by have := HBF.out y e; have := HO.out.size; omega) ((HO.out.mono (fun _ _ f => f.elim)).trans hot9.out))
          clear hWZ
          refine hK.out _ _ (hot9.out) (fun hHeld21 => ?_)
          clear hK K
          try simp only [List.getElem_toArray, List.getElem_cons_zero, List.getElem_cons_succ, Act.put, List.setIfInBounds_toArray, List.set_cons_zero, List.set_cons_succ]
          refine wpAnyH_done (by kernel_rfl) ?_ _
          refine NoPanic.normal ?_
          go_wp2_with fail
          all_goals
            go_ret
            exact HEND.out

        · try simp only [List.getElem_toArray, List.getElem_cons_zero, List.getElem_cons_succ]
          go_simp
          refine hK.out _ _ (hot.out.mono (fun _ _ f => f.elim)) (fun hHeld22 => ?_)
          clear hK K
          try simp only [List.getElem_toArray, List.getElem_cons_zero, List.getElem_cons_succ, Act.put, List.setIfInBounds_toArray, List.set_cons_zero, List.set_cons_succ]
          refine wpAnyH_take (i := 15) (v := ?_) rfl (by kernel_rfl) (by kernel_rfl) (by kernel_rfl) (fun _ _ _ h => h) (Or.inl ⟨by rfl, ?_⟩) (by assumption) ?_
          rotate_left 1
          · intro w' hSw
            try dsimp only at hSw
            go_simp
            try with_reducible rfl
          try simp only [List.getElem_toArray, List.getElem_cons_zero, List.getElem_cons_succ, Act.put, List.setIfInBounds_toArray, List.set_cons_zero, List.set_cons_succ]
          refine wpAnyH_ready (rs := [8]) (by kernel_rfl) (by simp) ?_
          refine AllReadyH.cons rfl (fun K hK => ?_) AllReadyH.nil
          refine step_one (a := { tmps := _, defers := _ }) rfl _ _ rfl (.slice (some ⟨g17, 0, none⟩) 0 0) [] rfl HV17.out (some ⟨b, off, none⟩) k c (m.take k) rfl (HT1.out _ hot.out) (by simp only [List.length_nil]; omega) ?_
          rintro v23 W23 hown hgrow hkk
          have HV23 : Hid (OwnO W23 v23 (m.take k)) := Lib.hid (by simpa using hown)
          have HB23 : Hid (∀ q, v23.ownBlock = some q → wr.heap.size ≤ q) := Lib.hid (fun q hq => by
            rcases hkk q hq with e | e
            · have e' : g17 = q := by simpa [Value.ownBlock] using e
              have := HB17.out; omega
            · have := hot.out.size; omega)
          replace hot : Hid (Only (fun _ => False) wr W23) := Lib.hid (hot.out.then (Only.of_grown hgrow) (fun q hq e => by
            have e' : g17 = q := by simpa [Value.ownBlock] using e
            have := HB17.out; omega))
          have hc23 := hot.out.cell' hc0 (fun f => f)
          clear hown hgrow hkk HV17
          try clear hc17
          refine hK.out _ _ (hot.out.mono (fun _ _ f => f.elim)) (fun hHeld23 => ?_)
          clear hK K
          try simp only [List.getElem_toArray, List.getElem_cons_zero, List.getElem_cons_succ, Act.put, List.setIfInBounds_toArray, List.set_cons_zero, List.set_cons_succ]
          refine wpAnyH_ready (rs := [16]) (by kernel_rfl) (by simp) ?_
          refine AllReadyH.cons rfl (fun K hK => ?_) AllReadyH.nil
          refine step_one (a := { tmps := _, defers := _ }) rfl _ _ rfl v23 (m.take k) rfl HV23.out _ (n - k1) (c - k1) (m.drop k1) rfl (HT2.out _ hot.out) (by have := HN.out; rw [List.length_take]; omega) ?_
          rintro v24 W24 hown hgrow hkk
          have HB24 : Hid (∀ q, v24.ownBlock = some q → wr.heap.size ≤ q) := Lib.hid (fun q hq => by
            rcases hkk q hq with e | e
            · exact HB23.out q e
            · have := hot.out.size; omega)
          replace hot : Hid (Only (fun _ => False) wr W24) := Lib.hid (hot.out.then (Only.of_grown hgrow) (fun q hq e => by have := HB23.out q e; omega))
          have hc24 := hot.out.cell' hc0 (fun f => f)
          have hf24 : W24.frozen? ⟨p, 0, none⟩ = false := by rw [hot.out.frozen (World.block_lt_of_cell? wr _ hc0) (fun f => f)]; exact hf0
          have hLL : (m.take k ++ m.drop k1).length ≤ 1000 := by have := HN.out; have := HK1.out; rw [List.length_append, List.length_take, List.length_drop]; omega
          obtain ⟨a2, c2, rfl, hr2, hl2, hm2, hn2, hb2⟩ := hown.form (by omega)
          generalize hL : (m.take k ++ m.drop k1).length = L at *
          have HLL := Lib.hid hL
          have HL1 := Lib.hid hLL
          clear hL hLL
          have HRR := Lib.hid hr2
          have HLM := Lib.hid hl2
          have HMM := Lib.hid hm2
          have HNN := Lib.hid hn2
          have HBB := Lib.hid hb2
          clear hown hgrow hkk HV23 hr2 hl2 hm2 hn2 hb2
          try clear hc23
          refine hK.out _ _ (hot.out.mono (fun _ _ f => f.elim)) (fun hHeld24 => ?_)
          clear hK K
          try simp only [List.getElem_toArray, List.getElem_cons_zero, List.getElem_cons_succ, Act.put, List.setIfInBounds_toArray, List.set_cons_zero, List.set_cons_succ]
          refine wpAnyH_take (i := 17) (v := ?_) rfl (by kernel_rfl) (by kernel_rfl) (by kernel_rfl) (fun _ _ _ h => h) (Or.inl ⟨by rfl, ?_⟩) (by assumption) ?_
          rotate_left 1
          · intro w' hSw
            try dsimp only at hSw
            go_simp
            try with_reducible rfl
          try simp only [List.getElem_toArray, List.getElem_cons_zero, List.getElem_cons_succ, Act.put, List.setIfInBounds_toArray, List.set_cons_zero, List.set_cons_succ]
          refine wpAnyH_take (i := 18) (v := ?_) rfl (by kernel_rfl) (by kernel_rfl) (by kernel_rfl) (fun _ _ _ h => h) (Or.inl ⟨by rfl, ?_⟩) (by assumption) ?_
          rotate_left 1
          · intro w' hSw
            try dsimp only at hSw
            go_simp
            try with_reducible rfl
          try simp only [List.getElem_toArray, List.getElem_cons_zero, List.getElem_cons_succ, Act.put, List.setIfInBounds_toArray, List.set_cons_zero, List.set_cons_succ]
          refine wpAnyH_ready (rs := [19]) (by kernel_rfl) (by simp) ?_
          refine AllReadyH.cons rfl (fun K hK => ?_) AllReadyH.nil
          try simp only [List.getElem_toArray, List.getElem_cons_zero, List.getElem_cons_succ]
          go_simp
          obtain ⟨WZ, hWZ⟩ : ∃ x, x = W24.setCell ⟨p, 0, none⟩ (.slice a2 L c2) := ⟨_, rfl⟩
          rw [← hWZ]
          have HST : Hid (Only (fun x => x = p) W24 WZ) := Lib.hid (by rw [hWZ]; exact Only.set (fun x => x = p) W24 p 0 _ rfl)
          have HC9 : Hid (WZ.cell? ⟨p, 0, none⟩ = some (.slice a2 L c2)) := Lib.hid (by rw [hWZ]; exact cell_same hc24)
          have HF9 : Hid (WZ.frozen? ⟨p, 0, none⟩ = false) := Lib.hid (by rw [hWZ]; exact frozen_set.trans hf24)
          have hot9 : Hid (Only (fun q => q = p) wr WZ) := Lib.hid ((hot.out.mono (fun _ _ f => f.elim)).trans HST.out)
          have HBF : Hid (∀ y, a2 = some y → wr.heap.size ≤ y.block) := Lib.hid (fun y e => HB24.out _ (HBB.out y e))
          have HEND := Lib.hid (HQ.out WZ a2 c2 ⟨by rw [HLL.out]; exact HC9.out, HF9.out, by rw [HLL.out]; exact HRR.out.only HST.out (fun y e h => by have := HBF.out y e; have := HPW.out; have := HO.out.size; have h' : y.block = p := h; omega), fun y e h => by have := HBF.out y e; have := HPW.out; have := HO.out.size; omega, by rw [HLL.out]; exact HLM.out, HMM.out, by rw [HLL.out]; exact HL1.out, HNN.out⟩ (fun y e => by have := HBF.out y e; have := HO.out.size; omega) ((HO.out.mono (fun _ _ f => f.elim)).trans hot9.out))
          clear hWZ
          refine hK.out _ _ (hot9.out) (fun hHeld25 => ?_)
          clear hK K
          try simp only [List.getElem_toArray, List.getElem_cons_zero, List.getElem_cons_succ, Act.put, List.setIfInBounds_toArray, List.set_cons_zero, List.set_cons_succ]
          refine wpAnyH_done (by kernel_rfl) ?_ _
          refine NoPanic.normal ?_
          go_wp2_with fail
          all_goals
            go_ret
            exact HEND.out

      · try simp only [List.getElem_toArray, List.getElem_cons_zero, List.getElem_cons_succ]
        go_simp
        refine hK.out _ _ (hot.out.mono (fun _ _ f => f.elim)) (fun hHeld26 => ?_)
        clear hK K
        try simp only [List.getElem_toArray, List.getElem_cons_zero, List.getElem_cons_succ, Act.put, List.setIfInBounds_toArray, List.set_cons_zero, List.set_cons_succ]
        refine wpAnyH_take (i := 15) (v := ?_) rfl (by kernel_rfl) (by kernel_rfl) (by kernel_rfl) (fun _ _ _ h => h) (Or.inl ⟨by rfl, ?_⟩) (by assumption) ?_
        rotate_left 1
        · intro w' hSw
          try dsimp only at hSw
          go_simp
          try with_reducible rfl
        try simp only [List.getElem_toArray, List.getElem_cons_zero, List.getElem_cons_succ, Act.put, List.setIfInBounds_toArray, List.set_cons_zero, List.set_cons_succ]
        refine wpAnyH_ready (rs := [1]) (by kernel_rfl) (by simp) ?_
        refine AllReadyH.cons rfl (fun K hK => ?_) AllReadyH.nil
        try simp only [List.getElem_toArray, List.getElem_cons_zero, List.getElem_cons_succ]
        go_simp
        obtain ⟨W27, hW27⟩ : ∃ x, x = u0.alloc (.cells #[] 45) := ⟨_, rfl⟩
        obtain ⟨g27, hg27⟩ : ∃ x, x = u0.heap.size := ⟨_, rfl⟩
        rw [← hW27, ← hg27]
        have HV27 : Hid (OwnO W27 (.slice (some ⟨g27, 0, none⟩) 0 0) []) := Lib.hid (by rw [hW27, hg27]; exact World.ownsRow_lit u0 #[] 0 (Nat.zero_le _) (by decide) rfl)
        have HB27 : Hid (wr.heap.size ≤ g27) := Lib.hid (by rw [hg27]; exact hot.out.size)
        replace hot : Hid (Only (fun _ => False) wr W27) := Lib.hid (by rw [hW27]; exact hot.out.alloc _)
        have hc27 := hot.out.cell' hc0 (fun f => f)
        clear hW27 hg27
        try clear hcu
        refine hK.out _ _ (hot.out.mono (fun _ _ f => f.elim)) (fun hHeld27 => ?_)
        clear hK K
        try simp only [List.getElem_toArray, List.getElem_cons_zero, List.getElem_cons_succ, Act.put, List.setIfInBounds_toArray, List.set_cons_zero, List.set_cons_succ]
        refine wpAnyH_ready (rs := [8]) (by kernel_rfl) (by simp) ?_
        refine AllReadyH.cons rfl (fun K hK => ?_) AllReadyH.nil
        refine step_one (a := { tmps := _, defers := _ }) rfl _ _ rfl (.slice (some ⟨g27, 0, none⟩) 0 0) [] rfl HV27.out (some ⟨b, off, none⟩) k c (m.take k) rfl (HT1.out _ hot.out) (by simp only [List.length_nil]; omega) ?_
        rintro v28 W28 hown hgrow hkk
        have HV28 : Hid (OwnO W28 v28 (m.take k)) := Lib.hid (by simpa using hown)
        have HB28 : Hid (∀ q, v28.ownBlock = some q → wr.heap.size ≤ q) := Lib.hid (fun q hq => by
          rcases hkk q hq with e | e
          · have e' : g27 = q := by simpa [Value.ownBlock] using e
            have := HB27.out; omega
          · have := hot.out.size; omega)
        replace hot : Hid (Only (fun _ => False) wr W28) := Lib.hid (hot.out.then (Only.of_grown hgrow) (fun q hq e => by
          have e' : g27 = q := by simpa [Value.ownBlock] using e
          have := HB27.out; omega))
        have hc28 := hot.out.cell' hc0 (fun f => f)
        clear hown hgrow hkk HV27
        try clear hc27
        refine hK.out _ _ (hot.out.mono (fun _ _ f => f.elim)) (fun hHeld28 => ?_)
        clear hK K
        try simp only [List.getElem_toArray, List.getElem_cons_zero, List.getElem_cons_succ, Act.put, List.setIfInBounds_toArray, List.set_cons_zero, List.set_cons_succ]
        refine wpAnyH_ready (rs := [16]) (by kernel_rfl) (by simp) ?_
        refine AllReadyH.cons rfl (fun K hK => ?_) AllReadyH.nil
        refine step_one (a := { tmps := _, defers := _ }) rfl _ _ rfl v28 (m.take k) rfl HV28.out _ (n - k1) (c - k1) (m.drop k1) rfl (HT2.out _ hot.out) (by have := HN.out; rw [List.length_take]; omega) ?_
        rintro v29 W29 hown hgrow hkk
        have HB29 : Hid (∀ q, v29.ownBlock = some q → wr.heap.size ≤ q) := Lib.hid (fun q hq => by
          rcases hkk q hq with e | e
          · exact HB28.out q e
          · have := hot.out.size; omega)
        replace hot : Hid (Only (fun _ => False) wr W29) := Lib.hid (hot.out.then (Only.of_grown hgrow) (fun q hq e => by have := HB28.out q e; omega))
        have hc29 := hot.out.cell' hc0 (fun f => f)
        have hf29 : W29.frozen? ⟨p, 0, none⟩ = false := by rw [hot.out.frozen (World.block_lt_of_cell? wr _ hc0) (fun f => f)]; exact hf0
        have hLL : (m.take k ++ m.drop k1).length ≤ 1000 := by have := HN.out; have := HK1.out; rw [List.length_append, List.length_take, List.length_drop]; omega
        obtain ⟨a2, c2, rfl, hr2, hl2, hm2, hn2, hb2⟩ := hown.form (by omega)
        generalize hL : (m.take k ++ m.drop k1).length = L at *
        have HLL := Lib.hid hL
        have HL1 := Lib.hid hLL
        clear hL hLL
        have HRR := Lib.hid hr2
        have HLM := Lib.hid hl2
        have HMM := Lib.hid hm2
        have HNN := Lib.hid hn2
        have HBB := Lib.hid hb2
        clear hown hgrow hkk HV28 hr2 hl2 hm2 hn2 hb2
        try clear hc28
        refine hK.out _ _ (hot.out.mono (fun _ _ f => f.elim)) (fun hHeld29 => ?_)
        clear hK K
        try simp only [List.getElem_toArray, List.getElem_cons_zero, List.getElem_cons_succ, Act.put, List.setIfInBounds_toArray, List.set_cons_zero, List.set_cons_succ]
        refine wpAnyH_take (i := 17) (v := ?_) rfl (by kernel_rfl) (by kernel_rfl) (by kernel_rfl) (fun _ _ _ h => h) (Or.inl ⟨by rfl, ?_⟩) (by assumption) ?_
        rotate_left 1
        · intro w' hSw
          try dsimp only at hSw
          go_simp
          try with_reducible rfl
        try simp only [List.getElem_toArray, List.getElem_cons_zero, List.getElem_cons_succ, Act.put, List.setIfInBounds_toArray, List.set_cons_zero, List.set_cons_succ]
        refine wpAnyH_take (i := 18) (v := ?_) rfl (by kernel_rfl) (by kernel_rfl) (by kernel_rfl) (fun _ _ _ h => h) (Or.inl ⟨by rfl, ?_⟩) (by assumption) ?_
        rotate_left 1
        · intro w' hSw
          try dsimp only at hSw
          go_simp
          try with_reducible rfl
        try simp only [List.getElem_toArray, List.getElem_cons_zero, List.getElem_cons_succ, Act.put, List.setIfInBounds_toArray, List.set_cons_zero, List.set_cons_succ]
        refine wpAnyH_ready (rs := [19]) (by kernel_rfl) (by simp) ?_
        refine AllReadyH.cons rfl (fun K hK => ?_) AllReadyH.nil
        try simp only [List.getElem_toArray, List.getElem_cons_zero, List.getElem_cons_succ]
        go_simp
        obtain ⟨WZ, hWZ⟩ : ∃ x, x = W29.setCell ⟨p, 0, none⟩ (.slice a2 L c2) := ⟨_, rfl⟩
        rw [← hWZ]
        have HST : Hid (Only (fun x => x = p) W29 WZ) := Lib.hid (by rw [hWZ]; exact Only.set (fun x => x = p) W29 p 0 _ rfl)
        have HC9 : Hid (WZ.cell? ⟨p, 0, none⟩ = some (.slice a2 L c2)) := Lib.hid (by rw [hWZ]; exact cell_same hc29)
        have HF9 : Hid (WZ.frozen? ⟨p, 0, none⟩ = false) := Lib.hid (by rw [hWZ]; exact frozen_set.trans hf29)
        have hot9 : Hid (Only (fun q => q = p) wr WZ) := Lib.hid ((hot.out.mono (fun _ _ f => f.elim)).trans HST.out)
        have HBF : Hid (∀ y, a2 = some y → wr.heap.size ≤ y.block) := Lib.hid (fun y e => HB29.out _ (HBB.out y e))
        have HEND := Lib.hid (HQ.out WZ a2 c2 ⟨by rw [HLL.out]; exact HC9.out, HF9.out, by rw [HLL.out]; exact HRR.out.only HST.out (fun y e h => by have := HBF.out y e; have := HPW.out; have := HO.out.size; have h' : y.block = p := h; omega), fun y e h => by have := HBF.out y e; have := HPW.out; have := HO.out.size; omega, by rw [HLL.out]; exact HLM.out, HMM.out, by rw [HLL.out]; exact HL1.out, HNN.out⟩ (fun y e => by have := HBF.out y e; have := HO.out.size; omega) ((HO.out.mono (fun _ _ f => f.elim)).trans hot9.out))
        clear hWZ
        refine hK.out _ _ (hot9.out) (fun hHeld30 => ?_)
        clear hK K
        try simp only [List.getElem_toArray, List.getElem_cons_zero, List.getElem_cons_succ, Act.put, List.setIfInBounds_toArray, List.set_cons_zero, List.set_cons_succ]
        refine wpAnyH_done (by kernel_rfl) ?_ _
        refine NoPanic.normal ?_
        go_wp2_with fail
        all_goals
          go_ret
          exact HEND.out

    · try simp only [List.getElem_toArray, List.getElem_cons_zero, List.getElem_cons_succ]
      go_simp
      refine hK.out _ _ (hot.out.mono (fun _ _ f => f.elim)) (fun hHeld31 => ?_)
      clear hK K
      try simp only [List.getElem_toArray, List.getElem_cons_zero, List.getElem_cons_succ, Act.put, List.setIfInBounds_toArray, List.set_cons_zero, List.set_cons_succ]
      refine wpAnyH_take (i := 15) (v := ?_) rfl (by kernel_rfl) (by kernel_rfl) (by kernel_rfl) (fun _ _ _ h => h) (Or.inl ⟨by rfl, ?_⟩) (by assumption) ?_
      rotate_left 1
      · intro w' hSw
        try dsimp only at hSw
        go_simp
        try with_reducible rfl
      try simp only [List.getElem_toArray, List.getElem_cons_zero, List.getElem_cons_succ, Act.put, List.setIfInBounds_toArray, List.set_cons_zero, List.set_cons_succ]
      refine wpAnyH_ready (rs := [1, 5]) (by kernel_rfl) (by simp) ?_
      refine AllReadyH.cons rfl (fun K hK => ?_) (AllReadyH.cons rfl (fun K hK => ?_) AllReadyH.nil)
      · try simp only [List.getElem_toArray, List.getElem_cons_zero, List.getElem_cons_succ]
        go_simp
        obtain ⟨W32, hW32⟩ : ∃ x, x = u0.alloc (.cells #[] 45) := ⟨_, rfl⟩
        obtain ⟨g32, hg32⟩ : ∃ x, x = u0.heap.size := ⟨_, rfl⟩
        rw [← hW32, ← hg32]
        have HV32 : Hid (OwnO W32 (.slice (some ⟨g32, 0, none⟩) 0 0) []) := Lib.hid (by rw [hW32, hg32]; exact World.ownsRow_lit u0 #[] 0 (Nat.zero_le _) (by decide) rfl)
        have HB32 : Hid (wr.heap.size ≤ g32) := Lib.hid (by rw [hg32]; exact hot.out.size)
        replace hot : Hid (Only (fun _ => False) wr W32) := Lib.hid (by rw [hW32]; exact hot.out.alloc _)
        have hc32 := hot.out.cell' hc0 (fun f => f)
        clear hW32 hg32
        try clear hcu
        refine hK.out _ _ (hot.out.mono (fun _ _ f => f.elim)) (fun hHeld32 => ?_)
        clear hK K
        try simp only [List.getElem_toArray, List.getElem_cons_zero, List.getElem_cons_succ, Act.put, List.setIfInBounds_toArray, List.set_cons_zero, List.set_cons_succ]
        refine wpAnyH_ready (rs := [5]) (by kernel_rfl) (by simp) ?_
        refine AllReadyH.cons rfl (fun K hK => ?_) AllReadyH.nil
        try simp only [List.getElem_toArray, List.getElem_cons_zero, List.getElem_cons_succ]
        go_simp
        refine hK.out _ _ (hot.out.mono (fun _ _ f => f.elim)) (fun hHeld33 => ?_)
        clear hK K
        try simp only [List.getElem_toArray, List.getElem_cons_zero, List.getElem_cons_succ, Act.put, List.setIfInBounds_toArray, List.set_cons_zero, List.set_cons_succ]
        refine wpAnyH_take (i := 7) (v := ?_) rfl (by kernel_rfl) (by kernel_rfl) (by kernel_rfl) (fun _ _ _ h => h) (Or.inl ⟨by rfl, ?_⟩) (by assumption) ?_
        rotate_left 1
        · intro w' hSw
          try dsimp only at hSw
          go_simp
          try with_reducible rfl
        try simp only [List.getElem_toArray, List.getElem_cons_zero, List.getElem_cons_succ, Act.put, List.setIfInBounds_toArray, List.set_cons_zero, List.set_cons_succ]
        refine wpAnyH_ready (rs := [8]) (by kernel_rfl) (by simp) ?_
        refine AllReadyH.cons rfl (fun K hK => ?_) AllReadyH.nil
        refine step_one (a := { tmps := _, defers := _ }) rfl _ _ rfl (.slice (some ⟨g32, 0, none⟩) 0 0) [] rfl HV32.out (some ⟨b, off, none⟩) k c (m.take k) rfl (HT1.out _ hot.out) (by simp only [List.length_nil]; omega) ?_
        rintro v34 W34 hown hgrow hkk
        have HV34 : Hid (OwnO W34 v34 (m.take k)) := Lib.hid (by simpa using hown)
        have HB34 : Hid (∀ q, v34.ownBlock = some q → wr.heap.size ≤ q) := Lib.hid (fun q hq => by
          rcases hkk q hq with e | e
          · have e' : g32 = q := by simpa [Value.ownBlock] using e
            have := HB32.out; omega
          · have := hot.out.size; omega)
        replace hot : Hid (Only (fun _ => False) wr W34) := Lib.hid (hot.out.then (Only.of_grown hgrow) (fun q hq e => by
          have e' : g32 = q := by simpa [Value.ownBlock] using e
          have := HB32.out; omega))
        have hc34 := hot.out.cell' hc0 (fun f => f)
        clear hown hgrow hkk HV32
        try clear hc32
        refine hK.out _ _ (hot.out.mono (fun _ _ f => f.elim)) (fun hHeld34 => ?_)
        clear hK K
        try simp only [List.getElem_toArray, List.getElem_cons_zero, List.getElem_cons_succ, Act.put, List.setIfInBounds_toArray, List.set_cons_zero, List.set_cons_succ]
        refine wpAnyH_ready (rs := [16]) (by kernel_rfl) (by simp) ?_
        refine AllReadyH.cons rfl (fun K hK => ?_) AllReadyH.nil
        refine step_one (a := { tmps := _, defers := _ }) rfl _ _ rfl v34 (m.take k) rfl HV34.out _ (n - k1) (c - k1) (m.drop k1) rfl (HT2.out _ hot.out) (by have := HN.out; rw [List.length_take]; omega) ?_
        rintro v35 W35 hown hgrow hkk
        have HB35 : Hid (∀ q, v35.ownBlock = some q → wr.heap.size ≤ q) := Lib.hid (fun q hq => by
          rcases hkk q hq with e | e
          · exact HB34.out q e
          · have := hot.out.size; omega)
        replace hot : Hid (Only (fun _ => False) wr W35) := Lib.hid (hot.out.then (Only.of_grown hgrow) (fun q hq e => by have := HB34.out q e; omega))
        have hc35 := hot.out.cell' hc0 (fun f => f)
        have hf35 : W35.frozen? ⟨p, 0, none⟩ = false := by rw [hot.out.frozen (World.block_lt_of_cell? wr _ hc0) (fun f => f)]; exact hf0
        have hLL : (m.take k ++ m.drop k1).length ≤ 1000 := by have := HN.out; have := HK1.out; rw [List.length_append, List.length_take, List.length_drop]; omega
        obtain ⟨a2, c2, rfl, hr2, hl2, hm2, hn2, hb2⟩ := hown.form (by omega)
        generalize hL : (m.take k ++ m.drop k1).length = L at *
        have HLL := Lib.hid hL
        have HL1 := Lib.hid hLL
        clear hL hLL
        have HRR := Lib.hid hr2
        have HLM := Lib.hid hl2
        have HMM := Lib.hid hm2
        have HNN := Lib.hid hn2
        have HBB := Lib.hid hb2
        clear hown hgrow hkk HV34 hr2 hl2 hm2 hn2 hb2
        try clear hc34
        refine hK.out _ _ (hot.out.mono (fun _ _ f => f.elim)) (fun hHeld35 => ?_)
        clear hK K
        try simp only [List.getElem_toArray, List.getElem_cons_zero, List.getElem_cons_succ, Act.put, List.setIfInBounds_toArray, List.set_cons_zero, List.set_cons_succ]
        refine wpAnyH_take (i := 17) (v := ?_) rfl (by kernel_rfl) (by kernel_rfl) (by kernel_rfl) (fun _ _ _ h => h) (Or.inl ⟨by rfl, ?_⟩) (by assumption) ?_
        rotate_left 1
        · intro w' hSw
          try dsimp only at hSw
          go_simp
          try with_reducible rfl
        try simp only [List.getElem_toArray, List.getElem_cons_zero, List.getElem_cons_succ, Act.put, List.setIfInBounds_toArray, List.set_cons_zero, List.set_cons_succ]
        refine wpAnyH_take (i := 18) (v := ?_) rfl (by kernel_rfl) (by kernel_rfl) (by kernel_rfl) (fun _ _ _ h => h) (Or.inl ⟨by rfl, ?_⟩) (by assumption) ?_
        rotate_left 1
        · intro w' hSw
          try dsimp only at hSw
          go_simp
          try with_reducible rfl
        try simp only [List.getElem_toArray, List.getElem_cons_zero, List.getElem_cons_succ, Act.put, List.setIfInBounds_toArray, List.set_cons_zero, List.set_cons_succ]
        refine wpAnyH_ready (rs := [19]) (by kernel_rfl) (by simp) ?_
        refine AllReadyH.cons rfl (fun K hK => ?_) AllReadyH.nil
        try simp only [List.getElem_toArray, List.getElem_cons_zero, List.getElem_cons_succ]
        go_simp
        obtain ⟨WZ, hWZ⟩ : ∃ x, x = W35.setCell ⟨p, 0, none⟩ (.slice a2 L c2) := ⟨_, rfl⟩
        rw [← hWZ]
        have HST : Hid (Only (fun x => x = p) W35 WZ) := Lib.hid (by rw [hWZ]; exact Only.set (fun x => x = p) W35 p 0 _ rfl)
        have HC9 : Hid (WZ.cell? ⟨p, 0, none⟩ = some (.slice a2 L c2)) := Lib.hid (by rw [hWZ]; exact cell_same hc35)
        have HF9 : Hid (WZ.frozen? ⟨p, 0, none⟩ = false) := Lib.hid (by rw [hWZ]; exact frozen_set.trans hf35)
        have hot9 : Hid (Only (fun q => q = p) wr WZ) := Lib.hid ((hot.out.mono (fun _ _ f => f.elim)).trans HST.out)
        have HBF : Hid (∀ y, a2 = some y → wr.heap.size ≤ y.block) := Lib.hid (fun y e => HB35.out _ (HBB.out y e))
        have HEND := Lib.hid (HQ.out WZ a2 c2 ⟨by rw [HLL.out]; exact HC9.out, HF9.out, by rw [HLL.out]; exact HRR.out.only HST.out (fun y e h => by have := HBF.out y e; have := HPW.out; have := HO.out.size; have h' : y.block = p := h; omega), fun y e h => by have := HBF.out y e; have := HPW.out; have := HO.out.size; omega, by rw [HLL.out]; exact HLM.out, HMM.out, by rw [HLL.out]; exact HL1.out, HNN.out⟩ (fun y e => by have := HBF.out y e; have := HO.out.size; omega) ((HO.out.mono (fun _ _ f => f.elim)).trans hot9.out))
        clear hWZ
        refine hK.out _ _ (hot9.out) (fun hHeld36 => ?_)
        clear hK K
        try simp only [List.getElem_toArray, List.getElem_cons_zero, List.getElem_cons_succ, Act.put, List.setIfInBounds_toArray, List.set_cons_zero, List.set_cons_succ]
        refine wpAnyH_done (by kernel_rfl) ?_ _
        refine NoPanic.normal ?_
        go_wp2_with fail
        all_goals
          go_ret
          exact HEND.out

      · try simp only [List.getElem_toArray, List.getElem_cons_zero, List.getElem_cons_succ]
        go_simp
        refine hK.out _ _ (hot.out.mono (fun _ _ f => f.elim)) (fun hHeld37 => ?_)
        clear hK K
        try simp only [List.getElem_toArray, List.getElem_cons_zero, List.getElem_cons_succ, Act.put, List.setIfInBounds_toArray, List.set_cons_zero, List.set_cons_succ]
        refine wpAnyH_take (i := 7) (v := ?_) rfl (by kernel_rfl) (by kernel_rfl) (by kernel_rfl) (fun _ _ _ h => h) (Or.inl ⟨by rfl, ?_⟩) (by assumption) ?_
        rotate_left 1
        · intro w' hSw
          try dsimp only at hSw
          go_simp
          try with_reducible rfl
        try simp only [List.getElem_toArray, List.getElem_cons_zero, List.getElem_cons_succ, Act.put, List.setIfInBounds_toArray, List.set_cons_zero, List.set_cons_succ]
        refine wpAnyH_ready (rs := [1]) (by kernel_rfl) (by simp) ?_
        refine AllReadyH.cons rfl (fun K hK => ?_) AllReadyH.nil
        try simp only [List.getElem_toArray, List.getElem_cons_zero, List.getElem_cons_succ]
        go_simp
        obtain ⟨W38, hW38⟩ : ∃ x, x = u0.alloc (.cells #[] 45) := ⟨_, rfl⟩
        obtain ⟨g38, hg38⟩ : ∃ x, x = u0.heap.size := ⟨_, rfl⟩
        rw [← hW38, ← hg38]
        have HV38 : Hid (OwnO W38 (.slice (some ⟨g38, 0, none⟩) 0 0) []) := Lib.hid (by rw [hW38, hg38]; exact World.ownsRow_lit u0 #[] 0 (Nat.zero_le _) (by decide) rfl)
        have HB38 : Hid (wr.heap.size ≤ g38) := Lib.hid (by rw [hg38]; exact hot.out.size)
        replace hot : Hid (Only (fun _ => False) wr W38) := Lib.hid (by rw [hW38]; exact hot.out.alloc _)
        have hc38 := hot.out.cell' hc0 (fun f => f)
        clear hW38 hg38
        try clear hcu
        refine hK.out _ _ (hot.out.mono (fun _ _ f => f.elim)) (fun hHeld38 => ?_)
        clear hK K
        try simp only [List.getElem_toArray, List.getElem_cons_zero, List.getElem_cons_succ, Act.put, List.setIfInBounds_toArray, List.set_cons_zero, List.set_cons_succ]
        refine wpAnyH_ready (rs := [8]) (by kernel_rfl) (by simp) ?_
        refine AllReadyH.cons rfl (fun K hK => ?_) AllReadyH.nil
        refine step_one (a := { tmps := _, defers := _ }) rfl _ _ rfl (.slice (some ⟨g38, 0, none⟩) 0 0) [] rfl HV38.out (some ⟨b, off, none⟩) k c (m.take k) rfl (HT1.out _ hot.out) (by simp only [List.length_nil]; omega) ?_
        rintro v39 W39 hown hgrow hkk
        have HV39 : Hid (OwnO W39 v39 (m.take k)) := Lib.hid (by simpa using hown)
        have HB39 : Hid (∀ q, v39.ownBlock = some q → wr.heap.size ≤ q) := Lib.hid (fun q hq => by
          rcases hkk q hq with e | e
          · have e' : g38 = q := by simpa [Value.ownBlock] using e
            have := HB38.out; omega
          · have := hot.out.size; omega)
        replace hot : Hid (Only (fun _ => False) wr W39) := Lib.hid (hot.out.then (Only.of_grown hgrow) (fun q hq e => by
          have e' : g38 = q := by simpa [Value.ownBlock] using e
          have := HB38.out; omega))
        have hc39 := hot.out.cell' hc0 (fun f => f)
        clear hown hgrow hkk HV38
        try clear hc38
        refine hK.out _ _ (hot.out.mono (fun _ _ f => f.elim)) (fun hHeld39 => ?_)
        clear hK K
        try simp only [List.getElem_toArray, List.getElem_cons_zero, List.getElem_cons_succ, Act.put, List.setIfInBounds_toArray, List.set_cons_zero, List.set_cons_succ]
        refine wpAnyH_ready (rs := [16]) (by kernel_rfl) (by simp) ?_
        refine AllReadyH.cons rfl (fun K hK => ?_) AllReadyH.nil
        refine step_one (a := { tmps := _, defers := _ }) rfl _ _ rfl v39 (m.take k) rfl HV39.out _ (n - k1) (c - k1) (m.drop k1) rfl (HT2.out _ hot.out) (by have := HN.out; rw [List.length_take]; omega) ?_
        rintro v40 W40 hown hgrow hkk
        have HB40 : Hid (∀ q, v40.ownBlock = some q → wr.heap.size ≤ q) := Lib.hid (fun q hq => by
          rcases hkk q hq with e | e
          · exact HB39.out q e
          · have := hot.out.size; omega)
        replace hot : Hid (Only (fun _ => False) wr W40) := Lib.hid (hot.out.then (Only.of_grown hgrow) (fun q hq e => by have := HB39.out q e; omega))
        have hc40 := hot.out.cell' hc0 (fun f => f)
        have hf40 : W40.frozen? ⟨p, 0, none⟩ = false := by rw [hot.out.frozen (World.block_lt_of_cell? wr _ hc0) (fun f => f)]; exact hf0
        have hLL : (m.take k ++ m.drop k1).length ≤ 1000 := by have := HN.out; have := HK1.out; rw [List.length_append, List.length_take, List.length_drop]; omega
        obtain ⟨a2, c2, rfl, hr2, hl2, hm2, hn2, hb2⟩ := hown.form (by omega)
        generalize hL : (m.take k ++ m.drop k1).length = L at *
        have HLL := Lib.hid hL
        have HL1 := Lib.hid hLL
        clear hL hLL
        have HRR := Lib.hid hr2
        have HLM := Lib.hid hl2
        have HMM := Lib.hid hm2
        have HNN := Lib.hid hn2
        have HBB := Lib.hid hb2
        clear hown hgrow hkk HV39 hr2 hl2 hm2 hn2 hb2
        try clear hc39
        refine hK.out _ _ (hot.out.mono (fun _ _ f => f.elim)) (fun hHeld40 => ?_)
        clear hK K
        try simp only [List.getElem_toArray, List.getElem_cons_zero, List.getElem_cons_succ, Act.put, List.setIfInBounds_toArray, List.set_cons_zero, List.set_cons_succ]
        refine wpAnyH_take (i := 17) (v := ?_) rfl (by kernel_rfl) (by kernel_rfl) (by kernel_rfl) (fun _ _ _ h => h) (Or.inl ⟨by rfl, ?_⟩) (by assumption) ?_
        rotate_left 1
        · intro w' hSw
          try dsimp only at hSw
          go_simp
          try with_reducible rfl
        try simp only [List.getElem_toArray, List.getElem_cons_zero, List.getElem_cons_succ, Act.put, List.setIfInBounds_toArray, List.set_cons_zero, List.set_cons_succ]
        refine wpAnyH_take (i := 18) (v := ?_) rfl (by kernel_rfl) (by kernel_rfl) (by kernel_rfl) (fun _ _ _ h => h) (Or.inl ⟨by rfl, ?_⟩) (by assumption) ?_
        rotate_left 1
        · intro w' hSw
          try dsimp only at hSw
          go_simp
          try with_reducible rfl
        try simp only [List.getElem_toArray, List.getElem_cons_zero, List.getElem_cons_succ, Act.put, List.setIfInBounds_toArray, List.set_cons_zero, List.set_cons_succ]
        refine wpAnyH_ready (rs := [19]) (by kernel_rfl) (by simp) ?_
        refine AllReadyH.cons rfl (fun K hK => ?_) AllReadyH.nil
        try simp only [List.getElem_toArray, List.getElem_cons_zero, List.getElem_cons_succ]
        go_simp
        obtain ⟨WZ, hWZ⟩ : ∃ x, x = W40.setCell ⟨p, 0, none⟩ (.slice a2 L c2) := ⟨_, rfl⟩
        rw [← hWZ]
        have HST : Hid (Only (fun x => x = p) W40 WZ) := Lib.hid (by rw [hWZ]; exact Only.set (fun x => x = p) W40 p 0 _ rfl)
        have HC9 : Hid (WZ.cell? ⟨p, 0, none⟩ = some (.slice a2 L c2)) := Lib.hid (by rw [hWZ]; exact cell_same hc40)
        have HF9 : Hid (WZ.frozen? ⟨p, 0, none⟩ = false) := Lib.hid (by rw [hWZ]; exact frozen_set.trans hf40)
        have hot9 : Hid (Only (fun q => q = p) wr WZ) := Lib.hid ((hot.out.mono (fun _ _ f => f.elim)).trans HST.out)
        have HBF : Hid (∀ y, a2 = some y → wr.heap.size ≤ y.block) := Lib.hid (fun y e => HB40.out _ (HBB.out y e))
        have HEND := Lib.hid (HQ.out WZ a2 c2 ⟨by rw [HLL.out]; exact HC9.out, HF9.out, by rw [HLL.out]; exact HRR.out.only HST.out (fun y e h => by have := HBF.out y e; have := HPW.out; have := HO.out.size; have h' : y.block = p := h; omega), fun y e h => by have := HBF.out y e; have := HPW.out; have := HO.out.size; omega, by rw [HLL.out]; exact HLM.out, HMM.out, by rw [HLL.out]; exact HL1.out, HNN.out⟩ (fun y e => by have := HBF.out y e; have := HO.out.size; omega) ((HO.out.mono (fun _ _ f => f.elim)).trans hot9.out))
        clear hWZ
        refine hK.out _ _ (hot9.out) (fun hHeld41 => ?_)
        clear hK K
        try simp only [List.getElem_toArray, List.getElem_cons_zero, List.getElem_cons_succ, Act.put, List.setIfInBounds_toArray, List.set_cons_zero, List.set_cons_succ]
        refine wpAnyH_done (by kernel_rfl) ?_ _
        refine NoPanic.normal ?_
        go_wp2_with fail
        all_goals
          go_ret
          exact HEND.out

end Go.Proofs.Ytiohdfplgpmcdaa.tmw
