/- The tree: New; a node out of a copy of all. -/
import Derived.Test.YtfpeimihlihphaaTrC
import Derived.ChangeKeysEq
namespace Go.Proofs.Ytfpeimihlihphaa.tre
open Go.RowKit mem
set_option linter.unusedVariables false

theorem nv_drop : ∀ (l : List Nd) (k : Nat), (nv l).drop (k * 5) = nv (l.drop k) := by
  intro l
  induction l with
  | nil => intro k; simp [nv]
  | cons x r ih =>
    intro k
    cases k with
    | zero => simp [nv]
    | succ k =>
      have e : (k + 1) * 5 = k * 5 + 5 := by omega
      rw [e, List.drop_succ_cons, nv_cons, ← ih k]
      rfl
theorem nv_part (T : List Nd) (k : Nat) (hk : k < T.length) : (nv T).toArray.extract (k * 5) (k * 5 + 5) = (encN (T.getD k default)).toArray := by
  rw [List.extract_toArray, List.extract_eq_take_drop, nv_drop, List.drop_eq_getElem_cons hk, nv_cons]
  have e : T.getD k default = T[k] := by simp [List.getD, hk]
  rw [e, show k * 5 + 5 - k * 5 = (encN T[k]).length by show k * 5 + 5 - k * 5 = 5; omega]
  rw [List.take_left']
  rfl
theorem isagg_nd (w : World) : (isAgg 24).run Try.prog w = .ok true w := by
  simp [isAgg, run_underlying Try.underlying24, go_sem]
theorem info_nd : (Try.prog.info? 24).map (·.size) = some 5 := by kernel_rfl
theorem size_nd (w : World) : (sizeOf 24).run Try.prog w = .ok 5 w := by
  obtain ⟨i, hi, hs⟩ := Option.map_eq_some_iff.1 info_nd
  rw [run_sizeOf w hi]
  unfold Program.cellsOf
  rw [hi, Option.map_some, Option.getD_some, hs]
theorem run_index_nd (T : List Nd) (k : Nat) (hT : T.length = 33) (hk : k < 33) (w : World) : (Instr.index 83 (.agg (nv T).toArray) (.int .i64 (k : Int))).run Try.prog w = .ok (aggN (T.getD k default)) w := by
  have h1 : (0 : Int) ≤ k ∧ (k : Int) < (33 : Nat) := by omega
  have e : List.take 5 (List.drop (k * 5) (nv T)) = encN (T.getD k default) := by
    have := congrArg Array.toList (nv_part T k (by omega))
    rw [List.extract_toArray, List.extract_eq_take_drop, show k * 5 + 5 - k * 5 = 5 by omega] at this
    exact this
  generalize T.getD k default = n at *
  simp [Instr.index, run_underlying Try.underlying83, asIntOf, hk, part, go_sem, e, aggN, encN]
theorem zero_cells : Try.zeroCells85.toList = nv (List.replicate 33 default) := by kernel_rfl
set_option maxRecDepth 100000 in
theorem new_any (w : World) : Calls Try.prog 22 #[] w fun e w' => e = .returned (.pointer (some ⟨w.heap.size, 0, none⟩)) ∧ TreeAt w' w.heap.size (List.replicate 33 default) ∧ Only (fun _ => False) w w' := by
  have H : Hid (TreeAt (w.alloc (.cells Try.zeroCells85 85)) w.heap.size (List.replicate 33 default)) := Lib.hid (by
    refine ⟨by simp, fun k hk => NdAt.iff.2 fun c hc => ?_, fun j hj => alloc_froz _ _ _ _ _ rfl⟩
    rw [Go.Joins.cell_of_block (cs := Try.zeroCells85) (t := 85) (fr := (0, 0)) (by rw [heap_alloc, if_pos rfl])]
    rw [← nv_get _ k c (by simpa using hk) hc, ← zero_cells, Array.getElem?_toList])
  have HO : Hid (∀ o, Only (fun _ => False) w (w.alloc o)) := Lib.hid (fun o => (Only.refl _ _).alloc o)
  go_enter Try.func22, Try.ntmps22
  go_wp2_with fail
  go_ret
  exact ⟨rfl, H.out, HO.out _⟩
theorem info_all : (Try.prog.info? 83).map (·.size) = some 165 := by kernel_rfl
theorem TreeAt.range {w : World} {p : Nat} {T : List Nd} (h : TreeAt w p T) : w.rangeAt p 0 (nv T) := by
  intro j v hv
  have hj : j < 165 := by
    rcases Nat.lt_or_ge j (nv T).length with h' | h'
    · rw [nv_length, h.1] at h'; omega
    · rw [List.getElem?_eq_none h'] at hv; cases hv
  have e : j = j / 5 * 5 + j % 5 := by omega
  rw [Nat.zero_add, e, NdAt.iff.1 (h.2.1 (j / 5) (by omega)) (j % 5) (by omega), ← nv_get T (j / 5) (j % 5) (by rw [h.1]; omega) (by omega), ← e]
  exact hv
/-- is an open node under this one? -/
def busyB (T : List Nd) (id : Int) : Bool := T.any fun n => decide (n.par = id) && !n.cl
def cloE (T : List Nd) (id : Int) : Int := if hasB T id = false then 7 else if (got T id).cl = true then 16 else if busyB T id = true then 17 else 0
def cloT (T : List Nd) (id : Int) : List Nd := if cloE T id = 0 then T.set id.toNat { got T id with cl := true } else T
theorem any_step (T : List Nd) (id : Int) (k : Nat) (hk : k < T.length) : (T.drop k).any (fun n => decide (n.par = id) && !n.cl) = (decide ((T.getD k default).par = id) && !(T.getD k default).cl || (T.drop (k + 1)).any (fun n => decide (n.par = id) && !n.cl)) := by
  rw [List.drop_eq_getElem_cons hk, List.any_cons]
  simp [List.getD, hk]
set_option maxRecDepth 100000 in
set_option maxHeartbeats 4000000 in
theorem close_any (p : Nat) (T : List Nd) (id : Int) (w : World) (h : TreeAt w p T) : Calls Try.prog 18 #[.pointer (some ⟨p, 0, none⟩), .int .i64 id] w (Did p (cloT T id) (cloE T id) w) := by
  obtain ⟨ni, np, nk, nl, nc, ge, hgo, hge, hno, hyes, HG, HX⟩ := get_ahead p T id w h
  have HT := Lib.hid h
  have HL := Lib.hid h.1
  clear h
  by_cases hb : hasB T id = false
  · obtain rfl := hno hb
    have hE : cloE T id = 7 := by unfold cloE; rw [if_pos hb]
    have hT : cloT T id = T := by unfold cloT; rw [hE]; rfl
    rw [hE, hT]
    clear hE hT hgo hge hno hyes hb
    go_enter Try.func18, Try.ntmps18
    go_wp2_with fail
    refine HG.out.mono ?_
    rintro _ w1 ⟨rfl, ho⟩
    obtain ⟨e0, e1, e2, e3, e4, ho9⟩ := HX.out w1 ho
    have HO9 := Lib.hid ho9
    clear ho ho9 HG HX
    go_wp2_with fail
    go_ret
    exact ⟨rfl, HT.out.only HO9.out (fun f => f), Only.p p HO9.out⟩
  · obtain ⟨rfl, k, rfl, hk1, hk, hgk, hi0⟩ := hyes (by simpa using hb)
    cases nc
    · have hE0 : cloE T k = if busyB T k = true then 17 else 0 := by unfold cloE; rw [if_neg hb, hgo, if_neg (by simp)]
      have hT0 : cloT T k = if cloE T k = 0 then T.set k ⟨ni, np, nk, nl, true⟩ else T := by unfold cloT; rw [hgo, Int.toNat_natCast]
      have hk2 : (k : Int) < 33 := by omega
      have hk0 : (1 : Int) ≤ k := by omega
      have HST : Hid (∀ w1, Only (fun _ => False) w w1 → TreeAt (w1.setCell ⟨p, k * 5 + 4, none⟩ (.bool true)) p (T.set k ⟨ni, np, nk, nl, true⟩)) := Lib.hid (fun w1 ho => (HT.out.only ho (fun f => f)).store k 4 _ _ hk (by omega) (by rw [hgk]; rfl))
      have HCL : Hid (∀ w1, Only (fun _ => False) w w1 → (∃ u, w1.cell? ⟨p, k * 5 + 4, none⟩ = some u) ∧ w1.frozen? ⟨p, k * 5 + 4, none⟩ = false) := Lib.hid (fun w1 ho => ⟨⟨_, ((HT.out.only ho (fun f => f)).2.1 k hk).2.2.2.2⟩, (HT.out.only ho (fun f => f)).2.2 _ (by omega)⟩)
      have HB0 : Hid (busyB T k = (T.drop 0).any (fun n => decide (n.par = k) && !n.cl)) := Lib.hid rfl
      have HE0 := Lib.hid hE0
      have HT0 := Lib.hid hT0
      clear hE0 hT0 hgo hge hno hyes hb hgk hi0
      generalize cloE T k = E at *
      generalize cloT T k = T' at *
      go_enter Try.func18, Try.ntmps18
      go_wp2_with fail
      refine HG.out.mono ?_
      rintro _ w1 ⟨rfl, ho⟩
      obtain ⟨e0, e1, e2, e3, e4, ho9⟩ := HX.out w1 ho
      have HO9 := Lib.hid ho9
      have HRG := Lib.hid (HT.out.only ho9 (fun f => f)).range
      clear ho ho9 HG HX
      go_wp2_with (first | refine wpList_load_mid rfl 83 (Operand.tmp 22) rfl p 0 rfl (nv T) _ HRG.out Try.underlying83 rfl (by rw [info_all, nv_length, HL.out]) ?_)
      have HIX : Hid (∀ (j : Nat) w, j < 33 → _) := Lib.hid (fun j w hj => run_index_nd T j HL.out hj w)
      clear e0 e1 e2 e3 e4
      go_loopw [24] (fun i wr => ∃ j : Nat, j ≤ 33 ∧ i = .int .i64 j ∧ Hid (Only (fun _ => False) w wr) ∧ Hid (busyB T k = (T.drop j).any (fun n => decide (n.par = k) && !n.cl))) (fun i _ => 33 - (intOf i).toNat)
      case atStart => exact ⟨0, by omega, rfl, HO9, HB0⟩
      case round =>
        obtain ⟨j, hj, rfl, HW, HP⟩ := hrel
        by_cases h8 : j < 33
        · have h9 : (j : Int) < 33 := by omega
          have hix := fun w => HIX.out j w h8
          have hst := HP.out
          rw [any_step T k j (by rw [HL.out]; exact h8)] at hst
          generalize T.getD j default = n at *
          obtain ⟨xi, xp, xk, xl, xc⟩ := n
          unfold aggN at hix
          dsimp only at hix hst
          have HS := Lib.hid hst
          have HBX := Lib.hid (node_box 24 (.int .i64 xi) (.int .i64 xp) (.int .i64 xk) (.int .i64 xl) (.bool xc) HW.out)
          clear hst HP
          obtain ⟨d0, d1, d2, d3, d4, hw8⟩ := HBX.out
          have HW8 := Lib.hid hw8
          clear hw8 HBX
          by_cases h1 : xp = k
          · subst h1
            cases xc
            · have HR : Hid (E = 17 ∧ T' = T) := Lib.hid (by
                have hbz : busyB T k = true := by rw [HS.out]; simp
                have : E = 17 := by rw [HE0.out, if_pos hbz]
                exact ⟨this, by rw [HT0.out, this]; rfl⟩)
              go_wp2_with fail
              go_ret
              exact ⟨by rw [HR.out.1]; rfl, by rw [HR.out.2]; exact HT.out.only HW8.out (fun f => f), Only.p p HW8.out⟩
            · have HP2 : Hid (busyB T k = (T.drop (j + 1)).any (fun n => decide (n.par = k) && !n.cl)) := Lib.hid (by rw [HS.out]; simp)
              go_wp2_with fail
              go_roundw
              case rel => exact ⟨j + 1, by omega, by go_num, HW8, HP2⟩
              case measure => simp [intOf]; omega
          · have h2 : (xp == (k : Int)) = false := by simpa using h1
            have HP2 : Hid (busyB T k = (T.drop (j + 1)).any (fun n => decide (n.par = k) && !n.cl)) := Lib.hid (by rw [HS.out]; simp [h1])
            clear h1
            go_wp2_with fail
            go_roundw
            case rel => exact ⟨j + 1, by omega, by go_num, HW8, HP2⟩
            case measure => simp [intOf]; omega
        · obtain rfl : j = 33 := by omega
          have HR : Hid (E = 0 ∧ T' = T.set k ⟨ni, np, nk, nl, true⟩) := Lib.hid (by
            have hbz : busyB T k = false := by rw [HP.out, List.drop_eq_nil_of_le (by rw [HL.out]; omega)]; rfl
            have : E = 0 := by rw [HE0.out, if_neg (by rw [hbz]; simp)]
            exact ⟨this, by rw [HT0.out, if_pos this]⟩)
          obtain ⟨⟨u, cu⟩, fu⟩ := HCL.out _ HW.out
          clear HCL HP HIX
          go_wp2_with fail
          go_ret
          exact ⟨by rw [HR.out.1]; rfl, by rw [HR.out.2]; exact HST.out _ HW.out, (Only.p p HW.out).trans (Only.set _ _ _ _ _ rfl)⟩
    · have hE : cloE T k = 16 := by unfold cloE; rw [if_neg hb, hgo, if_pos rfl]
      have hT : cloT T k = T := by unfold cloT; rw [hE]; rfl
      rw [hE, hT]
      clear hE hT hgo hge hno hyes hb hgk hi0
      go_enter Try.func18, Try.ntmps18
      go_wp2_with fail
      refine HG.out.mono ?_
      rintro _ w1 ⟨rfl, ho⟩
      obtain ⟨e0, e1, e2, e3, e4, ho9⟩ := HX.out w1 ho
      have HO9 := Lib.hid ho9
      clear ho ho9 HG HX
      go_wp2_with fail
      go_ret
      exact ⟨rfl, HT.out.only HO9.out (fun f => f), Only.p p HO9.out⟩
end Go.Proofs.Ytfpeimihlihphaa.tre
