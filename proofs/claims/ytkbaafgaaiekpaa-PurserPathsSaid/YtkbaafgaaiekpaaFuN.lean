/- Books: Nodes. -/
import Derived.Test.YtkbaafgaaiekpaaFuB
import Derived.ChangeKeysEq
namespace Go.Proofs.Ytkbaafgaaiekpaa.fnd
open Go.RowKit mem tre
set_option linter.unusedVariables false

theorem av_drop : ∀ (l : List Ac) (k : Nat), (av l).drop (k * 5) = av (l.drop k) := by
  intro l
  induction l with
  | nil => intro k; simp [av]
  | cons x r ih =>
    intro k
    cases k with
    | zero => simp [av]
    | succ k =>
      have e : (k + 1) * 5 = k * 5 + 5 := by omega
      rw [e, List.drop_succ_cons, av_cons, ← ih k]
      rfl
theorem av_part (T : List Ac) (k : Nat) (hk : k < T.length) : (av T).toArray.extract (k * 5) (k * 5 + 5) = (encA (T.getD k zA)).toArray := by
  rw [List.extract_toArray, List.extract_eq_take_drop, av_drop, List.drop_eq_getElem_cons hk, av_cons]
  have e : T.getD k zA = T[k] := by simp [List.getD, hk]
  rw [e, show k * 5 + 5 - k * 5 = (encA T[k]).length by show k * 5 + 5 - k * 5 = 5; omega]
  rw [List.take_left']
  rfl
theorem info_ac : (Try.prog.info? 40).map (·.size) = some 5 := by kernel_rfl
theorem run_index_ac (T : List Ac) (k : Nat) (hT : T.length = 33) (hk : k < 33) (w : World) : (Instr.index 95 (.agg (av T).toArray) (.int .i64 (k : Int))).run Try.prog w = .ok (aggA (T.getD k zA)) w := by
  have h1 : (0 : Int) ≤ k ∧ (k : Int) < (33 : Nat) := by omega
  have e : List.take 5 (List.drop (k * 5) (av T)) = encA (T.getD k zA) := by
    have := congrArg Array.toList (av_part T k (by omega))
    rw [List.extract_toArray, List.extract_eq_take_drop, show k * 5 + 5 - k * 5 = 5 by omega] at this
    exact this
  generalize T.getD k zA = n at *
  simp [Instr.index, run_underlying Try.underlying95, asIntOf, hk, part, go_sem, e, aggA, encA]
theorem info_accs : (Try.prog.info? 95).map (·.size) = some 165 := by kernel_rfl
theorem BkAt.range {w : World} {p : Nat} {T : List Ac} (hl : T.length = 33) (h : BkAt w p T) : w.rangeAt p 0 (av T) := by
  intro j v hv
  have hj : j < 165 := by
    rcases Nat.lt_or_ge j (av T).length with h' | h'
    · rw [av_length, hl] at h'; omega
    · rw [List.getElem?_eq_none h'] at hv; cases hv
  have e : j = j / 5 * 5 + j % 5 := by omega
  rw [Nat.zero_add, e, AcAt.iff.1 (h.1 (j / 5) (by omega)) (j % 5) (by omega), ← av_get T (j / 5) (j % 5) (by rw [hl]; omega) (by omega), ← e]
  exact hv
set_option maxRecDepth 100000 in
theorem ac_cmpN (N : Nat) (a b : Ac) (ha : InA a) (hb : InA b) (w : World) : (Op.equalIn (N + 10) 40 (aggA a) (aggA b)).run Try.prog w = .ok (decide (a = b)) w := by
  obtain ⟨r, hr, hiff⟩ := run_equalIn_deep (P := Try.prog) N 10 40 (by kernel_rfl) w 2 2 (aggA a) (aggA b) _ _ (by kernel_rfl) (by kernel_rfl) (key_ac a ha) (key_ac b hb)
  rw [hr]
  congr 1
  rw [Bool.eq_iff_iff, hiff, decide_eq_true_iff]
  constructor
  · intro h
    obtain ⟨a0, a1, a2, a3, a4⟩ := a
    obtain ⟨b0, b1, b2, b3, b4⟩ := b
    simp at h
    simp [h]
  · intro h; rw [h]
/-- the nodes below k whose account isn't of noughts -/
def nodU (A : List Ac) (k : Nat) : List Int := ((List.range k).filter fun (j : Nat) => decide (A.getD j zA ≠ zA)).map fun (j : Nat) => (j : Int)
theorem nodU_succ (T : List Ac) (k : Nat) : nodU T (k + 1) = if T.getD k zA ≠ zA then nodU T k ++ [(k : Int)] else nodU T k := by
  unfold nodU
  rw [List.range_succ, List.filter_append]
  by_cases h : T.getD k zA ≠ zA
  · rw [if_pos h]; simp only [List.filter_cons, List.filter_nil, decide_eq_true h, if_true, List.map_append, List.map_cons, List.map_nil]
  · rw [if_neg h]; simp only [List.filter_cons, List.filter_nil, decide_eq_false h]; simp
theorem nodU_in (T : List Ac) (k : Nat) : ∀ c ∈ nodU T k, 0 ≤ c ∧ c < k := by
  intro c hc
  unfold nodU at hc
  obtain ⟨j, hj, rfl⟩ := List.mem_map.1 hc
  have := List.mem_range.1 (List.mem_filter.1 hj).1
  omega
theorem nodU_len (T : List Ac) (k : Nat) : (nodU T k).length ≤ k := by
  unfold nodU
  rw [List.length_map]
  exact Nat.le_trans (List.length_filter_le _ _) (by simp)
theorem ins_zA : InA zA := right_ins right_z.1
set_option maxRecDepth 100000 in
set_option maxHeartbeats 4000000 in
theorem nodes_any (p : Nat) (T : List Ac) (w : World) (h : BkAt w p T) (hA : Bok T) : Calls Try.prog 32 #[.pointer (some ⟨p, 0, none⟩)] w fun e w' => (∃ v, e = .returned v ∧ RetI (nodU T 33) w v w') ∧ Only (fun _ => False) w w' := by
  obtain ⟨i1, hj, hy0, hy1, hy2⟩ : ∃ i1, Try.prog.info? 3 = some i1 ∧ i1.zero = some (.int .i64 0) ∧ i1.size = 1 ∧ i1.bytes = 8 := by
    obtain ⟨i, h1, h2⟩ := Option.map_eq_some_iff.1 info_i64
    exact ⟨i, h1, by simpa using h2⟩
  have HT := Lib.hid h
  have HL := Lib.hid hA.len
  have HRG := Lib.hid (h.range hA.len)
  have HIN : Hid (∀ k, InA (T.getD k zA)) := Lib.hid (fun k => right_ins (hA.ok k).1)
  have HIX : Hid (∀ (j : Nat) w, j < 33 → _) := Lib.hid (fun j w hj => run_index_ac T j hA.len hj w)
  clear h hA
  have e0 := HT.out.1 0 (by omega)
  obtain ⟨e0, -⟩ := e0
  go_enter Try.func32, Try.ntmps32
  go_wp2_with (first | refine wpList_load_mid rfl 95 (Operand.tmp 10) rfl p 0 rfl (av T) _ HRG.out Try.underlying95 rfl (by rw [info_accs, av_length, HL.out]) ?_)
  clear e0
  go_loopw [3, 12] (fun sv kv wr => ∃ (k : Nat) (dv : Value), k ≤ 33 ∧ kv = .int .i64 k ∧ dv = sv ∧ Hid (OwnI wr dv (nodU T k)) ∧ Hid (∀ q, dv.ownBlock = some q → w.heap.size ≤ q) ∧ Hid (Only (fun _ => False) w wr)) (fun _ kv _ => 33 - (intOf kv).toNat)
  case atStart => exact ⟨0, _, by omega, rfl, rfl, Lib.hid (OwnI.nil _), Lib.hid (fun q e => by cases e), Lib.hid (Only.refl _ _)⟩
  case round =>
    obtain ⟨k, dv, hk, rfl, rfl, HOI, HBK, HO⟩ := hrel
    by_cases h8 : k < 33
    · have hk0 : (0 : Int) ≤ k := by omega
      have hkn : (k : Int) < 33 := by omega
      have hix := fun w => HIX.out k w h8
      have HSU := Lib.hid (nodU_succ T k)
      have HCM : Hid (∀ N w, _) := Lib.hid (fun N w => ac_cmpN N (T.getD k zA) zA (HIN.out k) ins_zA w)
      have HLN := Lib.hid (nodU_len T k)
      by_cases hb : T.getD k zA = zA
      · have hSV : nodU T (k + 1) = nodU T k := by rw [HSU.out, if_neg (fun q => q hb)]
        have HSV : Hid (OwnI wr dv (nodU T (k + 1))) := Lib.hid (by rw [hSV]; exact HOI.out)
        rw [hb] at hix HCM
        have hc1 := HCM.out 9990
        have hc2 := HCM.out 9989
        rw [decide_eq_true (rfl : zA = zA)] at hc1 hc2
        unfold aggA zA at hix hc1 hc2
        dsimp only at hix hc1 hc2
        obtain ⟨d0, d1, d2, d3, d4, hw8⟩ := node_box 40 (.int .i64 0) (.int .i64 0) (.int .i64 0) (.int .i64 0) (.int .i64 0) HO.out
        have HW8 := Lib.hid hw8
        have HSV8 := Lib.hid (HSV.out.only ((Only.refl (fun _ => False) wr).alloc (.cells #[.int .i64 0, .int .i64 0, .int .i64 0, .int .i64 0, .int .i64 0] 40)) (fun _ _ f => f))
        clear hw8 hb hSV HSU HCM
        go_wp2_with fail
        go_roundw
        case rel => exact ⟨k + 1, dv, by omega, by go_num, rfl, HSV8, HBK, HW8⟩
        case measure => simp [intOf]; omega
      · have HSV : Hid (nodU T (k + 1) = nodU T k ++ [(k : Int)]) := Lib.hid (by rw [HSU.out, if_pos hb])
        have hc1 := HCM.out 9990
        have hc2 := HCM.out 9989
        rw [decide_eq_false hb] at hc1 hc2
        clear hb HSU HCM
        generalize T.getD k zA = n at *
        obtain ⟨xt, xc, xe, xu, xh⟩ := n
        unfold aggA zA at hc1 hc2
        unfold aggA at hix
        dsimp only at hix hc1 hc2
        obtain ⟨d0, d1, d2, d3, d4, hw8⟩ := node_box 40 (.int .i64 xt) (.int .i64 xc) (.int .i64 xe) (.int .i64 xu) (.int .i64 xh) HO.out
        obtain ⟨wq, hwq⟩ : ∃ x, x = wr.alloc (.cells #[.int .i64 xt, .int .i64 xc, .int .i64 xe, .int .i64 xu, .int .i64 xh] 40) := ⟨_, rfl⟩
        have HOW2 : Hid ((wq.alloc (.cells #[.int .i64 k] 3)).ownsRow 0 3 1 dv (nodU T k).length (iv (nodU T k))) := Lib.hid (HOI.out.only ((by rw [hwq]; exact ((Only.refl (fun _ => False) wr).alloc _).alloc _)) (fun _ _ f => f))
        rw [← hwq] at hw8
        have HW8 := Lib.hid hw8
        have HWQ := Lib.hid hwq
        generalize hn : (nodU T k).length = n at *
        have HN := Lib.hid hn
        have hn33 : n ≤ 33 := by have := HLN.out; omega
        clear hn hw8 hwq
        go_upto_region 8 with fail
        rw [← HWQ.out]
        clear HWQ d0 d1 d2 d3 d4
        go_wp2_with (at_builtin; refine append_mine rfl _ _ 28 rfl 3 i1 _ 1 8 Try.underlying28 hj hy0 hy1 hy2 rfl (by decide) _ n _ rfl HOW2.out ⟨wq.heap.size, 0, none⟩ 1 1 (iv [(k : Int)]) rfl ?c1 ?c2 ?c3 ?c4 ?c5 ?_)
        case c1 => rfl
        case c2 => exact news_int rfl _
        case c3 => exact iv_one _
        case c4 => unfold maxLen; omega
        case c5 => omega
        intro v3 w3 hown hgrow hkk
        have HON : Hid (OwnI w3 v3 (nodU T (k + 1))) := Lib.hid (by
          unfold OwnI
          rw [HSV.out, iv_append, List.length_append, HN.out]
          exact hown)
        have HBN : Hid (∀ q, v3.ownBlock = some q → w.heap.size ≤ q) := Lib.hid (fun q hq => by
          rcases hkk q hq with e | e
          · exact HBK.out q e
          · have h5 : wq.heap.size ≤ q := by first | omega | (simp only [size_alloc] at e; omega)
            have := HW8.out.size
            omega)
        have HON2 : Hid (Only (fun _ => False) w w3) := Lib.hid ((HW8.out.alloc _).then (Only.of_grown hgrow) (fun q hq e => by have := HBK.out q e; omega))
        clear hown hgrow hkk HOW2
        go_wp2_with fail
        go_roundw
        case rel => exact ⟨k + 1, v3, by omega, by go_num, rfl, HON, HBN, HON2⟩
        case measure => simp [intOf]; omega
    · obtain rfl : k = 33 := by omega
      have HR : Hid (RetI (nodU T 33) w dv wr) := Lib.hid (RetI.of_own HOI.out (fun c hc => by have := nodU_in T 33 c hc; omega) (by have := nodU_len T 33; omega) HBK.out)
      go_wp2_with fail
      go_ret
      exact ⟨⟨_, rfl, HR.out⟩, HO.out⟩
end Go.Proofs.Ytkbaafgaaiekpaa.fnd
