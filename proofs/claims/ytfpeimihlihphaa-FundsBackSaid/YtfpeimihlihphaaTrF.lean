/- The tree: Below. -/
import Derived.Test.YtfpeimihlihphaaTrE
namespace Go.Proofs.Ytfpeimihlihphaa.tre
open Go.RowKit mem
set_option linter.unusedVariables false

def belF (T : List Nd) (id : Int) (u : Int) : Bool := (pathL T u).contains id
def belowL (T : List Nd) (id : Int) : List Int := (idsL T).filter (belF T id)
theorem filter_step (f : Int → Bool) (l : List Int) (k : Nat) (h : k < l.length) : (l.take (k + 1)).filter f = if f (l.getD k 0) = true then (l.take k).filter f ++ [l.getD k 0] else (l.take k).filter f := by
  have e : l.getD k 0 = l[k] := by simp [List.getD, h]
  rw [List.take_succ_eq_append_getElem h, List.filter_append, e]
  by_cases hf : f l[k] = true
  · rw [if_pos hf]; simp [hf]
  · rw [if_neg hf]; simp [hf]
theorem contains_any (a : Option Addr) (c : Nat) (l : List Int) (x : Int) (w : World) (h : ReadsI w a l.length l) : Calls Try.prog 50 #[.slice a l.length c, .int .i64 x] w fun e w' => e = .returned (.bool (l.contains x)) ∧ w = w' := by
  obtain ⟨h1, h2, h3, h4⟩ := h
  unfold maxLen at h2
  by_cases h0 : l.length = 0
  · obtain rfl : l = [] := List.eq_nil_of_length_eq_zero h0
    exact (Try.slices_Contains_int_empty a c x w).mono fun _ _ ⟨p, q⟩ => ⟨p, q.symm⟩
  · obtain ⟨b, off, rfl, hc⟩ := h4.resolve_left h0
    refine (Try.slices_Contains_int b off l.length c l x w (Nat.le_refl _) (by omega) hc).mono fun _ _ ⟨p, q⟩ => ⟨?_, q.symm⟩
    rw [p, List.take_length]
theorem pathL_in {T : List Nd} (hi : Inv T) {id : Int} (hb : hasB T id = true) : ∀ c ∈ pathL T id, hasB T c = true := fun c hc => upL_in hi _ id hb rfl c (by unfold pathL at hc; simpa using hc)
set_option maxRecDepth 100000 in
set_option maxHeartbeats 4000000 in
theorem below_any (p : Nat) (T : List Nd) (id : Int) (w : World) (h : TreeAt w p T) (hi : Inv T) : Calls Try.prog 14 #[.pointer (some ⟨p, 0, none⟩), .int .i64 id] w fun e w' => (∃ v, e = .returned (.tuple #[v, .int .i64 (gotE T id)]) ∧ RetI (if hasB T id = true then belowL T id else []) w v w') ∧ Only (fun _ => False) w w' := by
  obtain ⟨i1, hj, hy0, hy1, hy2⟩ : ∃ i1, Try.prog.info? 3 = some i1 ∧ i1.zero = some (.int .i64 0) ∧ i1.size = 1 ∧ i1.bytes = 8 := by
    obtain ⟨i, h1, h2⟩ := Option.map_eq_some_iff.1 info_i64
    exact ⟨i, h1, by simpa using h2⟩
  obtain ⟨ni, np, nk, nl, nc, ge, hgo, hge, hno, hyes, HG, HX⟩ := get_ahead p T id w h
  have HT := Lib.hid h
  rw [hge]
  by_cases hb : hasB T id = false
  · obtain rfl := hno hb
    rw [if_neg (by rw [hb]; simp)]
    clear hgo hge hno hyes hb h hi
    go_enter Try.func14, Try.ntmps14
    go_wp2_with fail
    refine HG.out.mono ?_
    rintro _ w1 ⟨rfl, ho⟩
    obtain ⟨e0, e1, e2, e3, e4, ho9⟩ := HX.out w1 ho
    have HO9 := Lib.hid ho9
    clear ho ho9 HG HX
    go_wp2_with fail
    go_ret2
    exact ⟨⟨_, rfl, RetI.nil _ _⟩, HO9.out⟩
  · have hb' : hasB T id = true := by simpa using hb
    obtain ⟨rfl, _⟩ := hyes hb'
    rw [if_pos hb']
    have HP : Hid (∀ u w1, hasB T u = true → TreeAt w1 p T → _) := Lib.hid (fun u w1 hu h => path_any p T u w1 h hi hu)
    have HI : Hid (∀ w1, TreeAt w1 p T → _) := Lib.hid (fun w1 h => ids_any p T w1 h)
    have HPI : Hid (∀ u, hasB T u = true → ∀ c ∈ pathL T u, hasB T c = true) := Lib.hid (fun u hu => pathL_in hi hu)
    have HIN := Lib.hid (idsU_in T 33)
    have HLN := Lib.hid (idsU_len T 33)
    have HBL : Hid (belowL T id = (idsU T 33).filter (belF T id)) := Lib.hid rfl
    clear hgo hge hno hyes hb hb' h hi
    go_enter Try.func14, Try.ntmps14
    go_wp2_with fail
    refine HG.out.mono ?_
    rintro _ w1 ⟨rfl, ho⟩
    obtain ⟨e0, e1, e2, e3, e4, ho9⟩ := HX.out w1 ho
    have HO9 := Lib.hid ho9
    clear ho ho9 HG HX e0 e1 e2 e3 e4
    go_wp2_with fail
    refine (HI.out _ (HT.out.only HO9.out (fun f => f))).mono ?_
    rintro _ w2 ⟨⟨v, rfl, a, c, rfl, hr, hb⟩, ho2⟩
    have HR := Lib.hid (show ReadsI w2 a (idsU T 33).length (idsU T 33) from hr)
    have HO10 := Lib.hid (HO9.out.trans ho2)
    have hlen : (idsL T).length = (idsU T 33).length := rfl
    rw [hlen]
    generalize hIL : idsU T 33 = IL at *
    clear hlen hIL hr hb ho2 HI HO9
    generalize hn : IL.length = n at *
    have HN := Lib.hid hn
    have hn33 : n ≤ 33 := HLN.out
    clear hn HLN
    go_wp2_with fail
    go_loopw [8, 23] (fun sv kv wr => ∃ (k : Nat) (dv : Value), k ≤ n ∧ kv = .int .i64 k ∧ dv = sv ∧ Hid (OwnI wr dv ((IL.take k).filter (belF T id))) ∧ Hid (∀ q, dv.ownBlock = some q → w2.heap.size ≤ q) ∧ Hid (Only (fun _ => False) w2 wr)) (fun _ kv _ => n - (intOf kv).toNat)
    case atStart => exact ⟨0, _, by omega, rfl, rfl, Lib.hid (OwnI.nil _), Lib.hid (fun q e => by cases e), Lib.hid (Only.refl _ _)⟩
    case round =>
      obtain ⟨k, dv, hk, rfl, rfl, HOI, HBK, HO⟩ := hrel
      by_cases h8 : k < n
      · obtain ⟨b, off, rfl, hcell⟩ := HR.out.2.2.2.resolve_left (by omega)
        have hcl := HO.out.cell' (hcell k h8) (fun f => f)
        clear hcell
        have hk0 : (0 : Int) ≤ k := by omega
        have hkn : (k : Int) < n := by omega
        have HST := Lib.hid (filter_step (belF T id) IL k (by rw [HN.out]; exact h8))
        have hmem : IL.getD k 0 ∈ IL := by
          have : IL.getD k 0 = IL[k]'(by rw [HN.out]; exact h8) := by simp [List.getD, HN.out, h8]
          rw [this]; exact List.getElem_mem _
        generalize IL.getD k 0 = u at *
        obtain ⟨hu1, hu2, hu3⟩ := HIN.out u hmem
        have HU3 := Lib.hid hu3
        have HF : Hid ((pathL T u).contains id = belF T id u) := Lib.hid rfl
        have hlenf : ((IL.take k).filter (belF T id)).length ≤ k := Nat.le_trans (List.length_filter_le _ _) (List.length_take_le _ _)
        have HCI : Hid (∀ a c w, ReadsI w a (pathL T u).length (pathL T u) → _) := Lib.hid (fun a c w h => contains_any a c (pathL T u) id w h)
        clear hmem hu3
        go_wp2_with fail
        refine (HP.out u _ HU3.out (HT.out.only (HO10.out.trans HO.out) (fun f => f))).mono ?_
        rintro _ w3 ⟨⟨v, rfl, a3, c3, rfl, hr3, hb3⟩, ho3⟩
        have HR3 := Lib.hid hr3
        have HO3 := Lib.hid (HO.out.trans ho3)
        have HOI3 := Lib.hid (HOI.out.only ho3 (fun _ _ f => f))
        clear hr3 hb3 ho3 hcl
        go_wp2_with fail
        refine (HCI.out a3 c3 _ HR3.out).mono ?_
        rintro _ _ ⟨rfl, rfl⟩
        rw [HF.out]
        by_cases hbf : belF T id u = true
        · rw [hbf]
          have HSV : Hid ((IL.take (k + 1)).filter (belF T id) = (IL.take k).filter (belF T id) ++ [u]) := Lib.hid (by rw [HST.out, if_pos hbf])
          have HOW2 : Hid ((w3.alloc (.cells #[.int .i64 u] 3)).ownsRow 0 3 1 dv ((IL.take k).filter (belF T id)).length (iv ((IL.take k).filter (belF T id)))) := Lib.hid (HOI3.out.only ((Only.refl (fun _ => False) w3).alloc _) (fun _ _ f => f))
          generalize hm : ((IL.take k).filter (belF T id)).length = m at *
          have HM := Lib.hid hm
          clear hbf hm HST HF
          go_wp2_with (at_builtin; refine append_mine rfl _ _ 30 rfl 3 i1 _ 1 8 Try.underlying30 hj hy0 hy1 hy2 rfl (by decide) _ m _ rfl HOW2.out ⟨w3.heap.size, 0, none⟩ 1 1 (iv [u]) rfl ?c1 ?c2 ?c3 ?c4 ?c5 ?_)
          case c1 => rfl
          case c2 => exact news_int rfl _
          case c3 => exact iv_one _
          case c4 => unfold maxLen; omega
          case c5 => omega
          intro v4 w4 hown hgrow hkk
          have HON : Hid (OwnI w4 v4 ((IL.take (k + 1)).filter (belF T id))) := Lib.hid (by
            unfold OwnI
            rw [HSV.out, iv_append, List.length_append, HM.out]
            exact hown)
          have HBN : Hid (∀ q, v4.ownBlock = some q → w2.heap.size ≤ q) := Lib.hid (fun q hq => by
            rcases hkk q hq with e | e
            · exact HBK.out q e
            · have h5 : w3.heap.size ≤ q := by first | omega | (simp only [size_alloc] at e; omega)
              have := HO3.out.size
              omega)
          have HON2 : Hid (Only (fun _ => False) w2 w4) := Lib.hid ((HO3.out.alloc _).then (Only.of_grown hgrow) (fun q hq e => by have := HBK.out q e; omega))
          clear hown hgrow hkk HOW2
          go_wp2_with fail
          go_roundw
          case rel => exact ⟨k + 1, v4, by omega, by go_num, rfl, HON, HBN, HON2⟩
          case measure => simp [intOf]; omega
        · have hbf' : belF T id u = false := by simpa using hbf
          rw [hbf']
          have HSV : Hid (OwnI w3 dv ((IL.take (k + 1)).filter (belF T id))) := Lib.hid (by rw [HST.out, if_neg hbf]; exact HOI3.out)
          clear hbf hbf' HST HF
          go_wp2_with fail
          go_roundw
          case rel => exact ⟨k + 1, dv, by omega, by go_num, rfl, HSV, HBK, HO3⟩
          case measure => simp [intOf]; omega
      · obtain rfl : k = n := by omega
        have HRT : Hid (RetI (belowL T id) w dv wr) := Lib.hid (by
          have h0 := HOI.out
          rw [List.take_of_length_le (by rw [HN.out]; exact Nat.le_refl _), ← HBL.out] at h0
          refine RetI.of_own h0 (fun c hc => ?_) ?_ (fun q hq => by have := HBK.out q hq; have := HO10.out.size; omega)
          · rw [HBL.out] at hc
            have := HIN.out c (List.mem_filter.1 hc).1
            omega
          · rw [HBL.out]
            have := List.length_filter_le (belF T id) IL
            have := HN.out
            omega)
        have HO11 := Lib.hid (HO10.out.trans HO.out)
        go_wp2_with fail
        go_ret2
        exact ⟨⟨_, rfl, HRT.out⟩, HO11.out⟩
end Go.Proofs.Ytfpeimihlihphaa.tre
