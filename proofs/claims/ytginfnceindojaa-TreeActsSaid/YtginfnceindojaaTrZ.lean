/- The document's Below. -/
import Derived.Test.YtginfnceindojaaTrY
namespace Go.Proofs.Ytginfnceindojaa.tre
open Go.RowKit mem
set_option linter.unusedVariables false

set_option maxRecDepth 100000 in
set_option maxHeartbeats 4000000 in
theorem rbelow_any (p : Nat) (T : List Nd) (id : Int) (w : World) (h : RAt w p T) (ht : Tok T) (hn : Nul T) : Calls Try.prog 27 #[.pointer (some ⟨p, 0, none⟩), .int .i64 id] w fun e w' => (∃ v, e = .returned v ∧ OwnI w' v (belowL T id) ∧ ∀ q, v.ownBlock = some q → w.heap.size ≤ q) ∧ Only (fun _ => False) w w' := by
  obtain ⟨i1, hj, hy0, hy1, hy2⟩ : ∃ i1, Try.prog.info? 3 = some i1 ∧ i1.zero = some (.int .i64 0) ∧ i1.size = 1 ∧ i1.bytes = 8 := by
    obtain ⟨i, h1, h2⟩ := Option.map_eq_some_iff.1 info_i64
    exact ⟨i, h1, by simpa using h2⟩
  have HP : Hid (∀ u w1, RAt w1 p T → _) := Lib.hid (fun u w1 h => rpath_any p T u w1 h ht hn)
  have HT := Lib.hid h
  have HB1 := Lib.hid (belU_one T id)
  have HB33 : Hid (belU T id 33 = belowL T id) := Lib.hid rfl
  have HBS := Lib.hid (bel_step T id)
  have HPI := Lib.hid (PQ_in ht)
  have HPN := Lib.hid (fun u => PQ_one ht u id)
  have HPL : Hid (∀ u, (PQ T u).length ≤ 3) := Lib.hid (fun u => by
    rw [PQ_len]; unfold dep
    by_cases hb : hasB T u = true
    · rw [if_pos hb]; exact (kindN_pos ht hb).2.1
    · rw [if_neg hb]; omega)
  have HBL : Hid (∀ k, (belU T id k).length ≤ k) := Lib.hid (fun k => Nat.le_trans (List.length_filter_le _ _) (idsU_len T k))
  clear h ht hn
  go_enter Try.func27, Try.ntmps27
  go_wp2_with fail
  go_loopw [5, 6] (fun ov iv wr => ∃ (i : Nat) (dv : Value), 1 ≤ i ∧ i ≤ 33 ∧ iv = .int .i64 (i : Int) ∧ dv = ov ∧ Hid (OwnI wr dv (belU T id i)) ∧ Hid (∀ q, dv.ownBlock = some q → w.heap.size ≤ q) ∧ Hid (Only (fun _ => False) w wr)) (fun _ iv _ => 33 - (intOf iv).toNat)
  case atStart => exact ⟨1, _, by omega, by omega, rfl, rfl, Lib.hid (by rw [HB1.out]; exact OwnI.nil _), Lib.hid (fun q e => by cases e), Lib.hid (Only.refl _ _)⟩
  case round =>
    obtain ⟨i, dv0, hi1, hi, rfl, rfl, HOI0, HBK0, HO0⟩ := hrel
    by_cases h8 : i ≤ 32
    · have hin : (i : Int) ≤ 32 := by omega
      have HS := Lib.hid (HBS.out i)
      have HNP := Lib.hid (HPN.out (i : Int))
      have HNI := Lib.hid (HPI.out (i : Int))
      have hpl := HPL.out (i : Int)
      have HP2 := Lib.hid (HP.out (i : Int) wr (HT.out.only HO0.out (fun f => f)))
      have HBN0 := Lib.hid (HBL.out i)
      have HBQ0 : ∃ B2, Hid (belU T id (i + 1) = B2) := ⟨_, Lib.hid rfl⟩
      obtain ⟨B2, HBQ⟩ := HBQ0
      rw [HBQ.out] at HS
      generalize belU T id i = B at *
      generalize PQ T (i : Int) = P at *
      go_wp2_with fail
      refine HP2.out.mono ?_
      rintro _ w3 ⟨⟨pv, rfl, hown, hbk⟩, ho⟩
      obtain ⟨a, cap, rfl, hrd, hab⟩ := hown.reads HNI.out (by omega)
      have HRD := Lib.hid hrd
      have HAB : Hid (∀ y, a = some y → wr.heap.size ≤ y.block) := Lib.hid (fun y hy => hbk _ (hab y hy))
      have HAL : Hid (∀ y, a = some y → y.block < w3.heap.size) := Lib.hid (fun y hy => own_lt hown _ (hab y hy))
      have HOI3 := Lib.hid (HOI0.out.only ho (fun _ _ f => f))
      have HOL := Lib.hid (own_lt HOI0.out)
      have HO3 := Lib.hid (HO0.out.trans ho)
      have HSZ := Lib.hid ho.size
      generalize hnl : P.length = n at *
      have HN := Lib.hid hnl
      clear hown hbk ho hrd hab hnl HOI0 HO0 HP2
      go_wp2_with fail
      go_loopw [5, 8] (fun ov kv wz => ∃ (k : Nat) (dv : Value), k ≤ n ∧ kv = .int .i64 (k : Int) ∧ dv = ov ∧ Hid (OwnI wz dv (B ++ if id ∈ P.take k then [(i : Int)] else [])) ∧ Hid (∀ q, dv.ownBlock = some q → w.heap.size ≤ q ∧ ∀ y, a = some y → y.block ≠ q) ∧ Hid (ReadsI wz a n P) ∧ Hid (Only (fun _ => False) w wz) ∧ Hid (w3.heap.size ≤ wz.heap.size)) (fun _ kv _ => n - (intOf kv).toNat)
      case atStart => exact ⟨0, _, by omega, rfl, rfl, Lib.hid (by simpa using HOI3.out), Lib.hid (fun q e => ⟨HBK0.out q e, fun y hy => by have := HOL.out q e; have := HAB.out y hy; omega⟩), HRD, HO3, Lib.hid (Nat.le_refl _)⟩
      case round =>
        obtain ⟨k, dv, hk, rfl, rfl, HOI, HBK, HR, HO, HSG⟩ := hrel
        rename World => wz
        by_cases h9 : k < n
        · obtain ⟨b, off, rfl, hcell⟩ := HR.out.2.2.2.resolve_left (by omega)
          have c9 := hcell k h9
          have hk0 : (0 : Int) ≤ k := by omega
          have hkn : (k : Int) < n := by omega
          have HTS := Lib.hid (take_mem_step P id k (by rw [HN.out]; exact h9))
          have HNK := Lib.hid (HNP.out k h9)
          generalize P.getD k 0 = x at *
          clear hcell
          by_cases hx : x = id
          · subst hx
            have HL2 : Hid ((B ++ if x ∈ P.take k then [(i : Int)] else []) = B) := Lib.hid (by rw [if_neg (HNK.out rfl), List.append_nil])
            have HL3 : Hid ((B ++ if x ∈ P.take (k + 1) then [(i : Int)] else []) = B ++ [(i : Int)]) := Lib.hid (by rw [if_pos (HTS.out.2 (.inr rfl))])
            rw [HL2.out] at HOI
            have HOW2 : Hid ((wz.alloc (.cells #[.int .i64 (i : Int)] 3)).ownsRow 0 3 1 dv B.length (iv B)) := Lib.hid (HOI.out.only ((Only.refl (fun _ => False) wz).alloc _) (fun _ _ f => f))
            have HRA := Lib.hid (HR.out.only ((Only.refl (fun _ => False) wz).alloc (.cells #[.int .i64 (i : Int)] 3)) (fun _ _ f => f))
            generalize hnb : B.length = nb at *
            have HNB := Lib.hid hnb
            have hnb33 : nb ≤ 33 := by have := HBN0.out; omega
            clear hnb
            go_wp2_with (at_builtin; refine append_mine rfl _ _ 22 rfl 3 i1 _ 1 8 Try.underlying22 hj hy0 hy1 hy2 rfl (by decide) _ nb _ rfl HOW2.out ⟨wz.heap.size, 0, none⟩ 1 1 (iv [(i : Int)]) rfl ?c1 ?c2 ?c3 ?c4 ?c5 ?_)
            case c1 => rfl
            case c2 => first | exact news_int rfl _ | (intro j u hu; exact hu)
            case c3 => exact iv_one _
            case c4 => unfold maxLen; omega
            case c5 => omega
            intro v4 w4 hown hgrow hkk
            have HON : Hid (OwnI w4 v4 (B ++ if x ∈ P.take (k + 1) then [(i : Int)] else [])) := Lib.hid (by
              unfold OwnI
              rw [HL3.out, iv_append, List.length_append, HNB.out]
              exact hown)
            have hog : Only _ (wz.alloc (.cells #[.int .i64 (i : Int)] 3)) w4 := Only.of_grown hgrow
            have HBN : Hid (∀ q, v4.ownBlock = some q → w.heap.size ≤ q ∧ ∀ y, some (⟨b, off, none⟩ : Addr) = some y → y.block ≠ q) := Lib.hid (fun q hq => by
              rcases hkk q hq with e | e
              · exact HBK.out q e
              · have h5 : wz.heap.size ≤ q := by first | omega | (simp only [size_alloc] at e; omega)
                have := HO.out.size
                have := HSG.out
                exact ⟨by omega, fun y hy => by have := HAL.out y hy; omega⟩)
            have HR4 : Hid (ReadsI w4 (some ⟨b, off, none⟩) n P) := Lib.hid (HRA.out.only hog (fun y hy hs => (HBK.out _ hs).2 y hy rfl))
            have HON2 : Hid (Only (fun _ => False) w w4) := Lib.hid ((HO.out.alloc _).then hog (fun q hq e => by have := (HBK.out q e).1; omega))
            have HSG4 : Hid (w3.heap.size ≤ w4.heap.size) := Lib.hid (by have := hog.size; simp only [size_alloc] at this; have := HSG.out; omega)
            clear hown hgrow hkk HOW2 hog
            go_wp2_with fail
            go_roundw
            case rel => exact ⟨k + 1, v4, by omega, by go_num, rfl, HON, HBN, HR4, HON2, HSG4⟩
            case measure => simp [intOf]; omega
          · have hxb : (x == id) = false := by simpa using hx
            have HON : Hid (OwnI wz dv (B ++ if id ∈ P.take (k + 1) then [(i : Int)] else [])) := Lib.hid (by
              have e : (if id ∈ P.take (k + 1) then [(i : Int)] else []) = if id ∈ P.take k then [(i : Int)] else [] := by
                by_cases q : id ∈ P.take k
                · rw [if_pos q, if_pos (HTS.out.2 (.inl q))]
                · rw [if_neg q, if_neg (fun q2 => (HTS.out.1 q2).elim q hx)]
              rw [e]; exact HOI.out)
            clear hx
            go_wp2_with fail
            go_roundw
            case rel => exact ⟨k + 1, dv, by omega, by go_num, rfl, HON, HBK, HR, HO, HSG⟩
            case measure => simp [intOf]; omega
        · obtain rfl : k = n := by omega
          have HON : Hid (OwnI wz dv (belU T id (i + 1))) := Lib.hid (by
            have := HOI.out
            rw [List.take_of_length_le (by rw [HN.out]; exact Nat.le_refl _), ← HS.out, ← HBQ.out] at this
            exact this)
          have HBN : Hid (∀ q, dv.ownBlock = some q → w.heap.size ≤ q) := Lib.hid (fun q hq => (HBK.out q hq).1)
          go_wp2_with fail
          go_roundw
          case rel => exact ⟨i + 1, dv, by omega, by omega, by go_num, rfl, HON, HBN, HO⟩
          case measure => simp [intOf]; omega
    · obtain rfl : i = 33 := by omega
      rw [HB33.out] at HOI0
      go_wp2_with fail
      go_ret
      exact ⟨⟨_, rfl, HOI0.out, HBK0.out⟩, HO0.out⟩
end Go.Proofs.Ytginfnceindojaa.tre
