/- The document's Share: what it answers. -/
import Derived.Test.YtooffbgcaichmaaShareA
import Derived.Test.YtooffbgcaichmaaSums0
namespace Go.Proofs.Ytooffbgcaichmaa.bigw
open Go.RowKit mem bigm intm
set_option linter.unusedVariables false

/-- the first k are none below nought, and it is a sum -/
def okk (q : Bool) (l : List Int) (k : Nat) : Bool := q && !negs (l.take k)

theorem okk_step {q : Bool} {l : List Int} {k : Nat} (hk : k < l.length) : okk q l (k + 1) = (okk q l k && decide (0 ≤ l.getD k 0)) := by
  unfold okk negs
  have e : l.getD k 0 = l[k] := by simp [List.getD, hk]
  rw [List.take_succ_eq_append_getElem hk, List.any_append, e]
  have e2 : (!decide (l[k] < 0)) = decide (0 ≤ l[k]) := by
    by_cases h : l[k] < 0
    · rw [decide_eq_true h, decide_eq_false (by omega)]; rfl
    · rw [decide_eq_false h, decide_eq_true (by omega)]; rfl
  cases q <;> simp [e2]

set_option maxRecDepth 100000 in
set_option maxHeartbeats 2000000 in
theorem rshare_no (t : Int) (a : Option Addr) (len cap : Nat) (l : List Int) (w : World) (h : ReadsI w a len l) (hno : shr t l = false) :
    Calls Try.prog 26 #[.int .i64 t, .slice a len cap] w fun e w' => e = .returned (.tuple #[.slice none 0 0, .bool false]) ∧ Only (fun _ => False) w w' := by
  have H := Lib.hid h
  have HNO := Lib.hid hno
  have hm := h.2.1
  unfold maxLen at hm
  clear h hno
  go_enter Try.func26, Try.ntmps26
  go_wp2_with fail
  refine (rsum_any _ _ _ l _ H.out).mono ?_
  rintro e1 w1 ⟨rfl, hO1⟩
  have HO := Lib.hid hO1
  have H1 := Lib.hid (H.out.only hO1 (fun _ _ f => f))
  clear hO1
  obtain ⟨q, hq⟩ : ∃ q, isInt l.sum = q := ⟨_, rfl⟩
  have HQ := Lib.hid hq
  rw [hq]
  clear hq
  go_wp2_with fail
  go_loop [7, 8] (fun b i => ∃ k : Nat, k ≤ len ∧ i = .int .i64 k ∧ b = .bool (okk q l k)) (fun _ i => len - (intOf i).toNat)
  case atStart => exact ⟨0, by omega, rfl, by unfold okk negs; simp⟩
  case round =>
    obtain ⟨k, hk, rfl, rfl⟩ := hrel
    by_cases h8 : k < len
    · obtain ⟨b, off, rfl, hcell⟩ := H1.out.2.2.2.resolve_left (by omega)
      have hcl := hcell k h8
      have HS := Lib.hid (okk_step (q := q) (l := l) (k := k) (by rw [H.out.1]; exact h8))
      clear hcell
      generalize l.getD k 0 = x at *
      generalize okk q l k = y at *
      cases y
      · have HZ : Hid (okk q l (k + 1) = false) := Lib.hid (by rw [HS.out]; rfl)
        clear HS
        go_wp2_with fail
        go_round
        case rel => exact ⟨k + 1, by omega, by go_num, by rw [HZ.out]⟩
        case measure => simp [intOf]; omega
      · by_cases hx : 0 ≤ x
        · have hd : decide (0 ≤ x) = true := decide_eq_true hx
          have HZ : Hid (okk q l (k + 1) = true) := Lib.hid (by rw [HS.out, hd]; rfl)
          clear HS
          go_wp2_with fail
          go_round
          case rel => exact ⟨k + 1, by omega, by go_num, by rw [HZ.out]⟩
          case measure => simp [intOf]; omega
        · have hd : decide (0 ≤ x) = false := decide_eq_false hx
          have HZ : Hid (okk q l (k + 1) = false) := Lib.hid (by rw [HS.out, hd]; rfl)
          clear HS
          go_wp2_with fail
          go_round
          case rel => exact ⟨k + 1, by omega, by go_num, by rw [HZ.out]⟩
          case measure => simp [intOf]; omega
    · obtain rfl : k = len := by omega
      have HK : Hid (okk q l k = (q && !negs l)) := Lib.hid (by unfold okk; rw [List.take_of_length_le (by rw [H.out.1]; omega)])
      rw [HK.out]
      generalize hn : negs l = nn
      have HN := Lib.hid hn
      clear hn
      generalize hs : l.sum = S at *
      have HSS := Lib.hid hs
      clear hs
      cases q
      · generalize intOr S = x at *
        go_wp2_with fail
        go_ret2
        exact ⟨rfl, HO.out⟩
      · cases nn
        · rw [show intOr S = S by unfold intOr; rw [HQ.out]; rfl]
          by_cases ht : t < 0
          · go_wp2_with fail
            go_ret2
            exact ⟨rfl, HO.out⟩
          · have h0 : S = 0 := by
              have h1 := HNO.out
              unfold shr at h1
              rw [HSS.out, HQ.out, HN.out, decide_eq_false ht] at h1
              simpa using h1
            have d2 : decide (t < 0) = false := decide_eq_false ht
            rw [h0]
            clear ht h0
            go_wp2_with fail
            go_ret2
            exact ⟨rfl, HO.out⟩
        · generalize intOr S = x at *
          go_wp2_with fail
          go_ret2
          exact ⟨rfl, HO.out⟩

set_option maxRecDepth 100000 in
set_option maxHeartbeats 2000000 in
theorem rshare_yes (t : Int) (ht : -9223372036854775808 ≤ t ∧ t ≤ 9223372036854775807) (a : Option Addr) (len cap : Nat) (l : List Int) (wf : Nat → Int) (S : Int) (w : World) (h : ReadsI w a len l) (h30 : len ≤ 30) (hyes : shr t l = true) (hwf : (fun i => l.getD i 0) = wf) (hS : l.sum = S) :
    Calls Try.prog 26 #[.int .i64 t, .slice a len cap] w (SharesAt t S wf len w) := by
  have hWT := weights_of ht hyes
  rw [h.1, hwf, hS] at hWT
  have HWT := Lib.hid hWT
  obtain ⟨hi, hs, hd, hn⟩ := shr_parts hyes
  have H := Lib.hid h
  have HN := Lib.hid hn
  have HT := Lib.hid ht
  have HD := Lib.hid hd
  rw [hS] at hi hs
  have HSZ := Lib.hid hs
  have HIO : Hid (intOr S = S) := Lib.hid (by unfold intOr; rw [hi]; rfl)
  have HI := Lib.hid hi
  have HSE : Hid (-9223372036854775808 ≤ S ∧ S ≤ 9223372036854775807) := Lib.hid ((isInt_iff _).1 hi)
  have HR := Lib.hid H.out.2.2.1
  have HSS := Lib.hid hS
  have HWF : Hid (∀ k, l.getD k 0 = wf k) := Lib.hid (fun k => by rw [← hwf])
  clear h hn hyes hi ht hS hwf hWT hs hd
  go_enter Try.func26, Try.ntmps26
  go_wp2_with fail
  refine (rsum_any _ _ _ l _ H.out).mono ?_
  rintro e1 w1 ⟨rfl, hO1⟩
  have HO := Lib.hid hO1
  have H1 := Lib.hid (H.out.only hO1 (fun _ _ f => f))
  clear hO1
  rw [HSS.out, HI.out, HIO.out]
  go_wp2_with fail
  go_loop [7, 8] (fun b i => ∃ k : Nat, k ≤ len ∧ i = .int .i64 k ∧ b = .bool (okk true l k)) (fun _ i => len - (intOf i).toNat)
  case atStart => exact ⟨0, by omega, rfl, by unfold okk negs; simp⟩
  case round =>
    obtain ⟨k, hk, rfl, rfl⟩ := hrel
    by_cases h8 : k < len
    · obtain ⟨b, off, rfl, hcell⟩ := H1.out.2.2.2.resolve_left (by omega)
      have hcl := hcell k h8
      have HS := Lib.hid (okk_step (q := true) (l := l) (k := k) (by rw [H.out.1]; exact h8))
      clear hcell
      generalize l.getD k 0 = x at *
      generalize okk true l k = y at *
      cases y
      · have HZ : Hid (okk true l (k + 1) = false) := Lib.hid (by rw [HS.out]; rfl)
        clear HS
        go_wp2_with fail
        go_round
        case rel => exact ⟨k + 1, by omega, by go_num, by rw [HZ.out]⟩
        case measure => simp [intOf]; omega
      · by_cases hx : 0 ≤ x
        · have hd : decide (0 ≤ x) = true := decide_eq_true hx
          have HZ : Hid (okk true l (k + 1) = true) := Lib.hid (by rw [HS.out, hd]; rfl)
          clear HS
          go_wp2_with fail
          go_round
          case rel => exact ⟨k + 1, by omega, by go_num, by rw [HZ.out]⟩
          case measure => simp [intOf]; omega
        · have hd : decide (0 ≤ x) = false := decide_eq_false hx
          have HZ : Hid (okk true l (k + 1) = false) := Lib.hid (by rw [HS.out, hd]; rfl)
          clear HS
          go_wp2_with fail
          go_round
          case rel => exact ⟨k + 1, by omega, by go_num, by rw [HZ.out]⟩
          case measure => simp [intOf]; omega
    · obtain rfl : k = len := by omega
      have HK : Hid (okk true l k = true) := Lib.hid (by unfold okk; rw [List.take_of_length_le (by rw [H.out.1]; omega), HN.out]; rfl)
      rw [HK.out]
      have hd := HD.out
      have hs := HSZ.out
      go_wp2_with fail
      clear hd hs
      obtain ⟨i0, hi, hz0, hz1, hz2⟩ := info_parts info_i64
      go_loopw [9, 10, 11] (fun ov lf i wr => ∃ (j : Nat) (v : Value), j ≤ k ∧ i = .int .i64 j ∧ v = ov ∧ lf = .int .i64 (t - bigw.psm t S wf j) ∧ Hid (wr.ownsRow w.heap.size 3 1 v j (iv ((List.range j).map (bse t S wf)))) ∧ Hid (Only (fun _ => False) w wr)) (fun _ _ i _ => k - (intOf i).toNat)
      case atStart => exact ⟨0, _, by omega, rfl, rfl, by show Value.int .i64 t = .int .i64 (t - 0); rw [Int.sub_zero], Lib.hid (World.ownsRow_nil _ _ _ _), HO⟩
      case round =>
        clear HO H1
        obtain ⟨j, v, hj, rfl, rfl, rfl, HOW, HO⟩ := hrel
        by_cases h9 : j < k
        · obtain ⟨b, off, rfl, hcell⟩ := H.out.2.2.2.resolve_left (by omega)
          have hcl := HO.out.cell' (hcell j h9) (fun f => f)
          have HX := Lib.hid (in_getD l HR.out j)
          rw [HWF.out j] at hcl HX
          have HB := Lib.hid (HWT.out.base h9)
          have HP := Lib.hid (HWT.out.psm j hj)
          have HP1 := Lib.hid (HWT.out.psm (j + 1) h9)
          have ew : wrap64 (t - bigw.psm t S wf j - bse t S wf j) = t - bigw.psm t S wf (j + 1) := sub_fits HT.out HP.out.1 HP1.out.1 (psm_le HWT.out h9)
          clear hcell
          go_wp2_with fail
          refine (rpart_any t (wf j) S HT.out HX.out HSE.out _).mono ?_
          rintro e3 w3 ⟨rfl, hO3⟩
          rw [show pq t (wf j) S = bse t S wf j from rfl, HB.out.2.2.2.1]
          have HO3 := Lib.hid (HO.out.trans hO3)
          have HW3 := Lib.hid (owns_only hO3 HOW.out (fun _ _ f => f))
          clear hO3 hcl HO HOW
          go_wp2_with (first | (at_builtin; refine wpList_append_own _ rfl _ _ 34 rfl w.heap.size 3 i0 (.int .i64 0) 1 8 Try.underlying34 hi hz0 hz1 hz2 rfl (by decide) _ _ _ rfl (HW3.out.alloc _) ⟨w3.heap.size, 0, none⟩ _ _ [.int .i64 (bse t S wf j)] rfl ?c1 ?c2 ?c3 ?c4 ?c5 ?c6 ?_))
          case c1 => rfl
          case c2 =>
            intro i u hu
            have hi0 : i = 0 := by
              rcases Nat.eq_zero_or_pos i with g | g
              · exact g
              · rw [List.getElem?_eq_none (by simp; omega)] at hu; cases hu
            subst hi0
            obtain rfl : Value.int .i64 (bse t S wf j) = u := by simpa using hu
            rw [add_none, Go.Joins.cell_of_block (cs := #[.int .i64 (bse t S wf j)]) (t := 3) (fr := (0, 0)) (by rw [heap_alloc, if_pos rfl])]
            rfl
          case c3 => intro u hu; obtain rfl : u = Value.int .i64 (bse t S wf j) := by simpa using hu
                     rfl
          case c4 => unfold maxLen; omega
          case c5 => omega
          case c6 => rw [size_alloc]; have := HO3.out.size; omega
          intro v' w4 hown hgrow hne
          have HW4 : Hid (w4.ownsRow w.heap.size 3 1 v' (j + 1) (iv ((List.range (j + 1)).map (bse t S wf)))) := Lib.hid (by
            rw [List.range_succ, List.map_append]
            have e : iv (List.map (bse t S wf) (List.range j) ++ List.map (bse t S wf) [j]) = iv (List.map (bse t S wf) (List.range j)) ++ [.int .i64 (bse t S wf j)] := by simp [iv]
            rw [e]; exact hown)
          have HO4 : Hid (Only (fun _ => False) w w4) := Lib.hid ((HO3.out.alloc _).then (Only.of_grown hgrow) (fun i hi e => by have := (World.ownsRow.lt HW3.out i e).1; omega))
          clear hown hgrow hne HO3 HW3
          go_wp2_with fail
          go_roundw
          case rel => exact ⟨j + 1, v', by omega, by go_num, rfl, by rw [ew], HW4, HO4⟩
          case measure => simp [intOf]; omega
        · obtain rfl : j = k := by omega
          have hj0 : 0 < j := by
            rcases Nat.eq_zero_or_pos j with g | g
            · exfalso
              subst g
              have h1 := HWT.out.sum
              have h2 := HWT.out.s0
              have h3 : wsm wf 0 = 0 := rfl
              omega
            · exact g
          obtain ⟨g, c, hv, hg, hgl, hc1, hc2⟩ := owns_form HOW.out hj0
          subst hv
          have HRW : Hid (RowI wr g j (bse t S wf)) := Lib.hid (fun i hi => ⟨by rw [HOW.out.cellAt i (by omega), iv_get _ i (by simp; omega)]; simp [List.getD, hi], HOW.out.frozenAt i⟩)
          clear HOW
          obtain ⟨L, hL⟩ : ∃ L, t - bigw.psm t S wf j = L := ⟨_, rfl⟩
          have HOV := HWT.out.over
          have HRB : Hid (RowI wr g j (mixf (fin t S wf L) (bse t S wf) 0)) := Lib.hid (HRW.out.congr (fun i hi => by unfold mixf; rw [if_neg (by omega)]))
          have HRM := Lib.hid (fun i (hi : i < j) => HWT.out.room hi)
          have HAL := HWT.out.all
          have HLE := Lib.hid hL
          rw [hL] at HOV HRM HAL ⊢
          have HOV := Lib.hid HOV
          have HAL := Lib.hid HAL
          have HO2 := HO
          have HG := Lib.hid hg
          clear hL HO HRW hg hgl hc1 hc2
          go_wp2_with fail
          go_loopw [10, 15] (fun lf i wr => ∃ m : Nat, m ≤ j ∧ i = .int .i64 m ∧ lf = .int .i64 (lft wf L m) ∧ Hid (RowI wr g j (mixf (fin t S wf L) (bse t S wf) m)) ∧ Hid (Only (fun _ => False) w wr)) (fun _ i _ => j - (intOf i).toNat)
          case atStart => exact ⟨0, by omega, rfl, rfl, HRB, HO2⟩
          case round =>
            clear HRB HO2
            obtain ⟨m, hm, rfl, rfl, HRW, HO⟩ := hrel
            have HLN := lft_nonneg (w := wf) HOV.out.1 m
            have HLL := lft_le (w := wf) HOV.out.1 m
            by_cases hp1 : 0 < lft wf L m
            · have h9 : m < j := by
                rcases Nat.lt_or_ge m j with g1 | g1
                · exact g1
                · obtain rfl : m = j := by omega
                  have := HAL.out.1; omega
              obtain ⟨b, off, rfl, hcell⟩ := H.out.2.2.2.resolve_left (by omega)
              have hcl := HO.out.cell' (hcell m h9) (fun f => f)
              rw [HWF.out m] at hcl
              clear hcell
              by_cases hp2 : 0 < wf m
              · have HST := Lib.hid (fin_step (t := t) (S := S) ⟨hp1, hp2⟩)
                have HRMj := HRM.out m h9 hp1
                have HBj := (HWT.out.base h9).2.1
                have HTT := HT.out.2
                have c0 := (HRW.out m h9).1
                have z0 := (HRW.out m h9).2
                rw [mix_old] at c0
                have HPM := (HWT.out.psm j (Nat.le_refl _)).1
                have HLL2 : lft wf L m ≤ t := by have := HLE.out; omega
                have HN1 : Hid (RowI (wr.setCell ⟨g, m, none⟩ (.int .i64 (bse t S wf m + 1))) g j (mixf (fin t S wf L) (bse t S wf) (m + 1))) := Lib.hid (by
                  have := HRW.out.set (f' := mixf (fin t S wf L) (bse t S wf) (m + 1)) m h9 (fun i _ hi => mix_next i hi)
                  rw [mix_at, HST.out.1] at this
                  exact this)
                have HO4 : Hid (Only (fun _ => False) w (wr.setCell ⟨g, m, none⟩ (.int .i64 (bse t S wf m + 1)))) := Lib.hid (HO.out.setCell (p := ⟨g, m, none⟩) (.inr HG.out) _)
                have HS2 : Hid (lft wf L (m + 1) = lft wf L m - 1) := Lib.hid HST.out.2
                clear HPM HLL
                go_wp2_with fail
                go_roundw
                case rel => exact ⟨m + 1, by omega, by go_num, by rw [HS2.out], HN1, HO4⟩
                case measure => simp [intOf]; omega
              · have HST := Lib.hid (fin_stay (t := t) (S := S) (L := L) (w := wf) (k := m) (fun g => hp2 g.2))
                have HN1 : Hid (RowI wr g j (mixf (fin t S wf L) (bse t S wf) (m + 1))) := Lib.hid (HRW.out.congr (fun i _ => by
                  by_cases e : i = m
                  · subst e; rw [mix_at, mix_old, HST.out.1]
                  · exact mix_next i e))
                go_wp2_with fail
                go_roundw
                case rel => exact ⟨m + 1, by omega, by go_num, by rw [HST.out.2], HN1, HO⟩
                case measure => simp [intOf]; omega
            · have HRF : Hid (RowI wr g j (fin t S wf L)) := Lib.hid (HRW.out.congr (fun i hi => by
                unfold mixf
                by_cases e : i < m
                · rw [if_pos e]
                · rw [if_neg e]; exact fin_rest (j := m) (by omega) (by omega)))
              clear HLN HLL
              go_wp2_with fail
              refine bodyPost_ret (v := .tuple #[.slice (some ⟨g, 0, none⟩) j c, .bool true]) (by simp [results, Try.results26, go_sem]) rfl ⟨g, c, rfl, ?_, HO.out, HG.out⟩
              rw [HLE.out]
              exact HRF.out
end Go.Proofs.Ytooffbgcaichmaa.bigw
