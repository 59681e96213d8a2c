/- The program's Share: what it answers. -/
import Derived.Test.YtooffbgcaichmaaShareM
import Derived.Deep.OwnRows
namespace Go.Proofs.Ytooffbgcaichmaa.bigw
open Go.RowKit mem bigm intm
set_option linter.unusedVariables false

theorem any_false {l : List Int} (h : ∀ c ∈ l, 0 ≤ c) : (l.any fun c => decide (c < 0)) = false := by
  rw [List.any_eq_false]; intro c hc; have := h c hc; simp; omega
theorem any_true {l : List Int} {k : Nat} (hk : k < l.length) (h : l.getD k 0 < 0) : (l.any fun c => decide (c < 0)) = true := by
  rw [List.any_eq_true]
  refine ⟨l[k], List.getElem_mem hk, ?_⟩
  have : l.getD k 0 = l[k] := by simp [List.getD, hk]
  rw [← this]; simpa using h
theorem nonneg_step {l : List Int} {k : Nat} (h : ∀ c ∈ l.take k, 0 ≤ c) (hk : k < l.length) (h1 : ¬ l.getD k 0 < 0) : ∀ c ∈ l.take (k + 1), 0 ≤ c := by
  intro c hc
  rw [List.take_succ_eq_append_getElem hk, List.mem_append] at hc
  rcases hc with hc | hc
  · exact h c hc
  · have e : l.getD k 0 = l[k] := by simp [List.getD, hk]
    have : c = l[k] := by simpa using hc
    rw [this, ← e]; omega

/-- is one of them below nought? -/
def negs (l : List Int) : Bool := l.any fun c => decide (c < 0)

set_option maxRecDepth 100000 in
theorem below_any (a : Option Addr) (len cap : Nat) (l : List Int) (w : World) (h : ReadsI w a len l) :
    Calls Try.prog 41 #[.slice a len cap] w fun e w' => e = .returned (.bool (negs l)) ∧ w = w' := by
  have hm := h.2.1
  unfold maxLen at hm
  have H := Lib.hid h
  clear h
  go_enter Try.func41, Try.ntmps41
  go_wp2_with fail
  go_loop [7] (fun i => ∃ k : Nat, k ≤ len ∧ i = .int .i64 k ∧ Hid (∀ c ∈ l.take k, 0 ≤ c)) (fun i => len - (intOf i).toNat)
  case atStart => exact ⟨0, by omega, rfl, Lib.hid (by simp)⟩
  case round =>
    obtain ⟨k, hk, rfl, HP⟩ := hrel
    by_cases h8 : k < len
    · obtain ⟨b, off, rfl, hcell⟩ := H.out.2.2.2.resolve_left (by omega)
      have hcl := hcell k h8
      clear hcell
      by_cases hn : l.getD k 0 < 0
      · have HR : Hid (negs l = true) := Lib.hid (any_true (by rw [H.out.1]; exact h8) hn)
        generalize l.getD k 0 = x at *
        go_wp2_with fail
        rw [HR.out]
        go_ret
        exact ⟨rfl, rfl⟩
      · have HN := Lib.hid (nonneg_step HP.out (by rw [H.out.1]; exact h8) hn)
        generalize l.getD k 0 = x at *
        go_wp2_with fail
        go_round
        case rel => exact ⟨k + 1, by omega, by go_num, HN⟩
        case measure => simp [intOf]; omega
    · obtain rfl : k = len := by omega
      have HR : Hid (negs l = false) := Lib.hid (any_false (by have := HP.out; rw [List.take_of_length_le (by rw [H.out.1]; omega)] at this; exact this))
      go_wp2_with fail
      rw [HR.out]
      go_ret
      exact ⟨rfl, rfl⟩

/-- are there shares? -/
def shr (t : Int) (l : List Int) : Bool := isInt l.sum && (!(l.sum == 0) && (!decide (t < 0) && !negs l))

/-- a block's ints -/
def RowI (w : World) (g n : Nat) (f : Nat → Int) : Prop := ∀ j, j < n → w.cell? ⟨g, j, none⟩ = some (.int .i64 (f j)) ∧ w.frozen? ⟨g, j, none⟩ = false

theorem RowI.lt {w : World} {g n : Nat} {f : Nat → Int} (h : RowI w g n f) (hn : 0 < n) : g < w.heap.size := World.block_lt_of_cell? w ⟨g, 0, none⟩ (h 0 hn).1
theorem RowI.only {S : Nat → Prop} {w w' : World} {g n : Nat} {f : Nat → Int} (h : RowI w g n f) (ho : Only S w w') (hs : ¬ S g) : RowI w' g n f := fun j hj =>
  ⟨ho.cell' (h j hj).1 hs, (ho.frozen (p := ⟨g, j, none⟩) (h.lt (by omega)) hs).trans (h j hj).2⟩
theorem RowI.set {w : World} {g n : Nat} {f f' : Nat → Int} (h : RowI w g n f) (k : Nat) (hk : k < n) (hf : ∀ j, j < n → j ≠ k → f' j = f j) : RowI (w.setCell ⟨g, k, none⟩ (.int .i64 (f' k))) g n f' := by
  intro j hj
  rw [frozen_set]
  by_cases e : j = k
  · subst e; exact ⟨cell_same (h j hj).1, (h j hj).2⟩
  · rw [cell_other (off_ne (by omega)), hf j hj e]; exact h j hj
theorem RowI.reads {w : World} {g n : Nat} {f : Nat → Int} (h : RowI w g n f) (hn : n ≤ maxLen) (hb : ∀ j, j < n → -9223372036854775808 ≤ f j ∧ f j ≤ 9223372036854775807) : ReadsI w (some ⟨g, 0, none⟩) n ((List.range n).map f) := by
  refine ⟨by simp, hn, ?_, .inr ⟨g, 0, rfl, fun i hi => ?_⟩⟩
  · intro c hc
    rw [List.mem_map] at hc
    obtain ⟨j, hj, rfl⟩ := hc
    exact hb j (List.mem_range.1 hj)
  · rw [Nat.zero_add, (h i hi).1]
    simp [List.getD, hi]

theorem made_row (w : World) (n : Nat) : RowI (w.alloc (.cells (madeCells #[.int .i64 0] n) 3)) w.heap.size n (fun _ => 0) := by
  intro j hj
  refine ⟨?_, by simp⟩
  rw [Go.Joins.cell_of_block (cs := madeCells #[.int .i64 0] n) (t := 3) (fr := (0, 0)) (by rw [heap_alloc, if_pos rfl])]
  simp [madeCells, hj, Nat.mod_one]

set_option maxRecDepth 100000 in
set_option maxHeartbeats 1000000 in
theorem ashare_no (t : Int) (a : Option Addr) (len cap : Nat) (l : List Int) (w : World) (h : ReadsI w a len l) (hno : shr t l = false) :
    Calls Try.prog 25 #[.int .i64 t, .slice a len cap] w fun e w' => e = .returned (.tuple #[.slice none 0 0, .bool false]) ∧ Only (fun _ => False) w w' := by
  have H := Lib.hid h
  have HNO := Lib.hid hno
  clear h hno
  go_enter Try.func25, Try.ntmps25
  go_wp2_with fail
  refine (asum_any _ _ _ l _ H.out).mono ?_
  rintro e1 w1 ⟨rfl, rfl⟩
  cases hi : isInt l.sum with
  | false =>
    rw [show intOr l.sum = 0 by unfold intOr; rw [hi]; rfl]
    clear hi
    go_wp2_with fail
    go_ret2
    exact ⟨rfl, Only.refl _ _⟩
  | true =>
    rw [show intOr l.sum = l.sum by unfold intOr; rw [hi]; rfl]
    have HI := Lib.hid hi
    clear hi
    by_cases hs : l.sum = 0
    · rw [hs]
      clear hs
      go_wp2_with fail
      go_ret2
      exact ⟨rfl, Only.refl _ _⟩
    · have d1 : (l.sum == 0) = false := by rw [beq_eq_false_iff_ne]; exact hs
      have HS := Lib.hid d1
      by_cases ht : t < 0
      · generalize l.sum = S at *
        clear hs
        go_wp2_with fail
        go_ret2
        exact ⟨rfl, Only.refl _ _⟩
      · have d2 : decide (t < 0) = false := by rw [decide_eq_false_iff_not]; exact ht
        have hn : negs l = true := by
          have := HNO.out
          unfold shr at this
          rw [HI.out, HS.out, d2] at this
          simpa using this
        have HNN := Lib.hid hn
        generalize l.sum = S at *
        clear hs ht hn
        go_wp2_with fail
        refine (below_any _ _ _ l _ H.out).mono ?_
        rintro e2 w2 ⟨rfl, rfl⟩
        rw [HNN.out]
        go_wp2_with fail
        go_ret2
        exact ⟨rfl, Only.refl _ _⟩

theorem getD_nonneg {l : List Int} (h : negs l = false) (k : Nat) : 0 ≤ l.getD k 0 := by
  by_cases hk : k < l.length
  · have e : l.getD k 0 = l[k] := by simp [List.getD, hk]
    unfold negs at h
    rw [List.any_eq_false] at h
    have := h _ (List.getElem_mem hk)
    rw [e]; simp at this; exact this
  · have : l.getD k 0 = 0 := by simp [List.getD, List.getElem?_eq_none (by omega : l.length ≤ k)]
    omega

theorem shr_parts {t : Int} {l : List Int} (h : shr t l = true) : isInt l.sum = true ∧ (l.sum == 0) = false ∧ decide (t < 0) = false ∧ negs l = false := by
  unfold shr at h
  simpa using h

theorem weights_of {t : Int} {l : List Int} (ht : -9223372036854775808 ≤ t ∧ t ≤ 9223372036854775807) (h : shr t l = true) : Weights t l.sum (fun i => l.getD i 0) l.length := by
  obtain ⟨h1, h2, h3, h4⟩ := shr_parts h
  have hp := getD_nonneg h4
  have hs := wsm_all l
  have hn := wsm_nonneg hp l.length
  rw [isInt_iff] at h1
  rw [beq_eq_false_iff_ne] at h2
  rw [decide_eq_false_iff_not] at h3
  exact ⟨hp, by omega, ht.2, by omega, h1.2, hs⟩

/-- the state of the parts on the way -/
def mixf (f g : Nat → Int) (k j : Nat) : Int := if j < k then f j else g j

/-- the shares, in a block of the call's own -/
def SharesAt (t S : Int) (wf : Nat → Int) (len : Nat) (w : World) (e : Ending) (w' : World) : Prop :=
  ∃ g cap, e = .returned (.tuple #[.slice (some ⟨g, 0, none⟩) len cap, .bool true]) ∧ RowI w' g len (fin t S wf (t - bigw.psm t S wf len)) ∧ Only (fun _ => False) w w' ∧ w.heap.size ≤ g

theorem mix_next {f g : Nat → Int} {k : Nat} : ∀ j, j ≠ k → mixf f g (k + 1) j = mixf f g k j := by
  intro j hj
  unfold mixf
  by_cases h : j < k
  · rw [if_pos h, if_pos (by omega)]
  · rw [if_neg h, if_neg (by omega)]
theorem mix_at (f g : Nat → Int) (k : Nat) : mixf f g (k + 1) k = f k := by unfold mixf; rw [if_pos (by omega)]
theorem mix_old (f g : Nat → Int) (k : Nat) : mixf f g k k = g k := by unfold mixf; rw [if_neg (by omega)]
theorem RowI.congr {w : World} {g n : Nat} {f f' : Nat → Int} (h : RowI w g n f) (hf : ∀ j, j < n → f' j = f j) : RowI w g n f' := fun j hj => by rw [hf j hj]; exact h j hj

theorem sub_fits {t a b c : Int} (ht : -9223372036854775808 ≤ t ∧ t ≤ 9223372036854775807) (ha : 0 ≤ a) (hc : 0 ≤ c) (h : c = a + b ∧ c ≤ t) : wrap64 (t - a - b) = t - c := by
  rw [wrap64_eq]; omega
theorem psm_le {t S : Int} {w : Nat → Int} {n k : Nat} (h : Weights t S w n) (hk : k < n) : bigw.psm t S w (k + 1) = bigw.psm t S w k + bse t S w k ∧ bigw.psm t S w (k + 1) ≤ t := by
  refine ⟨rfl, ?_⟩
  have h1 := psm_mono h (show k + 1 ≤ n from hk) (Nat.le_refl _)
  have := h.over
  omega

set_option maxRecDepth 100000 in
set_option maxHeartbeats 2000000 in
theorem ashare_yes (t : Int) (ht : -9223372036854775808 ≤ t ∧ t ≤ 9223372036854775807) (a : Option Addr) (len cap : Nat) (l : List Int) (wf : Nat → Int) (S : Int) (w : World) (h : ReadsI w a len l) (h30 : len ≤ 30) (hyes : shr t l = true) (hwf : (fun i => l.getD i 0) = wf) (hS : l.sum = S) :
    Calls Try.prog 25 #[.int .i64 t, .slice a len cap] w (SharesAt t S wf len w) := by
  have hWT := weights_of ht hyes
  rw [h.1, hwf, hS] at hWT
  have HWT := Lib.hid hWT
  obtain ⟨hi, hs, hd, hn⟩ := shr_parts hyes
  have H := Lib.hid h
  have HN := Lib.hid hn
  have HT := Lib.hid ht
  have hmk := run_make_row' (P := Try.prog) 34 3 (.int .i64 0) 8 Try.underlying34 info_i64 rfl .i64 .i64 len (by omega) (by omega)
  rw [hS] at hi hs
  have HIO : Hid (intOr S = S) := Lib.hid (by unfold intOr; rw [hi]; rfl)
  have HI := Lib.hid hi
  have HSE : Hid (-9223372036854775808 ≤ S ∧ S ≤ 9223372036854775807) := Lib.hid ((isInt_iff _).1 hi)
  have HR := Lib.hid H.out.2.2.1
  have HSS := Lib.hid hS
  have HWF : Hid (∀ k, l.getD k 0 = wf k) := Lib.hid (fun k => by rw [← hwf])
  clear h hn hyes hi ht hS hwf hWT
  go_enter Try.func25, Try.ntmps25
  go_wp2_with fail
  refine (asum_any _ _ _ l _ H.out).mono ?_
  rintro e1 w1 ⟨rfl, rfl⟩
  rw [HSS.out, HIO.out, HI.out]
  go_wp2_with fail
  refine (below_any _ _ _ l _ H.out).mono ?_
  rintro e2 w2 ⟨rfl, rfl⟩
  rw [HN.out]
  have HM := Lib.hid (made_row w len)
  go_wp2_with fail
  clear hmk hs hd
  go_loopw [9, 39] (fun lf i wr => ∃ k : Nat, k ≤ len ∧ i = .int .i64 k ∧ lf = .int .i64 (t - bigw.psm t S wf k) ∧ Hid (RowI wr w.heap.size len (mixf (bse t S wf) (fun _ => 0) k)) ∧ Hid (Only (fun _ => False) w wr)) (fun _ i _ => len - (intOf i).toNat)
  case atStart => exact ⟨0, by omega, rfl, by show Value.int .i64 t = .int .i64 (t - 0); rw [Int.sub_zero], Lib.hid (HM.out.congr (fun j _ => by unfold mixf; rw [if_neg (by omega)])), Lib.hid ((Only.refl _ w).alloc _)⟩
  case round =>
    obtain ⟨k, hk, rfl, rfl, HRW, HO⟩ := hrel
    by_cases h8 : k < len
    · obtain ⟨b, off, rfl, hcell⟩ := H.out.2.2.2.resolve_left (by omega)
      have hcl := HO.out.cell' (hcell k h8) (fun f => f)
      have HX := Lib.hid (in_getD l HR.out k)
      rw [HWF.out k] at hcl HX
      have HB := Lib.hid (HWT.out.base h8)
      have HP := Lib.hid (HWT.out.psm k hk)
      have HP1 := Lib.hid (HWT.out.psm (k + 1) h8)
      clear hcell
      go_wp2_with fail
      refine (apart_any t (wf k) S HT.out HX.out HSE.out _).mono ?_
      rintro e3 w3 ⟨rfl, hO3⟩
      rw [show pq t (wf k) S = bse t S wf k from rfl, HB.out.2.2.2.1]
      have HO3 := Lib.hid hO3
      have HR3 := Lib.hid (HRW.out.only hO3 (fun f => f))
      have c0 := (HR3.out k h8).1
      have z0 := (HR3.out k h8).2
      have ew : wrap64 (t - bigw.psm t S wf k - bse t S wf k) = t - bigw.psm t S wf (k + 1) := sub_fits HT.out HP.out.1 HP1.out.1 (psm_le HWT.out h8)
      have HN1 : Hid (RowI (w3.setCell ⟨w.heap.size, k, none⟩ (.int .i64 (bse t S wf k))) w.heap.size len (mixf (bse t S wf) (fun _ => 0) (k + 1))) := Lib.hid (by
        have := HR3.out.set (f' := mixf (bse t S wf) (fun _ => 0) (k + 1)) k h8 (fun j _ hj => mix_next j hj)
        rw [mix_at] at this
        exact this)
      have HO4 : Hid (Only (fun _ => False) w (w3.setCell ⟨w.heap.size, k, none⟩ (.int .i64 (bse t S wf k)))) := Lib.hid ((HO.out.trans hO3).setCell (p := ⟨w.heap.size, k, none⟩) (.inr (Nat.le_refl _)) _)
      clear hO3 hcl
      go_wp2_with fail
      go_roundw
      case rel => exact ⟨k + 1, by omega, by go_num, by rw [ew], HN1, HO4⟩
      case measure => simp [intOf]; omega
    · obtain rfl : k = len := by omega
      obtain ⟨L, hL⟩ : ∃ L, t - bigw.psm t S wf k = L := ⟨_, rfl⟩
      have HOV := HWT.out.over
      have HRB : Hid (RowI wr w.heap.size k (mixf (fin t S wf L) (bse t S wf) 0)) := Lib.hid (HRW.out.congr (fun j hj => by unfold mixf; rw [if_neg (by omega), if_pos hj]))
      have HFI := Lib.hid (fun j (hj : j < k) => HWT.out.fin_in hj)
      have HRM := Lib.hid (fun j (hj : j < k) => HWT.out.room hj)
      have HAL := HWT.out.all
      have HLE := Lib.hid hL
      rw [hL] at HOV HFI HRM HAL ⊢
      have HOV := Lib.hid HOV
      have HAL := Lib.hid HAL
      have HO2 := HO
      clear hL HO HRW
      go_wp2_with fail
      go_loopw [9, 64] (fun lf i wr => ∃ j : Nat, j ≤ k ∧ i = .int .i64 j ∧ lf = .int .i64 (lft wf L j) ∧ Hid (RowI wr w.heap.size k (mixf (fin t S wf L) (bse t S wf) j)) ∧ Hid (Only (fun _ => False) w wr)) (fun _ i _ => k - (intOf i).toNat)
      case atStart => exact ⟨0, by omega, rfl, rfl, HRB, HO2⟩
      case round =>
        clear HRB HO2
        obtain ⟨j, hj, rfl, rfl, HRW, HO⟩ := hrel
        have HLN := lft_nonneg (w := wf) HOV.out.1 j
        have HLL := lft_le (w := wf) HOV.out.1 j
        by_cases h9 : j < k
        · obtain ⟨b, off, rfl, hcell⟩ := H.out.2.2.2.resolve_left (by omega)
          have hcl := HO.out.cell' (hcell j h9) (fun f => f)
          rw [HWF.out j] at hcl
          clear hcell
          by_cases hp : 0 < lft wf L j ∧ 0 < wf j
          · have HST := Lib.hid (fin_step (t := t) (S := S) hp)
            obtain ⟨hp1, hp2⟩ := hp
            have HRMj := HRM.out j h9 hp1
            have HBj := (HWT.out.base h9).2.1
            have HTT := HT.out.2
            have c0 := (HRW.out j h9).1
            have z0 := (HRW.out j h9).2
            rw [mix_old] at c0
            have HPM := (HWT.out.psm k (Nat.le_refl _)).1
            have HLL2 : lft wf L j ≤ t := by have := HLE.out; omega
            have HN1 : Hid (RowI (wr.setCell ⟨w.heap.size, j, none⟩ (.int .i64 (bse t S wf j + 1))) w.heap.size k (mixf (fin t S wf L) (bse t S wf) (j + 1))) := Lib.hid (by
              have := HRW.out.set (f' := mixf (fin t S wf L) (bse t S wf) (j + 1)) j h9 (fun i _ hi => mix_next i hi)
              rw [mix_at, HST.out.1] at this
              exact this)
            have HO4 : Hid (Only (fun _ => False) w (wr.setCell ⟨w.heap.size, j, none⟩ (.int .i64 (bse t S wf j + 1)))) := Lib.hid (HO.out.setCell (p := ⟨w.heap.size, j, none⟩) (.inr (Nat.le_refl _)) _)
            have HS2 : Hid (lft wf L (j + 1) = lft wf L j - 1) := Lib.hid HST.out.2
            clear HPM HLL
            go_wp2_with fail
            go_roundw
            case rel => exact ⟨j + 1, by omega, by go_num, by rw [HS2.out], HN1, HO4⟩
            case measure => simp [intOf]; omega
          · have HST := Lib.hid (fin_stay (t := t) (S := S) hp)
            have HN1 : Hid (RowI wr w.heap.size k (mixf (fin t S wf L) (bse t S wf) (j + 1))) := Lib.hid (HRW.out.congr (fun i _ => by
              by_cases e : i = j
              · subst e; rw [mix_at, mix_old, HST.out.1]
              · exact mix_next i e))
            by_cases hp1 : 0 < lft wf L j
            · have hp2 : ¬ 0 < wf j := fun g => hp ⟨hp1, g⟩
              clear hp
              go_wp2_with fail
              go_roundw
              case rel => exact ⟨j + 1, by omega, by go_num, by rw [HST.out.2], HN1, HO⟩
              case measure => simp [intOf]; omega
            · clear hp
              go_wp2_with fail
              go_roundw
              case rel => exact ⟨j + 1, by omega, by go_num, by rw [HST.out.2], HN1, HO⟩
              case measure => simp [intOf]; omega
        · obtain rfl : j = k := by omega
          have HRF : Hid (RowI wr w.heap.size j (fin t S wf L)) := Lib.hid (HRW.out.congr (fun i hi => by unfold mixf; rw [if_pos hi]))
          clear HLN HLL
          go_wp2_with fail
          refine bodyPost_ret (v := .tuple #[.slice (some ⟨w.heap.size, 0, none⟩) j j, .bool true]) (by simp [results, Try.results25, go_sem]) rfl ⟨w.heap.size, j, rfl, ?_, HO.out, Nat.le_refl _⟩
          rw [HLE.out]
          exact HRF.out
end Go.Proofs.Ytooffbgcaichmaa.bigw
