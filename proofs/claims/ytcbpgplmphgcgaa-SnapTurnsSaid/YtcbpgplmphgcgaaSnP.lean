/- SnapTurns' walk. -/
import Derived.Test.YtcbpgplmphgcgaaSnN
import Derived.ChangeKeysEq
import Derived.BigQuiet
namespace Go.Proofs.Ytcbpgplmphgcgaa.snw
open Go.RowKit mem snm crcm dskw
set_option linter.unusedVariables false

/-- behind Save, ahead of the string's store -/
structure TMid (w w5 : World) (p bl bm g5 k : Nat) (v : Value) (im : List Nat) : Prop where
  far : w.heap.size ≤ p ∧ w.heap.size ≤ bl ∧ w.heap.size ≤ bm ∧ w.heap.size ≤ g5
  ne : ¬ Dbl p bl bm g5
  only : Only (fun _ => False) w w5
  own : OwnB w5 v im
  im5 : im.length ≤ 500
  has : ∃ F l0 l1, DskAt w5 p bl bm 20 (saveF F (2 + (k + 1) % 2 * 9) (k + 1) im) (fun _ => none) 0 false ∧ TurnF F k l0 l1 ∧ w5.cell? ⟨g5, 0, none⟩ = some (.string (strN l0)) ∧ w5.cell? ⟨g5, 1, none⟩ = some (.string (strN l1)) ∧ ∀ j, w5.frozen? ⟨g5, j, none⟩ = false
theorem save_turn {w wr w4 : World} {p bl bm g5 k : Nat} {v : Value} {im : List Nat} (h : TInv w wr p bl bm g5 k) (ho : Only (fun _ => False) wr w4) (hv : OwnB w4 v im) (hk : ∀ q, v.ownBlock = some q → wr.heap.size ≤ q) (hi : im.length ≤ 500) (h8 : k < 8) :
    Calls Try.prog 36 #[.pointer (some ⟨p, 0, none⟩), .int .i64 2, .int .i64 9, .int .i64 ((k : Int) + 1), v] w4 fun e w' => e = .returned (.int .i64 0) ∧ TMid w w' p bl bm g5 k v im := by
  obtain ⟨F, l0, l1, hd, ht, s0, s1, sf⟩ := h.has
  have hd4 := hd.only ho (fun f => f) (fun f => f) (fun f => f)
  have hl := hd.lt
  have hg5 : g5 < wr.heap.size := World.block_lt_of_cell? wr _ s0
  have hnd : ∀ q, v.ownBlock = some q → ¬ Dbl p bl bm q := fun q e => by
    have := hk q e
    rintro (e | e | e) <;> omega
  have fin : ∀ e w', Saved p bl bm 20 F 0 (2 + (k + 1) % 2 * 9) (k + 1) im w4 e w' → e = .returned (.int .i64 0) ∧ TMid w w' p bl bm g5 k v im := by
    intro e w' hs
    obtain ⟨rfl, hda⟩ := hs.zero
    refine ⟨rfl, h.far, h.ne, (h.only.trans ho).then hda.2 (fun q hq e => by
      have := h.far
      rcases e with e | e | e <;> omega), hv.only hda.2 hnd, hi, F, l0, l1, hda.1, ht, hda.2.cell' (ho.cell' s0 (fun f => f)) h.ne, hda.2.cell' (ho.cell' s1 (fun f => f)) h.ne, fun j => ?_⟩
    have hg4 : g5 < w4.heap.size := Nat.lt_of_lt_of_le hg5 ho.size
    exact (hda.2.frozen (p := ⟨g5, j, none⟩) hg4 h.ne).trans ((ho.frozen (p := ⟨g5, j, none⟩) hg5 (fun f => f)).trans (sf j))
  have key : ∀ a len cap, v = .slice a len cap → Reads w4 a len im → (∀ x, a = some x → ¬ Dbl p bl bm x.block) → Calls Try.prog 36 #[.pointer (some ⟨p, 0, none⟩), .int .i64 2, .int .i64 9, .int .i64 ((k : Int) + 1), v] w4 fun e w' => e = .returned (.int .i64 0) ∧ TMid w w' p bl bm g5 k v im := by
    intro a len cap e hr ha
    have hlen := hr.1
    have hs := save_any p bl bm 20 F 0 2 9 (k + 1) a len cap im w4 hd4 hr ha (by omega) (by omega) (by omega) (by omega) (by omega)
    rw [e]
    rw [e] at fin
    simp only [Int.cast_ofNat_Int] at hs
    have e1 : (((k + 1 : Nat)) : Int) = (k : Int) + 1 := by omega
    rw [e1] at hs
    exact hs.mono fin
  rcases hv.forms with ⟨rfl, rfl⟩ | ⟨g, cap, rfl, _⟩
  · exact key none 0 0 rfl ⟨rfl, by unfold maxLen; omega, by simp, .inl rfl⟩ (fun x e => by cases e)
  · exact key _ _ _ rfl (hv.reads rfl) (fun x e => by cases e; exact hnd g rfl)
theorem TMid.store {w w5 : World} {p bl bm g5 k j : Nat} {v : Value} {im : List Nat} (h : TMid w w5 p bl bm g5 k v im) (h8 : k < 8) (hj : (k + 1) % 2 = j) : TInv w (w5.setCell ⟨g5, j, none⟩ (.string (strN im))) p bl bm g5 (k + 1) := by
  obtain ⟨F, l0, l1, hd, ht, s0, s1, sf⟩ := h.has
  have hoS : Only (fun q => q = g5) w5 (w5.setCell ⟨g5, j, none⟩ (.string (strN im))) := Only.set (fun q => q = g5) w5 g5 j _ rfl
  have hl := hd.lt
  have hne := h.ne
  have hd' := hd.only hoS (fun e => h.ne (.inl e.symm)) (fun e => h.ne (.inr (.inl e.symm))) (fun e => h.ne (.inr (.inr e.symm)))
  have hfar := h.far
  refine ⟨h.far, h.ne, h.only.then hoS (fun q hq e => by have e : q = g5 := e; omega), ?_⟩
  rcases (by omega : j = 0 ∨ j = 1) with rfl | rfl
  · exact ⟨_, im, l1, hd', ht.step0 im h.im5 (by omega) hj, cell_same s0, by rw [cell_other (fun e => by injection e with _ e _; omega)]; exact s1, fun i => by rw [frozen_set]; exact sf i⟩
  · exact ⟨_, l0, im, hd', ht.step1 im h.im5 (by omega) hj, by rw [cell_other (fun e => by injection e with _ e _; omega)]; exact s0, cell_same s1, fun i => by rw [frozen_set]; exact sf i⟩
theorem two_eq (w : World) (a b : Int) : (Op.equalIn 10000 70 (.agg #[.int .i64 a, .int .i64 b]) (.agg #[.int .i64 a, .int .i64 b])).run Try.prog w = .ok true w := by
  obtain ⟨i0, hi, _⟩ : ∃ i, Try.prog.info? 3 = some i ∧ True := by
    have h : (Try.prog.info? 3).isSome = true := by kernel_rfl
    exact ⟨_, (Option.some_get h).symm, trivial⟩
  have hc : Try.prog.cellsOf 3 = 1 := by kernel_rfl
  have h1 := run_equalIn_array (P := Try.prog) w 9999 (t := 70) (e := 3) (n := 2) #[.int .i64 a, .int .i64 b] #[.int .i64 a, .int .i64 b] Try.underlying70 hi
  have hpk : Try.prog.plainKey 3 = true := by kernel_rfl
  have q : ∀ (z : Int) (off : Nat), (#[.int .i64 a, .int .i64 b] : Array Value)[off]? = some (.int .i64 z) → _ := fun z off h => run_part_plain (P := Try.prog) (w := w) hpk (xs := #[.int .i64 a, .int .i64 b]) (off := off) (v := .int .i64 z) h
  have p0 := q a (0 * 1) rfl
  have p1 := q b (1 * 1) rfl
  have e0 := run_equalIn_int (P := Try.prog) w 9998 3 .i64 .i64 a a Try.underlying3
  have e1 := run_equalIn_int (P := Try.prog) w 9998 3 .i64 .i64 b b Try.underlying3
  rw [h1, hc]
  have hr : List.range 2 = [0, 1] := rfl
  rw [hr]
  simp only [Op.eqItems, Sem.run_bind, p0, p1, e0, e1, Result.andThen_ok, beq_self_eq_true, Bool.not_true, Bool.false_eq_true, if_false, Sem.run_pure]
theorem turns_gens {w : World} {p bl bm k A0 A1 : Nat} {F : Nat → List Nat} {l0 l1 : List Nat} {d0 d1 : Bool} (h : DskAt w p bl bm 20 F (fun _ => none) 0 false) (ht : TurnF F k l0 l1) (e0 : gk 0 k = A0) (e1 : gk 1 k = A1) (f0 : decide (0 < A0) = d0) (f1 : decide (0 < A1) = d1) :
    Calls Try.prog 38 #[.pointer (some ⟨p, 0, none⟩), .int .i64 2, .int .i64 9] w fun e w' => e = .returned (.tuple #[.agg #[.int .i64 (A0 : Int), .int .i64 (A1 : Int)], .agg #[.bool d0, .bool d1], .int .i64 0]) ∧ Only (fun _ => False) w w' := by
  have H := gens_yes p bl bm 20 F _ _ 2 9 w h (by omega) (by omega)
  rw [ht.slots.1, ht.slots.2, e0, e1] at H
  simp only [f0, f1] at H
  exact H
theorem turns_load {w : World} {p bl bm k : Nat} {F : Nat → List Nat} {l0 l1 ln : List Nat} (h : DskAt w p bl bm 20 F (fun _ => none) 0 false) (ht : TurnF F k l0 l1) (hk : 1 ≤ k) (en : ln = if k % 2 = 0 then l0 else l1) :
    Calls Try.prog 37 #[.pointer (some ⟨p, 0, none⟩), .int .i64 2, .int .i64 9] w fun e w' => Only (fun _ => False) w w' ∧ ∃ va vc, e = .returned (.tuple #[.int .i64 (k : Int), .slice va ln.length vc, .int .i64 0]) ∧ ∀ nq, (convert 47 9 (.slice va ln.length vc)).run Try.prog (w'.drewN nq) = .ok (.string (strN ln)) (w'.drewN nq) := by
  have H := load_yes p bl bm 20 F _ _ 2 9 w h (by omega) (by omega)
  have e : newer (gk 0 k, l0) (gk 1 k, l1) = (k, ln) := by
    by_cases h2 : k % 2 = 0
    · have g0 : gk 0 k = k := if_pos h2
      have g1 : gk 1 k = k - 1 := if_neg (by omega)
      rw [if_pos h2] at en
      show (if gk 0 k < gk 1 k then (gk 1 k, l1) else (gk 0 k, l0)) = (k, ln)
      rw [g0, g1, if_neg (by omega), en]
    · have g0 : gk 0 k = k - 1 := if_neg h2
      have g1 : gk 1 k = k := if_pos (by omega)
      rw [if_neg h2] at en
      show (if gk 0 k < gk 1 k then (gk 1 k, l1) else (gk 0 k, l0)) = (k, ln)
      rw [g0, g1, if_pos (by omega), en]
  rw [ht.slots.1, ht.slots.2, e] at H
  refine Calls.mono H ?_
  rintro _ w' ⟨ho, ⟨h0, -⟩ | ⟨-, va, vc, rfl, how, -⟩⟩
  · have h0 : k = 0 := h0
    omega
  · exact ⟨ho, va, vc, rfl, fun nq => conv_own (how.only (drewN_sn (Only.refl (fun _ => False) _) nq) (fun _ _ f => f))⟩
theorem turns_boxes {w6 wa wd : World} {g9 : Nat} {t u : TypeId} {x0 x1 y0 y1 : Value} (hwa : wa = w6.alloc (.cells #[x0, x1] t)) (hg9 : g9 = w6.heap.size) (hwd : wd = wa.alloc (.cells #[y0, y1] u)) :
    (wd.cell? ⟨g9, 0, none⟩ = some x0 ∧ wd.cell? ⟨g9, 1, none⟩ = some x1 ∧ wd.cell? ⟨g9 + 1, 0, none⟩ = some y0 ∧ wd.cell? ⟨g9 + 1, 1, none⟩ = some y1) ∧ Only (fun _ => False) w6 wd := by
  have hg10 : g9 + 1 = wa.heap.size := by rw [hwa, size_alloc, hg9]
  obtain ⟨a0, a1, af, hala⟩ := slbox hwa hg9
  obtain ⟨b0, b1, bf, halb⟩ := slbox hwd hg10
  exact ⟨⟨halb.cell' a0 (fun f => f), halb.cell' a1 (fun f => f), b0, b1⟩, hala.trans halb⟩
set_option maxRecDepth 100000 in
set_option maxHeartbeats 8000000 in
theorem turns_any (ao : Option Addr) (n c : Nat) (ls : List (List Nat)) (w : World) (h : PB w ao n ls) :
    Calls Try.prog 11 #[.slice ao n c] w fun e w' => e = .returned (.bool true) ∧ Only (fun _ => False) w w' := by
  have HPB := Lib.hid h
  have hn := h.2.1
  clear h
  go_enter Try.func11, Try.ntmps11
  go_wp2_with fail
  refine (new_any 20 (by omega) (by omega) w).mono ?_
  rintro _ w1 ⟨p, bl, bm, rfl, hd, ho1, hp, hbl, hbm⟩
  have HD := Lib.hid hd
  have HO1 := Lib.hid ho1
  have HPP := Lib.hid (And.intro hp (And.intro hbl hbm))
  clear hd ho1 hp hbl hbm
  go_wp2_with fail
  refine (snaps_any w1).mono ?_
  rintro _ w2 ⟨rfl, ho2⟩
  have HO2 := Lib.hid ho2
  clear ho2
  obtain ⟨w3, hw3⟩ : ∃ x, x = w2.alloc (.cells #[.string { data := #[] }, .string { data := #[] }] 87) := ⟨_, rfl⟩
  obtain ⟨g5, hg5⟩ : ∃ x, x = w2.heap.size := ⟨_, rfl⟩
  obtain ⟨s0, s1, sf, ho3⟩ := slbox hw3 hg5
  go_upto_region 5 with fail
  simp only [← hw3, ← hg5]
  have HI : Hid (TInv w w3 p bl bm g5 0) := Lib.hid (by
    have h1 := HO1.out.size
    have h2 := HO2.out.size
    have h3 := HPP.out
    have h4 := HD.out.lt
    refine ⟨⟨h3.1, h3.2.1, h3.2.2, by omega⟩, by rintro (e | e | e) <;> omega, (HO1.out.trans HO2.out).trans ho3, zF, [], [], (HD.out.only (HO2.out.trans ho3) (fun f => f) (fun f => f) (fun f => f)), .start, s0, s1, sf⟩)
  clear hw3 hg5 s0 s1 sf ho3 HD HO1 HO2 HPP
  go_wp2_with fail
  go_loopw [6, 7] (fun x iv wr => ∃ (k : Nat), k ≤ n ∧ k ≤ 8 ∧ x = .int .i64 (k : Int) ∧ iv = .int .i64 (k : Int) ∧ Hid (TInv w wr p bl bm g5 k)) (fun _ iv _ => 8 - (intOf iv).toNat)
  case atStart => exact ⟨0, by omega, by omega, by go_num, by go_num, HI⟩
  case round =>
    obtain ⟨k, hkn, hk8, rfl, rfl, HT⟩ := hrel
    clear HI
    rename World => wr
    by_cases hgo : k < n ∧ k < 8
    · obtain ⟨hgn, hg8⟩ := hgo
      have hgn' : (k : Int) < (n : Int) := by omega
      have hg8' : (k : Int) < 8 := by omega
      obtain ⟨b, off, rfl, hcl⟩ : ∃ b off, ao = some ⟨b, off, none⟩ ∧ ∃ a' len cap, wr.cell? ⟨b, off + k, none⟩ = some (.slice a' len cap) ∧ Bytes wr a' len cap (ls.getD k []) := by
        rcases (HPB.out.only HT.out.only).2.2 with h0 | ⟨b, off, ha, hc⟩
        · omega
        · exact ⟨b, off, ha, hc k hgn⟩
      obtain ⟨a', len, cap, hcell, hby⟩ := hcl
      have HBY := Lib.hid (tame_any a' len cap _ wr hby)
      have HLT : Hid (((ls.getD k []).take 500).length ≤ 500) := Lib.hid (by rw [List.length_take]; omega)
      generalize (ls.getD k []).take 500 = im at *
      clear hby
      go_wp2_with fail
      refine HBY.out.mono ?_
      rintro _ w4 ⟨v, rfl, hv, ho4, hvk⟩
      have HSV := Lib.hid (save_turn HT.out ho4 hv hvk HLT.out hg8)
      clear hv ho4 hvk HBY
      go_wp2_with fail
      refine HSV.out.mono ?_
      rintro _ w5 ⟨rfl, hm⟩
      have HM := Lib.hid hm
      have hcv := conv_own hm.own
      have HPB5 : Hid (PB w5 (some ⟨b, off, none⟩) n ls) := Lib.hid (HPB.out.only hm.only)
      clear hm HSV HT hcell
      obtain ⟨j, hj⟩ : ∃ j, (k + 1) % 2 = j := ⟨_, rfl⟩
      have HST := Lib.hid (HM.out.store hg8 hj)
      have hj2 : j < 2 := by omega
      have hjm : ((k : Int) + 1) % 2 = (j : Int) := by omega
      obtain ⟨sj, hsj⟩ : ∃ s, w5.cell? ⟨g5, j, none⟩ = some (.string s) := by
        obtain ⟨F, l0, l1, -, -, s0, s1, -⟩ := HM.out.has
        rcases (by omega : j = 0 ∨ j = 1) with rfl | rfl
        · exact ⟨_, s0⟩
        · exact ⟨_, s1⟩
      have sfj : w5.frozen? ⟨g5, j, none⟩ = false := by
        obtain ⟨F, l0, l1, -, -, -, -, sf⟩ := HM.out.has
        exact sf j
      clear HM HPB5
      go_wp2_with fail
      go_roundw
      case rel => exact ⟨k + 1, by omega, by omega, by go_num, by go_num, HST⟩
      case measure => (simp [intOf]; try omega)
    · obtain ⟨F, l0, l1, hd, ht, s0, s1, sf⟩ := HT.out.has
      clear HPB
      by_cases hkl : k < n
      · have hkl2 : (k : Int) < n := by omega
        obtain ⟨h8, h8i⟩ : ¬ k < 8 ∧ ¬ (k : Int) < 8 := by omega
        have hpk : (k : Int).tmod 2 = 0 := by rw [Int.tmod_eq_emod_of_nonneg (by omega)]; omega
        have hpk1 : ((k : Int) + 1).tmod 2 = 1 := by rw [Int.tmod_eq_emod_of_nonneg (by omega)]; omega
        obtain ⟨m, hm⟩ : ∃ m, k - 1 = m := ⟨_, rfl⟩
        have hmk : (k : Int) - 1 = (m : Int) := by omega
        have hm0 : 0 < m := by omega
        have hwp : IntKind.i64.wrap ((k : Int) + 1) = (k : Int) + 1 := by rw [IntKind.wrap_i64]; omega
        have hwm : IntKind.i64.wrap ((k : Int) - 1) = (m : Int) := by rw [IntKind.wrap_i64]; omega
        have hk1 : (1 : Int) ≤ k := by omega
        have hk2 : (2 : Int) ≤ k := by omega
        have hk2n : ¬ (k : Int) < 2 := by omega
        have hk0 : ¬ (k : Int) = 0 := by omega
        have hkb : ((k : Int) == 0) = false := beq_eq_false_iff_ne.2 hk0
        have HG := turns_gens hd ht (A0 := k) (A1 := m) (d0 := true) (d1 := true) (by unfold gk; (repeat' split) <;> omega) (by unfold gk; (repeat' split) <;> omega) (by simp; try omega) (by simp; try omega)
        have HL : Hid (∀ w', Only (fun _ => False) wr w' → _) := Lib.hid (fun w' ho => turns_load (ln := l0) (hd.only (w' := w') ho (fun f => f) (fun f => f) (fun f => f)) ht (by omega) (by first | rw [if_pos (by omega)] | rw [if_neg (by omega)]))
        have hself : ((strN l0).toList == (strN l0).toList) = true := by simp
        have HS : Hid (wr.cell? ⟨g5, 0, none⟩ = some (.string (strN l0)) ∧ wr.cell? ⟨g5, 1, none⟩ = some (.string (strN l1))) := Lib.hid ⟨s0, s1⟩
        try simp only [Int.cast_ofNat_Int] at HG
        have HGG := Lib.hid HG
        have HON := Lib.hid HT.out.only
        clear hd ht s0 s1 sf HT HG
        go_wp2_with fail
        refine HGG.out.mono ?_
        rintro _ w6 ⟨rfl, ho6⟩
        have HO6 := Lib.hid ho6
        obtain ⟨wa, hwa⟩ : ∃ x, x = w6.alloc (.cells #[.int .i64 (k : Int), .int .i64 (m : Int)] 70) := ⟨_, rfl⟩
        obtain ⟨g9, hg9⟩ : ∃ x, x = w6.heap.size := ⟨_, rfl⟩
        obtain ⟨wd, hwd⟩ : ∃ x, x = wa.alloc (.cells #[.bool true, .bool true] 71) := ⟨_, rfl⟩
        obtain ⟨⟨y0, y1, y2, y3⟩, hod⟩ := turns_boxes hwa hg9 hwd
        have HOD := Lib.hid hod
        clear ho6 hod HGG
        go_upto_region 15 with fail
        simp only [← hwa, ← hg9, ← hwd]
        clear hwa hg9 hwd
        go_wp2_with fail
        refine (HL.out wd (HO6.out.trans HOD.out)).mono ?_
        rintro _ w8 ⟨ho8, va, vc, rfl, hcv⟩
        have hq := HO6.out.trans (HOD.out.trans ho8)
        replace y0 := ho8.cell' y0 (fun f => f)
        replace y1 := ho8.cell' y1 (fun f => f)
        clear y2 y3
        have s0 := hq.cell' HS.out.1 (fun f => f)
        have s1 := hq.cell' HS.out.2 (fun f => f)
        have HOF : Hid (∀ nq, Only (fun _ => False) w (w8.drewN nq)) := Lib.hid (fun nq => drewN_sn (HON.out.trans hq) nq)
        clear ho8 hq HL HS HON HO6 HOD
        go_wp2_with fail
        go_quiet (fail)
        go_wp2_with fail
        go_ret
        exact ⟨by first | (simp; done) | (simp; right; rw [IntKind.wrap_i64]; omega), HOF.out _⟩
      · have hkl2 : ¬ (k : Int) < n := by omega
        by_cases c0 : k = 0
        · obtain rfl : k = 0 := by omega
          have htw := two_eq
          have HG := turns_gens hd ht (A0 := 0) (A1 := 0) (d0 := false) (d1 := false) (by unfold gk; (repeat' split) <;> omega) (by unfold gk; (repeat' split) <;> omega) (by simp; try omega) (by simp; try omega)
          have HS : Hid (wr.cell? ⟨g5, 0, none⟩ = some (.string (strN l0)) ∧ wr.cell? ⟨g5, 1, none⟩ = some (.string (strN l1))) := Lib.hid ⟨s0, s1⟩
          try simp only [Int.cast_ofNat_Int] at HG
          have HGG := Lib.hid HG
          have HON := Lib.hid HT.out.only
          clear hd ht s0 s1 sf HT HG
          go_wp2_with fail
          refine HGG.out.mono ?_
          rintro _ w6 ⟨rfl, ho6⟩
          have HO6 := Lib.hid ho6
          obtain ⟨wa, hwa⟩ : ∃ x, x = w6.alloc (.cells #[.int .i64 (0 : Int), .int .i64 (0 : Int)] 70) := ⟨_, rfl⟩
          obtain ⟨g9, hg9⟩ : ∃ x, x = w6.heap.size := ⟨_, rfl⟩
          obtain ⟨wd, hwd⟩ : ∃ x, x = wa.alloc (.cells #[.bool false, .bool false] 71) := ⟨_, rfl⟩
          obtain ⟨⟨y0, y1, y2, y3⟩, hod⟩ := turns_boxes hwa hg9 hwd
          have HOD := Lib.hid hod
          clear ho6 hod HGG
          go_upto_region 15 with fail
          simp only [← hwa, ← hg9, ← hwd]
          clear hwa hg9 hwd
          go_wp2_with fail
          go_ret
          exact ⟨by simp, (HON.out.trans HO6.out).trans HOD.out⟩
        by_cases c1 : k = 1
        · obtain rfl : k = 1 := by omega
          have HG := turns_gens hd ht (A0 := 0) (A1 := 1) (d0 := false) (d1 := true) (by unfold gk; (repeat' split) <;> omega) (by unfold gk; (repeat' split) <;> omega) (by simp; try omega) (by simp; try omega)
          have HL : Hid (∀ w', Only (fun _ => False) wr w' → _) := Lib.hid (fun w' ho => turns_load (ln := l1) (hd.only (w' := w') ho (fun f => f) (fun f => f) (fun f => f)) ht (by omega) (by first | rw [if_pos (by omega)] | rw [if_neg (by omega)]))
          have hself : ((strN l1).toList == (strN l1).toList) = true := by simp
          have HS : Hid (wr.cell? ⟨g5, 0, none⟩ = some (.string (strN l0)) ∧ wr.cell? ⟨g5, 1, none⟩ = some (.string (strN l1))) := Lib.hid ⟨s0, s1⟩
          try simp only [Int.cast_ofNat_Int] at HG
          have HGG := Lib.hid HG
          have HON := Lib.hid HT.out.only
          clear hd ht s0 s1 sf HT HG
          go_wp2_with fail
          refine HGG.out.mono ?_
          rintro _ w6 ⟨rfl, ho6⟩
          have HO6 := Lib.hid ho6
          obtain ⟨wa, hwa⟩ : ∃ x, x = w6.alloc (.cells #[.int .i64 (0 : Int), .int .i64 (1 : Int)] 70) := ⟨_, rfl⟩
          obtain ⟨g9, hg9⟩ : ∃ x, x = w6.heap.size := ⟨_, rfl⟩
          obtain ⟨wd, hwd⟩ : ∃ x, x = wa.alloc (.cells #[.bool false, .bool true] 71) := ⟨_, rfl⟩
          obtain ⟨⟨y0, y1, y2, y3⟩, hod⟩ := turns_boxes hwa hg9 hwd
          have HOD := Lib.hid hod
          clear ho6 hod HGG
          go_upto_region 15 with fail
          simp only [← hwa, ← hg9, ← hwd]
          clear hwa hg9 hwd
          go_wp2_with fail
          refine (HL.out wd (HO6.out.trans HOD.out)).mono ?_
          rintro _ w8 ⟨ho8, va, vc, rfl, hcv⟩
          have hq := HO6.out.trans (HOD.out.trans ho8)
          replace y0 := ho8.cell' y0 (fun f => f)
          replace y1 := ho8.cell' y1 (fun f => f)
          clear y2 y3
          have s0 := hq.cell' HS.out.1 (fun f => f)
          have s1 := hq.cell' HS.out.2 (fun f => f)
          have HOF : Hid (∀ nq, Only (fun _ => False) w (w8.drewN nq)) := Lib.hid (fun nq => drewN_sn (HON.out.trans hq) nq)
          clear ho8 hq HL HS HON HO6 HOD
          go_wp2_with fail
          go_quiet (fail)
          go_wp2_with fail
          go_ret
          exact ⟨by first | (simp; done) | (simp; right; rw [IntKind.wrap_i64]; omega), HOF.out _⟩
        by_cases c2 : k % 2 = 0
        · have hpk : (k : Int).tmod 2 = 0 := by rw [Int.tmod_eq_emod_of_nonneg (by omega)]; omega
          have hpk1 : ((k : Int) + 1).tmod 2 = 1 := by rw [Int.tmod_eq_emod_of_nonneg (by omega)]; omega
          obtain ⟨m, hm⟩ : ∃ m, k - 1 = m := ⟨_, rfl⟩
          have hmk : (k : Int) - 1 = (m : Int) := by omega
          have hm0 : 0 < m := by omega
          have hwp : IntKind.i64.wrap ((k : Int) + 1) = (k : Int) + 1 := by rw [IntKind.wrap_i64]; omega
          have hwm : IntKind.i64.wrap ((k : Int) - 1) = (m : Int) := by rw [IntKind.wrap_i64]; omega
          have hk1 : (1 : Int) ≤ k := by omega
          have hk2 : (2 : Int) ≤ k := by omega
          have hk2n : ¬ (k : Int) < 2 := by omega
          have hk0 : ¬ (k : Int) = 0 := by omega
          have hkb : ((k : Int) == 0) = false := beq_eq_false_iff_ne.2 hk0
          have HG := turns_gens hd ht (A0 := k) (A1 := m) (d0 := true) (d1 := true) (by unfold gk; (repeat' split) <;> omega) (by unfold gk; (repeat' split) <;> omega) (by simp; try omega) (by simp; try omega)
          have HL : Hid (∀ w', Only (fun _ => False) wr w' → _) := Lib.hid (fun w' ho => turns_load (ln := l0) (hd.only (w' := w') ho (fun f => f) (fun f => f) (fun f => f)) ht (by omega) (by first | rw [if_pos (by omega)] | rw [if_neg (by omega)]))
          have hself : ((strN l0).toList == (strN l0).toList) = true := by simp
          have HS : Hid (wr.cell? ⟨g5, 0, none⟩ = some (.string (strN l0)) ∧ wr.cell? ⟨g5, 1, none⟩ = some (.string (strN l1))) := Lib.hid ⟨s0, s1⟩
          try simp only [Int.cast_ofNat_Int] at HG
          have HGG := Lib.hid HG
          have HON := Lib.hid HT.out.only
          clear hd ht s0 s1 sf HT HG
          go_wp2_with fail
          refine HGG.out.mono ?_
          rintro _ w6 ⟨rfl, ho6⟩
          have HO6 := Lib.hid ho6
          obtain ⟨wa, hwa⟩ : ∃ x, x = w6.alloc (.cells #[.int .i64 (k : Int), .int .i64 (m : Int)] 70) := ⟨_, rfl⟩
          obtain ⟨g9, hg9⟩ : ∃ x, x = w6.heap.size := ⟨_, rfl⟩
          obtain ⟨wd, hwd⟩ : ∃ x, x = wa.alloc (.cells #[.bool true, .bool true] 71) := ⟨_, rfl⟩
          obtain ⟨⟨y0, y1, y2, y3⟩, hod⟩ := turns_boxes hwa hg9 hwd
          have HOD := Lib.hid hod
          clear ho6 hod HGG
          go_upto_region 15 with fail
          simp only [← hwa, ← hg9, ← hwd]
          clear hwa hg9 hwd
          go_wp2_with fail
          refine (HL.out wd (HO6.out.trans HOD.out)).mono ?_
          rintro _ w8 ⟨ho8, va, vc, rfl, hcv⟩
          have hq := HO6.out.trans (HOD.out.trans ho8)
          replace y0 := ho8.cell' y0 (fun f => f)
          replace y1 := ho8.cell' y1 (fun f => f)
          clear y2 y3
          have s0 := hq.cell' HS.out.1 (fun f => f)
          have s1 := hq.cell' HS.out.2 (fun f => f)
          have HOF : Hid (∀ nq, Only (fun _ => False) w (w8.drewN nq)) := Lib.hid (fun nq => drewN_sn (HON.out.trans hq) nq)
          clear ho8 hq HL HS HON HO6 HOD
          go_wp2_with fail
          go_quiet (fail)
          go_wp2_with fail
          go_ret
          exact ⟨by first | (simp; done) | (simp; right; rw [IntKind.wrap_i64]; omega), HOF.out _⟩
        · have hpk : (k : Int).tmod 2 = 1 := by rw [Int.tmod_eq_emod_of_nonneg (by omega)]; omega
          have hpk1 : ((k : Int) + 1).tmod 2 = 0 := by rw [Int.tmod_eq_emod_of_nonneg (by omega)]; omega
          obtain ⟨m, hm⟩ : ∃ m, k - 1 = m := ⟨_, rfl⟩
          have hmk : (k : Int) - 1 = (m : Int) := by omega
          have hm0 : 0 < m := by omega
          have hwp : IntKind.i64.wrap ((k : Int) + 1) = (k : Int) + 1 := by rw [IntKind.wrap_i64]; omega
          have hwm : IntKind.i64.wrap ((k : Int) - 1) = (m : Int) := by rw [IntKind.wrap_i64]; omega
          have hk1 : (1 : Int) ≤ k := by omega
          have hk2 : (2 : Int) ≤ k := by omega
          have hk2n : ¬ (k : Int) < 2 := by omega
          have hk0 : ¬ (k : Int) = 0 := by omega
          have hkb : ((k : Int) == 0) = false := beq_eq_false_iff_ne.2 hk0
          have HG := turns_gens hd ht (A0 := m) (A1 := k) (d0 := true) (d1 := true) (by unfold gk; (repeat' split) <;> omega) (by unfold gk; (repeat' split) <;> omega) (by simp; try omega) (by simp; try omega)
          have HL : Hid (∀ w', Only (fun _ => False) wr w' → _) := Lib.hid (fun w' ho => turns_load (ln := l1) (hd.only (w' := w') ho (fun f => f) (fun f => f) (fun f => f)) ht (by omega) (by first | rw [if_pos (by omega)] | rw [if_neg (by omega)]))
          have hself : ((strN l1).toList == (strN l1).toList) = true := by simp
          have HS : Hid (wr.cell? ⟨g5, 0, none⟩ = some (.string (strN l0)) ∧ wr.cell? ⟨g5, 1, none⟩ = some (.string (strN l1))) := Lib.hid ⟨s0, s1⟩
          try simp only [Int.cast_ofNat_Int] at HG
          have HGG := Lib.hid HG
          have HON := Lib.hid HT.out.only
          clear hd ht s0 s1 sf HT HG
          go_wp2_with fail
          refine HGG.out.mono ?_
          rintro _ w6 ⟨rfl, ho6⟩
          have HO6 := Lib.hid ho6
          obtain ⟨wa, hwa⟩ : ∃ x, x = w6.alloc (.cells #[.int .i64 (m : Int), .int .i64 (k : Int)] 70) := ⟨_, rfl⟩
          obtain ⟨g9, hg9⟩ : ∃ x, x = w6.heap.size := ⟨_, rfl⟩
          obtain ⟨wd, hwd⟩ : ∃ x, x = wa.alloc (.cells #[.bool true, .bool true] 71) := ⟨_, rfl⟩
          obtain ⟨⟨y0, y1, y2, y3⟩, hod⟩ := turns_boxes hwa hg9 hwd
          have HOD := Lib.hid hod
          clear ho6 hod HGG
          go_upto_region 15 with fail
          simp only [← hwa, ← hg9, ← hwd]
          clear hwa hg9 hwd
          go_wp2_with fail
          refine (HL.out wd (HO6.out.trans HOD.out)).mono ?_
          rintro _ w8 ⟨ho8, va, vc, rfl, hcv⟩
          have hq := HO6.out.trans (HOD.out.trans ho8)
          replace y0 := ho8.cell' y0 (fun f => f)
          replace y1 := ho8.cell' y1 (fun f => f)
          clear y2 y3
          have s0 := hq.cell' HS.out.1 (fun f => f)
          have s1 := hq.cell' HS.out.2 (fun f => f)
          have HOF : Hid (∀ nq, Only (fun _ => False) w (w8.drewN nq)) := Lib.hid (fun nq => drewN_sn (HON.out.trans hq) nq)
          clear ho8 hq HL HS HON HO6 HOD
          go_wp2_with fail
          go_quiet (fail)
          go_wp2_with fail
          go_ret
          exact ⟨by first | (simp; done) | (simp; right; rw [IntKind.wrap_i64]; omega), HOF.out _⟩
theorem turns_walk (ao : Option Addr) (n c : Nat) (w : World) (h : ∃ l, PB w ao n l) :
    Calls Try.prog 11 #[.slice ao n c] w fun e w' => e = .returned (.bool true) ∧ Below w.heap.size w w' := by
  obtain ⟨l, h⟩ := h
  exact (turns_any ao n c l w h).mono fun _ _ ⟨p, q⟩ => ⟨p, q.none⟩
end Go.Proofs.Ytcbpgplmphgcgaa.snw
