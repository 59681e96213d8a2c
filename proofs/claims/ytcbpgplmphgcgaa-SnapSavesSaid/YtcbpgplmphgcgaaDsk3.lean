/- The disk: Write. -/
import Derived.Test.YtcbpgplmphgcgaaDsk2
import Derived.StillTailTactics
import Derived.Laws.CopyOwn
namespace Go.Proofs.Ytcbpgplmphgcgaa.dskw
open Go.RowKit mem
set_option linter.unusedVariables false

/-- the j-th sector of bytes -/
def bsec (lb : List Nat) (j : Nat) : List Nat := (lb.drop (j * 64)).take 64
/-- the cache behind j sectors that were written from f on -/
def wrC (C : Nat → Option (List Nat)) (f : Nat) (lb : List Nat) (j : Nat) : Nat → Option (List Nat) := fun i => if f ≤ i ∧ i < f + j then some (bsec lb (i - f)) else C i
def cutJ (cut : Int) (j : Nat) : Int := if 0 < cut then cut - j else cut

theorem bsec_sec {lb : List Nat} {m j : Nat} (hl : lb.length = m * 64) (hb : ∀ c ∈ lb, c < 256) (hj : j < m) : Sec (bsec lb j) :=
  ⟨by unfold bsec; rw [List.length_take, List.length_drop]; omega, fun c hc => hb c (List.mem_of_mem_drop (List.mem_of_mem_take hc))⟩

theorem wrC_zero (C : Nat → Option (List Nat)) (f : Nat) (lb : List Nat) : wrC C f lb 0 = C := by
  funext i; unfold wrC; rw [if_neg (by omega)]
theorem wrC_succ (C : Nat → Option (List Nat)) (f : Nat) (lb : List Nat) (j : Nat) : wrC C f lb (j + 1) = updC (wrC C f lb j) (f + j) (bsec lb j) := by
  funext i
  unfold updC wrC
  by_cases e : i = f + j
  · subst e; rw [if_pos ⟨by omega, by omega⟩, if_pos rfl, Nat.add_sub_cancel_left]
  · rw [if_neg e]
    by_cases h : f ≤ i ∧ i < f + j
    · rw [if_pos h, if_pos ⟨h.1, by omega⟩]
    · rw [if_neg h, if_neg (by omega)]

theorem cutJ_zero (cut : Int) : cutJ cut 0 = cut := by unfold cutJ; split <;> omega
theorem cutJ_succ {cut : Int} {j : Nat} (h : 0 < cut → (j : Int) < cut) : cutN (cutJ cut j) = cutJ cut (j + 1) ∧ offN (cutJ cut j) false = decide (0 < cut ∧ cut = (j : Int) + 1) := by
  unfold cutN offN cutJ
  by_cases hc : 0 < cut
  · have := h hc
    rw [if_pos hc, if_pos (by omega), if_pos hc, if_pos (by omega)]
    refine ⟨by omega, ?_⟩
    rw [decide_eq_decide]; omega
  · rw [if_neg hc, if_neg hc, if_neg hc, if_neg hc]
    refine ⟨rfl, ?_⟩
    rw [eq_comm, decide_eq_false_iff_not]; omega

set_option maxRecDepth 100000 in
set_option maxHeartbeats 1000000 in
theorem write_no (p bl bm n : Nat) (L : Nat → List Nat) (C : Nat → Option (List Nat)) (cut : Int) (off : Bool) (first : Int) (a : Option Addr) (len cap : Nat) (hl : len ≤ 9223372036854775807) (hf : -9223372036854775808 ≤ first ∧ first ≤ 9223372036854775807) (w : World) (h : DskAt w p bl bm n L C cut off) (hc : chk n off first ((len / 64 : Nat) : Int) ≠ 0) :
    Calls Try.prog 45 #[.pointer (some ⟨p, 0, none⟩), .int .i64 first, .slice a len cap] w fun e w' => e = .returned (.int .i64 (chk n off first ((len / 64 : Nat) : Int))) ∧ w = w' := by
  have HC := Lib.hid (check_any p bl bm n L C cut off first ((len / 64 : Nat) : Int) hf w h)
  generalize chk n off first ((len / 64 : Nat) : Int) = x at *
  have hx : (x == 0) = false := by rw [beq_eq_false_iff_ne]; exact hc
  have hx2 : (x != 0) = true := by rw [bne_iff_ne]; exact hc
  clear h hf hc
  go_enter Try.func45, Try.ntmps45
  go_wp2_with fail
  refine (HC.out).mono ?_
  rintro e1 w1 ⟨rfl, rfl⟩
  go_wp2_with fail
  go_ret
  exact ⟨rfl, rfl⟩

set_option maxRecDepth 100000 in
set_option maxHeartbeats 1000000 in
theorem write_odd (p bl bm n : Nat) (L : Nat → List Nat) (C : Nat → Option (List Nat)) (cut : Int) (off : Bool) (first : Int) (a : Option Addr) (len cap : Nat) (hl : len ≤ 9223372036854775807) (hf : -9223372036854775808 ≤ first ∧ first ≤ 9223372036854775807) (w : World) (h : DskAt w p bl bm n L C cut off) (hc : chk n off first ((len / 64 : Nat) : Int) = 0) (ho : ¬ len % 64 = 0) :
    Calls Try.prog 45 #[.pointer (some ⟨p, 0, none⟩), .int .i64 first, .slice a len cap] w fun e w' => e = .returned (.int .i64 1) ∧ w = w' := by
  have HC := Lib.hid (check_any p bl bm n L C cut off first ((len / 64 : Nat) : Int) hf w h)
  rw [hc] at HC
  have hx : ((len : Int) % 64 == 0) = false := by rw [beq_eq_false_iff_ne]; omega
  have hx2 : ((len : Int) % 64 != 0) = true := by rw [bne_iff_ne]; omega
  clear h hf hc
  go_enter Try.func45, Try.ntmps45
  go_wp2_with fail
  refine (HC.out).mono ?_
  rintro e1 w1 ⟨rfl, rfl⟩
  go_wp2_with fail
  go_ret
  exact ⟨rfl, rfl⟩

theorem row_of_block {w : World} {g : Nat} {vs : List Value} {t : TypeId} (h : w.heap[g]? = some (.cells vs.toArray t (0, 0))) : w.rangeAt g 0 vs := by
  intro j v hv
  rw [Go.Joins.cell_of_block h, Nat.zero_add, List.getElem?_toArray]; exact hv
theorem DskAt.setMap {w w' : World} {p bl bm n : Nat} {L : Nat → List Nat} {C C' : Nat → Option (List Nat)} {cut : Int} {off : Bool} (h : DskAt w p bl bm n L C cut off) (hm : MapC w' bm n C') (ho : Only (fun k => k = bm) w w') : DskAt w' p bl bm n L C' cut off :=
  have h1 : ¬ p = bm := fun e => h.ne2 e.symm
  have hp := h.lt.1
  ⟨ho.cell' h.c0 h1, ho.cell' h.c1 h1, ho.cell' h.c2 h1, ho.cell' h.c3 h1, (ho.frozen (p := ⟨p, 2, none⟩) hp h1).trans h.f2, (ho.frozen (p := ⟨p, 3, none⟩) hp h1).trans h.f3,
    fun i hi => ⟨(h.row i hi).1, range_only (h.row i hi).2.1 ho h.ne3, there_only (h.row i hi).2.2 ho h.ne3⟩, hm, h.ne1, h.ne2, h.ne3, h.n1, h.n2, h.cut1⟩
theorem still_load_mid {P : Program} {ops : Array Oper} {rest : List Oper} {op : Oper} {a : Act} {w : World} {Q : Act → Prop} (hgd : op.guard = none) (ty : TypeId) (x : Operand) (ho : op.op = .load ty x)
    (b o : Nat) (hx : a.eval x = .pointer (some ⟨b, o, none⟩)) (cs : List Value) (d : TypeDesc) (hc : w.rangeAt b o cs)
    (hu : P.underlying ty = some d) (hd : d.isRow = true) (hi : (P.info? ty).map (·.size) = some cs.length)
    (h : wpStill P ops w Q rest (a.put op.dst (.agg cs.toArray))) : wpStill P ops w Q (op :: rest) a := by
  have hw : Region.wanted op (yielded ops a.tmps) = true := by simp [Region.wanted, hgd]
  refine wpStill_step (fun K hK => ?_)
  rw [if_pos hw]
  unfold Oper.still execOp
  simp only [ho, hx, Instr.loadAt, Instr.sureAddr, Sem.run_bind, Sem.run_pure, Result.andThen_ok, run_loadVar_mid w b o ty cs d hc hu hd hi, Oper.stillUpon_value]
  exact hK _ h
theorem splice_all {α : Type} {L cs : List α} (h : L.length = cs.length) : splice L 0 cs = cs := by
  unfold splice
  rw [List.take_zero, List.nil_append, List.drop_eq_nil_of_le (by omega), List.append_nil]
theorem bsec_get {lb : List Nat} {m j x : Nat} (hl : lb.length = m * 64) (hj : j < m) (hx : x < 64) : (bsec lb j).getD x 0 = lb.getD (j * 64 + x) 0 := by
  unfold bsec
  rw [List.getD_eq_getElem?_getD, List.getD_eq_getElem?_getD, List.getElem?_take, if_pos hx, List.getElem?_drop]
theorem src_cells {w : World} {b o m j : Nat} {lb : List Nat} (hl : lb.length = m * 64) (hj : j < m) (hb : ∀ c ∈ lb, c < 256) (h : ∀ i, i < m * 64 → w.cell? ⟨b, o + i, none⟩ = some (.int .u8 (lb.getD i 0 : Nat))) :
    ∀ x v, (bv (bsec lb j))[x]? = some v → w.cell? ((Addr.mk b (o + j * 64) none).add x) = some v := by
  intro x v hv
  have hs := bsec_sec hl hb hj
  have hx : x < 64 := by
    rcases Nat.lt_or_ge x 64 with g | g
    · exact g
    · rw [List.getElem?_eq_none (by rw [bv_length, hs.1]; omega)] at hv; cases hv
  rw [bv_get _ x (by rw [hs.1]; omega), bsec_get hl hj hx] at hv
  rw [add_none, Nat.add_assoc, h (j * 64 + x) (by omega)]
  exact hv

/-- how many sectors of m are written before the power goes off -/
def wrK (cut : Int) (m : Nat) : Nat := if 0 < cut ∧ cut ≤ (m : Int) then cut.toNat else m
def wrOff (cut : Int) (m : Nat) : Bool := decide (0 < cut ∧ cut ≤ (m : Int))
def wrE (cut : Int) (m : Nat) : Int := if wrOff cut m then 12 else 0

set_option maxRecDepth 100000 in
set_option maxHeartbeats 2000000 in
theorem write_yes (p bl bm n : Nat) (L : Nat → List Nat) (C : Nat → Option (List Nat)) (cut : Int) (f m : Nat) (hm : f + m ≤ n) (a : Option Addr) (cap : Nat) (lb : List Nat) (w : World) (h : DskAt w p bl bm n L C cut false) (hb : Bytes w a (m * 64) cap lb) (ha : ∀ x, a = some x → ¬ Dbl p bl bm x.block) :
    Calls Try.prog 45 #[.pointer (some ⟨p, 0, none⟩), .int .i64 (f : Int), .slice a (m * 64) cap] w fun e w' => e = .returned (.int .i64 (wrE cut m)) ∧ DAft p bl bm n w w' L (wrC C f lb (wrK cut m)) (cutJ cut (wrK cut m)) (wrOff cut m) := by
  have hn2 := h.n2
  have hck : chk n false f ((m * 64 / 64 : Nat) : Int) = 0 := by unfold chk; rw [if_neg (by simp), if_pos (by omega)]
  have HC := Lib.hid (check_any p bl bm n L C cut false f ((m * 64 / 64 : Nat) : Int) (by omega) w h)
  rw [hck] at HC
  have hd : m * 64 / 64 = m := by omega
  rw [hd] at HC
  have hq1 : ((m : Int) * 64) / 64 = (m : Int) := by omega
  have hq2 : ((m : Int) * 64) % 64 = 0 := by omega
  have HD := Lib.hid h
  have HB := Lib.hid hb
  have HA := Lib.hid ha
  have hcap := hb.2.1
  have hcm := hb.2.2.1
  unfold maxLen at hcm
  clear h hb ha hck hd
  go_enter Try.func45, Try.ntmps45
  go_wp2_with fail
  refine (HC.out).mono ?_
  rintro e1 w1 ⟨rfl, rfl⟩
  go_wp2_with fail
  clear HC
  go_loopw [26] (fun i wr => ∃ (j : Nat), j ≤ m ∧ i = .int .i64 (j : Int) ∧ Hid (0 < cut → (j : Int) < cut) ∧ Hid (DskAt wr p bl bm n L (wrC C f lb j) (cutJ cut j) false) ∧ Hid (Only (Dbl p bl bm) w wr)) (fun i _ => m - (intOf i).toNat)
  case atStart => exact ⟨0, by omega, rfl, Lib.hid (fun h => h), Lib.hid (by rw [wrC_zero, cutJ_zero]; exact HD.out), Lib.hid (Only.refl _ _)⟩
  case round =>
    obtain ⟨j, hj, rfl, HJ, HDj, HO⟩ := hrel
    by_cases h9 : j < m
    · obtain ⟨b, o, rfl, hcell⟩ := HB.out.1.2.2.2.resolve_left (by omega)
      have hca : ¬ cap = j * 64 := by omega
      have HLen : Hid (lb.length = m * 64 ∧ ∀ c ∈ lb, c < 256) := Lib.hid ⟨HB.out.1.1, HB.out.1.2.2.1⟩
      have HLB := Lib.hid (bsec_sec (j := j) (m := m) HLen.out.1 HLen.out.2 h9)
      have hwj : IntKind.i64.wrap ((j : Int) * 64) = (j : Int) * 64 := by rw [IntKind.wrap_i64]; omega
      have hjr : (0 : Int) ≤ (j : Int) * 64 := by omega
      have hjl : (j : Int) * 64 ≤ (m : Int) * 64 := by omega
      have htn : ((j : Int) * 64).toNat = j * 64 := by omega
      have HSRC := Lib.hid hcell
      clear hcell
      go_wp2_with fail
      go_still_tail 5, (by kernel_rfl)
      generalize hws : World.mk _ _ _ _ _ = ws
      have HW : Hid (ws.heap[wr.heap.size]? = some (.cells (bv zeros).toArray 109 (0, 0)) ∧ Only (fun _ => False) wr ws) := Lib.hid (by
        subst hws
        refine ⟨?_, ((Only.refl _ wr).alloc _).drew⟩
        show (wr.alloc _).heap[wr.heap.size]? = _
        rw [heap_alloc, if_pos rfl]; rfl)
      clear hws
      refine wpList_copy_splice rfl (.tmp 29) (.tmp 33) 47 47 rfl 5 Try.underlying47 (by kernel_rfl) (some ⟨wr.heap.size, 0, none⟩) (some ⟨b, o + j * 64, none⟩) 64 64 (m * 64 - j * 64) (cap - j * 64) rfl rfl wr.heap.size 0 (bv zeros) 109 HW.out.1 (bv (bsec lb j)) ?d1 ?d2 ?d3 (bv_one _) wr.heap.size wr HW.out.2.none (Nat.le_refl _) ?d5
      case d1 => rw [bv_length, HLB.out.1]; show 64 = min (m * 64 - j * 64) 64; omega
      case d2 => exact fun _ => ⟨rfl, _, rfl, src_cells HLen.out.1 h9 HLen.out.2 (fun i hi => HW.out.2.cell' (HO.out.cell' (HSRC.out i hi) (show ¬ Dbl p bl bm b from HA.out _ rfl)) (fun f => f))⟩
      case d3 => rw [bv_length, HLB.out.1, bv_length, sec_zeros.1]; omega
      intro w2 HG2 hb2
      have HG : Hid (w2.heap[wr.heap.size]? = some (.cells (bv (bsec lb j)).toArray 109 (0, 0)) ∧ Only (fun _ => False) wr w2) := Lib.hid ⟨by have := HG2.out; rw [splice_all (by rw [bv_length, bv_length, HLB.out.1, sec_zeros.1])] at this; exact this, Only.of_below hb2⟩
      clear HG2 hb2 HW
      go_wp2_with fail
      refine wp_region_still_tail 8 (by kernel_rfl) (by kernel_rfl) ?_
      generalize hws3 : World.mk _ _ _ _ _ = w3
      have HW3 : Hid (w3.heap[wr.heap.size]? = some (.cells (bv (bsec lb j)).toArray 109 (0, 0)) ∧ Only (fun _ => False) wr w3) := Lib.hid (by
        subst hws3
        exact ⟨HG.out.1, HG.out.2.drew⟩)
      clear hws3 HG
      have HD3 := Lib.hid (HDj.out.only HW3.out.2 (fun f => f) (fun f => f) (fun f => f))
      have c0 := HD3.out.c0
      have c1 := HD3.out.c1
      have hwf : IntKind.i64.wrap ((f : Int) + (j : Int)) = (f : Int) + (j : Int) := by rw [IntKind.wrap_i64]; omega
      have HROW := Lib.hid (row_of_block HW3.out.1)
      obtain ⟨w4, hst, hm4, ho4⟩ := HD3.out.map.store (f + j) (by omega) (by omega) HLB.out
      have HD4 := Lib.hid (HD3.out.setMap hm4 ho4)
      have HO4 : Hid (Only (Dbl p bl bm) w w4) := Lib.hid ((HO.out.then HW3.out.2 (fun _ _ f => f.elim)).then ho4 (fun _ _ e => .inr (.inr e)))
      rw [← wrC_succ] at HD4
      rw [Int.natCast_add] at hst
      unfold sec at hst
      clear hm4 ho4 HW3 HD3
      simp only [List.take_succ_cons, List.take_zero, List.drop_succ_cons, List.drop_zero]
      still_step
      still_step
      still_step
      still_step
      still_step
      still_step
      still_step
      refine still_load_mid rfl 109 (.tmp 9) rfl wr.heap.size 0 rfl (bv (bsec lb j)) _ HROW.out Try.underlying109 rfl (by rw [size_info, bv_length, HLB.out.1]) ?_
      refine wpStill_nil ?_
      go_wp2_with fail
      have HCN := Lib.hid (count_any p bl bm n L (wrC C f lb (j + 1)) (cutJ cut j) false w4 HD4.out)
      rw [(cutJ_succ HJ.out).1, (cutJ_succ HJ.out).2] at HCN
      refine HCN.out.mono ?_
      rintro e5 w5 ⟨rfl, h5, ho5⟩
      have HD5 := Lib.hid h5
      have HO5 : Hid (Only (Dbl p bl bm) w w5) := Lib.hid (HO4.out.then ho5 (fun _ _ e => e))
      clear h5 ho5 HCN HD4 HO4 hst HROW
      by_cases hk : 0 < cut ∧ cut = (j : Int) + 1
      · rw [decide_eq_true hk] at HD5
        have c3 := HD5.out.c3
        have HK : Hid (wrK cut m = j + 1 ∧ wrOff cut m = true ∧ wrE cut m = 12) := Lib.hid (by
          have h1 : 0 < cut ∧ cut ≤ (m : Int) := by omega
          unfold wrE wrK wrOff
          rw [if_pos h1, decide_eq_true h1]
          exact ⟨by omega, rfl, rfl⟩)
        go_wp2_with fail
        go_ret
        rw [HK.out.1, HK.out.2.1, HK.out.2.2]
        exact ⟨rfl, HD5.out, HO5.out⟩
      · rw [decide_eq_false hk] at HD5
        have c3 := HD5.out.c3
        have HJ5 : Hid (0 < cut → ((j + 1 : Nat) : Int) < cut) := Lib.hid (fun h => by have := HJ.out h; omega)
        go_wp2_with fail
        go_roundw
        case rel => exact ⟨j + 1, by omega, by go_num, HJ5, HD5, HO5⟩
        case measure => simp [intOf]; omega
    · obtain rfl : j = m := by omega
      have HK : Hid (wrK cut j = j ∧ wrOff cut j = false ∧ wrE cut j = 0) := Lib.hid (by
        have h1 : ¬ (0 < cut ∧ cut ≤ (j : Int)) := fun h => by have := HJ.out h.1; omega
        unfold wrE wrK wrOff
        rw [if_neg h1, decide_eq_false h1]
        exact ⟨rfl, rfl, rfl⟩)
      go_wp2_with fail
      go_ret
      rw [HK.out.1, HK.out.2.1, HK.out.2.2]
      exact ⟨rfl, HDj.out, HO.out⟩
end Go.Proofs.Ytcbpgplmphgcgaa.dskw
