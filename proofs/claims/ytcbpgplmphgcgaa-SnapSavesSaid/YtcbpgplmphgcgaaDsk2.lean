/- The disk: Read. -/
import Derived.Test.YtcbpgplmphgcgaaDsk1
namespace Go.Proofs.Ytcbpgplmphgcgaa.dskw
open Go.RowKit mem
set_option linter.unusedVariables false

/-- what a sector has now -/
def cur (L : Nat → List Nat) (C : Nat → Option (List Nat)) (i : Nat) : List Nat := (C i).getD (L i)
/-- so many sectors, one behind the other -/
def secs (f : Nat → List Nat) (first : Nat) : Nat → List Nat
  | 0 => []
  | m + 1 => secs f first m ++ f (first + m)

theorem secs_len {f : Nat → List Nat} {first : Nat} : ∀ {m : Nat}, (∀ i, first ≤ i → i < first + m → Sec (f i)) → (secs f first m).length = m * 64 ∧ ∀ c ∈ secs f first m, c < 256 := by
  intro m
  induction m with
  | zero => intro _; exact ⟨rfl, by simp [secs]⟩
  | succ m ih =>
    intro h
    obtain ⟨h1, h2⟩ := ih (fun i a b => h i a (by omega))
    obtain ⟨h3, h4⟩ := h (first + m) (by omega) (by omega)
    refine ⟨by rw [secs, List.length_append, h1, h3]; omega, fun c hc => ?_⟩
    rw [secs, List.mem_append] at hc
    rcases hc with hc | hc
    · exact h2 c hc
    · exact h4 c hc

theorem DskAt.cur {w : World} {p bl bm n : Nat} {L : Nat → List Nat} {C : Nat → Option (List Nat)} {cut : Int} {off : Bool} (h : DskAt w p bl bm n L C cut off) (i : Nat) (hi : i < n) : Sec (dskw.cur L C i) := by
  have h1 := h.map.sec i
  unfold dskw.cur
  cases hc : C i with
  | none => exact (h.row i hi).1
  | some l => rw [hc] at h1; exact h1

theorem sec_size {l : List Nat} (h : Sec l) : (bv l).toArray.size = 64 := by rw [List.size_toArray, bv_length, h.1]
theorem sec_one {l : List Nat} : (bv l).toArray.all (·.oneCell') = true := all_oneCell_toArray (bv_one l)
theorem size_info : (Try.prog.info? 109).map (·.size) = some 64 := by kernel_rfl

theorem store_new {l : List Nat} (h : Sec l) (w : World) (c : Array Value) (hc : c.size = 64) :
    (Instr.storeAt 109 (.pointer (some ⟨w.heap.size, 0, none⟩)) (sec l)).run Try.prog (w.alloc (.cells c 109)) = .ok () (w.alloc (.cells (bv l).toArray 109)) :=
  run_storeAt_new (P := Try.prog) w 109 c (bv l).toArray (by rw [size_info, sec_size h]) (by rw [hc, sec_size h]) sec_one

theorem store_cells {l : List Nat} (h : Sec l) (w : World) (c : Array Value) (hc : c.size = 64) :
    Sem.run Try.prog (storeCells ⟨w.heap.size, 0, none⟩ (bv l)) (w.alloc (.cells c 109)) = .ok () (w.alloc (.cells (bv l).toArray 109)) := by
  have := run_storeCells_new (P := Try.prog) w 109 c (bv l).toArray (by rw [size_info, sec_size h]) (by rw [hc, sec_size h]) sec_one
  simpa using this

theorem load_cells {w : World} {b o : Nat} {l : List Nat} (h : Sec l) (hr : w.rangeAt b o (bv l)) :
    Sem.run Try.prog (loadCellsFrom ⟨b, o, none⟩ 0 64 #[]) w = .ok (bv l).toArray w := by
  have := run_loadCells_list (P := Try.prog) w ⟨b, o, none⟩ (bv l) (fun j v hv => by rw [Addr.add_mid]; exact hr j v hv)
  rw [bv_length, h.1] at this
  exact this

theorem load_row {w : World} {b o : Nat} {l : List Nat} (h : Sec l) (hr : w.rangeAt b o (bv l)) :
    (Instr.loadAt 109 (.pointer (some ⟨b, o, none⟩))).run Try.prog w = .ok (sec l) w :=
  run_loadAt_mid (P := Try.prog) w b o 109 (bv l) _ hr Try.underlying109 rfl (by rw [size_info, bv_length, h.1])

theorem cells_new (w : World) {l : List Nat} (h : Sec l) (t : TypeId) : ∀ j u, (bv l)[j]? = some u → (w.alloc (.cells (bv l).toArray t)).cell? ((Addr.mk w.heap.size 0 none).add j) = some u := by
  intro j u hu
  rw [add_none, Go.Joins.cell_of_block (cs := (bv l).toArray) (t := t) (fr := (0, 0)) (by rw [heap_alloc, if_pos rfl]), Nat.zero_add, List.getElem?_toArray]
  exact hu

theorem app_sec {w w2 : World} {g n cap : Nat} {v2 : Value} {l r : List Nat} {o : Obj} (h : OwnB w (.slice (some ⟨g, 0, none⟩) n cap) l) (hr : Sec r) (hown : w2.ownsRow 0 5 1 v2 (n + 64) (bv l ++ bv r)) (hgrow : (w.alloc o).grownBy w2 (some g))
    (hk : ∀ k, v2.ownBlock = some k → some g = some k ∨ w.heap.size + 1 ≤ k) (hm : (l ++ r).length ≤ maxLen) :
    OwnB w2 v2 (l ++ r) ∧ Only (fun k => some g = some k) w w2 ∧ (∀ k, v2.ownBlock = some k → some g = some k ∨ w.heap.size ≤ k) := by
  have hn : n + 64 = (l ++ r).length := by
    have := hown.1
    rw [List.length_append, bv_length, bv_length] at this
    rw [List.length_append]; omega
  refine ⟨⟨by rw [bv_append, ← hn]; exact hown, ?_, hm⟩, ?_, ?_⟩
  · intro c hc
    rcases List.mem_append.1 hc with h1 | h1
    · exact h.2.1 c h1
    · exact hr.2 c h1
  · exact ((Only.refl (fun k => some g = some k) w).alloc o).then (Only.of_grown hgrow) (fun i _ hi => hi)
  · intro k h1
    rcases hk k h1 with h2 | h2
    · exact .inl h2
    · exact .inr (by omega)

set_option maxRecDepth 100000 in
set_option maxHeartbeats 1000000 in
theorem read_no (p bl bm n : Nat) (L : Nat → List Nat) (C : Nat → Option (List Nat)) (cut : Int) (off : Bool) (first m : Int) (hf : -9223372036854775808 ≤ first ∧ first ≤ 9223372036854775807) (w : World) (h : DskAt w p bl bm n L C cut off) (hc : chk n off first m ≠ 0) :
    Calls Try.prog 28 #[.pointer (some ⟨p, 0, none⟩), .int .i64 first, .int .i64 m] w fun e w' => e = .returned (.tuple #[.slice none 0 0, .int .i64 (chk n off first m)]) ∧ w = w' := by
  have HC := Lib.hid (check_any p bl bm n L C cut off first m hf w h)
  generalize chk n off first m = x at *
  have hx : (x == 0) = false := by rw [beq_eq_false_iff_ne]; exact hc
  have hx2 : (x != 0) = true := by rw [bne_iff_ne]; exact hc
  clear h hf hc
  go_enter Try.func28, Try.ntmps28
  go_wp2_with fail
  refine (HC.out).mono ?_
  rintro e1 w1 ⟨rfl, rfl⟩
  go_wp2_with fail
  go_ret2
  exact ⟨rfl, rfl⟩

/-- what a Read answers -/
def ReadIs (w : World) (bs : List Nat) (e : Ending) (w' : World) : Prop :=
  ∃ g cap, e = .returned (.tuple #[.slice (some ⟨g, 0, none⟩) bs.length cap, .int .i64 0]) ∧ OwnB w' (.slice (some ⟨g, 0, none⟩) bs.length cap) bs ∧ Only (fun _ => False) w w' ∧ w.heap.size ≤ g

set_option maxRecDepth 100000 in
set_option maxHeartbeats 1000000 in
theorem read_yes (p bl bm n : Nat) (L : Nat → List Nat) (C : Nat → Option (List Nat)) (cut : Int) (f m : Nat) (hm : f + m ≤ n) (w : World) (h : DskAt w p bl bm n L C cut false) :
    Calls Try.prog 28 #[.pointer (some ⟨p, 0, none⟩), .int .i64 (f : Int), .int .i64 (m : Int)] w (ReadIs w (secs (cur L C) f m)) := by
  obtain ⟨i0, hi, hz0, hz1, hz2⟩ := info_parts info_u8
  have hck : chk n false f m = 0 := by unfold chk; rw [if_neg (by simp), if_pos (by omega)]
  have HC := Lib.hid (check_any p bl bm n L C cut false f m (by have := h.n2; omega) w h)
  rw [hck] at HC
  have HD := Lib.hid h
  have hn2 := h.n2
  clear h hck
  go_enter Try.func28, Try.ntmps28
  go_wp2_with fail
  refine (HC.out).mono ?_
  rintro e1 w1 ⟨rfl, rfl⟩
  go_wp2_with (first | (at_make; refine wpList_make_own _ rfl _ _ 47 rfl w.heap.size 5 i0 (.int .u8 0) 1 Try.underlying47 hi hz0 hz1 .i64 .i64 _ (m * 64) rfl rfl (by omega) ?m1 (by unfold maxLen; omega) (Nat.le_refl _) ?_))
  case m1 => rw [hz2]; omega
  intro w1 hown hgrow
  have HB0 : Hid (OwnB w1 (.slice (some ⟨w.heap.size, 0, none⟩) ((f - f) * 64) (m * 64)) (secs (dskw.cur L C) f (f - f))) := Lib.hid (by
    rw [Nat.sub_self]
    exact ⟨owns_le hown (Nat.zero_le _), by simp [secs], by simp [secs, maxLen]⟩)
  have HO0 : Hid (Only (fun _ => False) w w1) := Lib.hid ((Only.of_grown hgrow).mono (fun k _ e => by cases e))
  have hz0' : Value.slice (some ⟨w.heap.size, 0, none⟩) 0 (m * 64) = Value.slice (some ⟨w.heap.size, 0, none⟩) ((f - f) * 64) (m * 64) := by rw [Nat.sub_self]
  have HZ := Lib.hid hz0'
  clear hown hgrow hz0' HC
  go_wp2_with fail
  go_loopw [9, 10] (fun bv i wr => ∃ (k g cap : Nat), f ≤ k ∧ k ≤ f + m ∧ i = .int .i64 (k : Int) ∧ bv = .slice (some ⟨g, 0, none⟩) ((k - f) * 64) cap ∧ w.heap.size ≤ g ∧ Hid (OwnB wr (.slice (some ⟨g, 0, none⟩) ((k - f) * 64) cap) (secs (dskw.cur L C) f (k - f))) ∧ Hid (Only (fun _ => False) w wr)) (fun _ i _ => f + m - (intOf i).toNat)
  case atStart => exact ⟨f, w.heap.size, m * 64, by omega, by omega, rfl, HZ.out, Nat.le_refl _, HB0, HO0⟩
  case round =>
    clear HB0 HO0 HZ
    obtain ⟨k, g, cap, hk1, hk2, rfl, rfl, hg, HB, HO⟩ := hrel
    have HDk := Lib.hid (HD.out.only HO.out (fun f => f) (fun f => f) (fun f => f))
    by_cases h9 : k < f + m
    · have c0 := HDk.out.c0
      have c1 := HDk.out.c1
      have hlk := HDk.out.map.look_ok k (by omega)
      have HLN := Lib.hid (secs_len (f := dskw.cur L C) (first := f) (m := k - f) (fun i a b => HD.out.cur i (by omega)))
      have HRW := Lib.hid (HDk.out.row k (by omega))
      have HOWN : Hid (wr.ownsRow 0 5 1 (.slice (some ⟨g, 0, none⟩) ((k - f) * 64) cap) ((k - f) * 64) (bv (secs (dskw.cur L C) f (k - f)))) := Lib.hid (by have := HB.out.1; rw [HLN.out.1] at this; exact this)
      cases hC : C k with
      | some l =>
        have HSL : Hid (Sec l) := Lib.hid (by have := HDk.out.map.sec k; rw [hC] at this; exact this)
        have HCU : Hid (dskw.cur L C k = l) := Lib.hid (by unfold dskw.cur; rw [hC]; rfl)
        rw [hC] at hlk
        simp only [Option.getD_some, Option.isSome_some] at hlk
        have hst := store_cells HSL.out
        have hlen : (bv l).length = 64 := by rw [bv_length]; exact HSL.out.1
        have HX := HSL
        clear hC
        unfold sec at hlk
        go_wp2_with (first | (at_builtin; refine append_mine rfl _ _ 47 rfl 5 i0 (.int .u8 0) 1 1 Try.underlying47 hi hz0 hz1 hz2 rfl (by decide) (.slice (some ⟨g, 0, none⟩) ((k - f) * 64) cap) ((k - f) * 64) _ rfl (HOWN.out.alloc _) ⟨wr.heap.size, 0, none⟩ 64 64 (bv l) rfl ?c1 ?c2 ?c3 ?c4 ?c5 ?_))
        case c1 => rw [bv_length]; exact (HX.out).1
        case c2 => exact cells_new wr HX.out _
        case c3 => exact bv_one _
        case c4 => unfold maxLen; omega
        case c5 => omega
        intro v2 w2 hown hgrow hkk
        have HA := Lib.hid (app_sec HB.out HX.out hown hgrow hkk (by unfold maxLen; have := HLN.out.1; have := HX.out.1; rw [List.length_append]; omega))
        obtain ⟨g2, c2, hv2, _⟩ := HA.out.1.form (by intro e; have := congrArg List.length e; rw [List.length_append, List.length_nil] at this; have := HX.out.1; omega)
        have hk3 : (k - f) * 64 + 64 = (k + 1 - f) * 64 := by omega
        rw [List.length_append, HLN.out.1, HX.out.1, hk3] at hv2
        rw [hv2] at HA ⊢
        have HB2 : Hid (OwnB w2 (.slice (some ⟨g2, 0, none⟩) ((k + 1 - f) * 64) c2) (secs (dskw.cur L C) f (k + 1 - f))) := Lib.hid (by
          have e : k + 1 - f = (k - f) + 1 := by omega
          have := HA.out.1
          rw [e, secs, show f + (k - f) = k by omega, HCU.out, ← e]
          exact this)
        have HO2 : Hid (Only (fun _ => False) w w2) := Lib.hid (HO.out.then HA.out.2.1 (fun i hi e => by have : some g = some i := e; injection this with this; omega))
        have hg2 : w.heap.size ≤ g2 := by
          rcases HA.out.2.2 g2 rfl with h1 | h1
          · have : some g = some g2 := h1
            injection this with this; omega
          · have := HO.out.size; omega
        clear hv2 hown hgrow hkk
        go_wp2_with fail
        go_roundw
        case rel => exact ⟨k + 1, g2, c2, by omega, by omega, by go_num, rfl, hg2, HB2, HO2⟩
        case measure => simp [intOf]; omega
      | none =>
        have HCU : Hid (dskw.cur L C k = L k) := Lib.hid (by unfold dskw.cur; rw [hC]; rfl)
        rw [hC] at hlk
        simp only [Option.getD_none, Option.isSome_none] at hlk
        have HX := Lib.hid HRW.out.1
        have hZ := sec_zeros
        generalize zeros = Z at *
        have hst := store_cells hZ
        have hlen : (bv Z).length = 64 := by rw [bv_length]; exact hZ.1
        have hst2 := store_cells HX.out
        have hc0 := fun o1 => ((Only.refl (fun _ => False) wr).alloc o1).cell' c0 (fun f => f)
        have hlen2 : (bv (L k)).length = 64 := by rw [bv_length]; exact HX.out.1
        generalize L k = lk at *
        clear hC hZ
        unfold sec at hlk
        go_wp2_with (first | (refine wpList_load_mid rfl 109 (Operand.tmp 47) rfl bl (k * 64) rfl (bv lk) _ (World.rangeAt_alloc HRW.out.2.1 _) Try.underlying109 rfl (by rw [size_info, hlen2]) ?_) | (at_builtin; refine append_mine rfl _ _ 47 rfl 5 i0 (.int .u8 0) 1 1 Try.underlying47 hi hz0 hz1 hz2 rfl (by decide) (.slice (some ⟨g, 0, none⟩) ((k - f) * 64) cap) ((k - f) * 64) _ rfl (HOWN.out.alloc _) ⟨wr.heap.size, 0, none⟩ 64 64 (bv lk) rfl ?c1 ?c2 ?c3 ?c4 ?c5 ?_))
        case c1 => rw [bv_length]; exact (HX.out).1
        case c2 => exact cells_new wr HX.out _
        case c3 => exact bv_one _
        case c4 => unfold maxLen; omega
        case c5 => omega
        intro v2 w2 hown hgrow hkk
        have HA := Lib.hid (app_sec HB.out HX.out hown hgrow hkk (by unfold maxLen; have := HLN.out.1; have := HX.out.1; rw [List.length_append]; omega))
        obtain ⟨g2, c2, hv2, _⟩ := HA.out.1.form (by intro e; have := congrArg List.length e; rw [List.length_append, List.length_nil] at this; have := HX.out.1; omega)
        have hk3 : (k - f) * 64 + 64 = (k + 1 - f) * 64 := by omega
        rw [List.length_append, HLN.out.1, HX.out.1, hk3] at hv2
        rw [hv2] at HA ⊢
        have HB2 : Hid (OwnB w2 (.slice (some ⟨g2, 0, none⟩) ((k + 1 - f) * 64) c2) (secs (dskw.cur L C) f (k + 1 - f))) := Lib.hid (by
          have e : k + 1 - f = (k - f) + 1 := by omega
          have := HA.out.1
          rw [e, secs, show f + (k - f) = k by omega, HCU.out, ← e]
          exact this)
        have HO2 : Hid (Only (fun _ => False) w w2) := Lib.hid (HO.out.then HA.out.2.1 (fun i hi e => by have : some g = some i := e; injection this with this; omega))
        have hg2 : w.heap.size ≤ g2 := by
          rcases HA.out.2.2 g2 rfl with h1 | h1
          · have : some g = some g2 := h1
            injection this with this; omega
          · have := HO.out.size; omega
        clear hv2 hown hgrow hkk
        go_wp2_with fail
        go_roundw
        case rel => exact ⟨k + 1, g2, c2, by omega, by omega, by go_num, rfl, hg2, HB2, HO2⟩
        case measure => simp [intOf]; omega
    · obtain rfl : k = f + m := by omega
      have HF := HB.out
      rw [Nat.add_sub_cancel_left] at HF
      have HLN := Lib.hid (secs_len (f := dskw.cur L C) (first := f) (m := m) (fun i a b => HD.out.cur i (by omega)))
      have HFF := Lib.hid HF
      have hmm : f + m - f = m := by omega
      rw [hmm]
      clear HF hmm
      go_wp2_with fail
      refine bodyPost_ret (v := .tuple #[.slice (some ⟨g, 0, none⟩) (m * 64) cap, .int .i64 0]) (by simp [results, Try.results28, go_sem]) rfl ⟨g, cap, ?_, ?_, HO.out, hg⟩
      · rw [HLN.out.1]
      · rw [HLN.out.1]; exact HFF.out
end Go.Proofs.Ytcbpgplmphgcgaa.dskw
