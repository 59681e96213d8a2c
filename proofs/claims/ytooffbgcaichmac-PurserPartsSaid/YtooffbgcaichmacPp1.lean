/- The law through the layers 1 to 3: its walk. -/
import Derived.Test.YtooffbgcaichmacPp0
namespace Go.Proofs.Ytooffbgcaichmac.ppw
open Go.RowKit mem codw codm intm sumw ppc
open crcm (more)
set_option linter.unusedVariables false

theorem takes_in {l : List Int} (h : ∀ c ∈ l, -9223372036854775808 ≤ c ∧ c ≤ 9223372036854775807) (k : Nat) : ∀ c ∈ l.take k, -9223372036854775808 ≤ c ∧ c ≤ 9223372036854775807 := fun c hc => h c (List.mem_of_mem_take hc)

theorem wrap_u64_nonneg (a : Int) : 0 ≤ IntKind.u64.wrap a := by rw [IntKind.wrap_u64]; omega
theorem kmod (a : Int) (m : Nat) (h1 : 1 ≤ m) (h2 : m ≤ 297) : ∃ K : Nat, wrap64 ((IntKind.u64.wrap a).tmod (m : Int)) = (K : Int) ∧ K < m := by
  have h0 := wrap_u64_nonneg a
  rw [Int.tmod_eq_emod_of_nonneg h0]
  have h3 := Int.emod_nonneg (IntKind.u64.wrap a) (by omega : (m : Int) ≠ 0)
  have h4 := Int.emod_lt_of_pos (IntKind.u64.wrap a) (by omega : 0 < (m : Int))
  refine ⟨(IntKind.u64.wrap a % m).toNat, ?_, by omega⟩
  rw [wrap64_eq]
  omega

theorem reads_set {w : World} {g lB cB K cv : Nat} {l : List Nat} (h : w.ownsRow 0 5 1 (.slice (some ⟨g, 0, none⟩) lB cB) lB ((bv l).set K (.int .u8 (cv : Int)))) (hm : lB ≤ maxLen) (hl : l.length = lB) (hb : ∀ c ∈ l, c < 256) (hc : cv < 256) : Reads w (some ⟨g, 0, none⟩) lB (l.set K cv) := by
  have hl2 : (l.set K cv).length = lB := by rw [List.length_set]; exact hl
  have hO : OwnB w (.slice (some ⟨g, 0, none⟩) lB cB) (l.set K cv) := by
    refine ⟨?_, ?_, by omega⟩
    · rw [hl2, ← bv_set]; exact h
    · intro c hc'
      rcases List.mem_or_eq_of_mem_set hc' with h1 | h1
      · exact hb c h1
      · rw [h1]; exact hc
  exact hO.reads hl2.symm

theorem head_start (w : World) (t : TypeId) : HeadW w (w.alloc (.cells #[.slice none 0 0, .int .i64 0] t)) w.heap.size (.slice none 0 0) (.slice none 0 0) 0 [] :=
  ⟨World.ownsRow_nil _ _ _ _, new_writer w t, (Only.refl _ _).alloc _, Nat.le_refl _, fun b hb => (by cases hb), fun b hb => (by cases hb)⟩

set_option maxRecDepth 100000 in
set_option maxHeartbeats 4000000 in
theorem parts_walk (a : Option Addr) (len cap : Nat) (l : List Int) (at' : Int) (by' : Nat) (hby : by' < 256) (w : World) (h : IntsR w a len cap l) :
    Calls Try.prog 3 #[.slice a len cap, .int .i64 at', .int .u8 (by' : Int)] w fun e w' => e = .returned (.bool true) ∧ Below w.heap.size w w' := by
  obtain ⟨i0, hi, hz0, hz1, hz2⟩ := info_parts info_i64
  have H := Lib.hid h
  have hm := h.1.2.1
  unfold maxLen at hm
  have HBY := Lib.hid hby
  have HR := Lib.hid h.1.2.2.1
  have HL := Lib.hid h.1.1
  clear h hby
  have HS := Lib.hid (head_start w 27)
  go_enter Try.func3, Try.ntmps3
  go_wp2_with fail
  go_loopw [8, 9] (fun v1 i wr => ∃ (k : Nat) (vb : Value), k ≤ len ∧ k ≤ 20 ∧ i = .int .i64 k ∧ Hid (HeadW w wr w.heap.size v1 vb k (l.take k))) (fun _ i _ => 20 - (intOf i).toNat)
  case atStart => exact ⟨0, _, by omega, by omega, rfl, by simpa using HS⟩
  case round =>
    clear HS
    obtain ⟨k, vb, hk, hk2, rfl, HH⟩ := hrel
    by_cases h8 : k < len ∧ k < 20
    · obtain ⟨h8, h9⟩ := h8
      obtain ⟨b, off, rfl, hcell⟩ := H.out.1.2.2.2.resolve_left (by omega)
      have HC0 := Lib.hid (hcell k h8)
      have hcl := HH.out.only.cell' (hcell k h8) (fun f => f)
      have HX := Lib.hid (in_getD l HR.out k)
      have HIV := Lib.hid (iv_snoc l k (by rw [HL.out]; exact h8))
      have HBL := Lib.hid (encs_len (l.take k) (takes_in HR.out k))
      have HTL : Hid ((l.take k).length = k) := Lib.hid (by rw [List.length_take]; have := HL.out; omega)
      have HTK : Hid (l.take (k + 1) = l.take k ++ [l.getD k 0]) := Lib.hid (by rw [List.take_succ_eq_append_getElem (by rw [HL.out]; exact h8)]; simp [List.getD, HL.out, h8])
      generalize l.getD k 0 = x at *
      have hcl2 := fun o1 => ((Only.refl (fun _ => False) wr).alloc o1).cell' hcl (fun f => f)
      clear hcell
      go_wp2_with (first | (at_builtin; refine append_mine rfl _ _ 22 rfl 3 i0 (.int .i64 0) 1 8 Try.underlying22 hi hz0 hz1 hz2 rfl (by decide) _ k _ rfl (HH.out.row.alloc _) ⟨wr.heap.size, 0, none⟩ 1 1 [.int .i64 x] rfl rfl ?c1 ?c2 ?c3 ?c4 ?_))
      case c1 => exact one_cellI _ _ _
      case c2 => intro u hu; obtain rfl : u = Value.int .i64 x := by simpa using hu
                 rfl
      case c3 => unfold maxLen; omega
      case c4 => omega
      intro v2 w4 hown hgrow hkk
      have HA := Lib.hid (HH.out.app hgrow hkk)
      have HOW : Hid (w4.ownsRow 0 3 1 v2 (k + 1) (iv (l.take k ++ [x]))) := Lib.hid (by rw [← HTK.out, ← HIV.out]; exact hown)
      have hc4 := HA.out.2.1.cell' HC0.out (fun f => f)
      clear hown hgrow hkk hcl hcl2
      go_wp2_with fail
      refine (wint_any w.heap.size vb _ 0 x _ HX.out HA.out.1 (by have := HBL.out; have := HTL.out; omega)).mono ?_
      rintro e5 w5 ⟨rfl, hw5⟩
      obtain ⟨vb', hh5⟩ := HeadW.put HOW.out HA.out.2.1 (Nat.le_refl _) HH.out.hb HA.out.2.2 hw5
      have HH5 : Hid (HeadW w w5 w.heap.size v2 vb' (k + 1) (l.take (k + 1))) := Lib.hid (by rw [HTK.out]; exact hh5)
      clear hw5 hh5 hc4
      go_wp2_with fail
      go_roundw
      case rel => exact ⟨k + 1, vb', by omega, by omega, by go_num, HH5⟩
      case measure => simp [intOf]; omega
    · have hkl : k = min len 20 := by omega
      have HLK : Hid ((l.take k).length = k) := Lib.hid (by rw [List.length_take]; have := HL.out; omega)
      have HLI := Lib.hid (takes_in HR.out k)
      have HBL := Lib.hid (encs_len (l.take k) HLI.out)
      generalize l.take k = lk at *
      have hcond : ¬ (k < len) ∨ ¬ (k < 20) := by omega
      have HRO : Hid (∃ a cap, _ = Value.slice a k cap ∧ ReadsI wr a k lk) := Lib.hid (own_readsI HH.out.row (by unfold maxLen; omega) HLI.out)
      obtain ⟨a1, c1, hv1, hr1⟩ := HRO.out
      subst hv1
      have HI1 := Lib.hid hr1
      clear HRO hr1
      have hy : ¬ k < 20 ∨ ¬ k < len := by omega
      clear hkl hcond h8 hm
      by_cases hx : k < len
      · have hz : ¬ k < 20 := by omega
        clear hy
        go_wp2_with fail
        clear hx
        try clear hz
        refine (wbytes_any w.heap.size vb (encs lk) 0 _ HH.out.wrt (by have := HBL.out; have := HLK.out; omega)).mono ?_
        rintro e5 w5 ⟨vB, rfl, hB, hO5, hk5⟩
        obtain ⟨aB, lB, cB, hvB, hBy⟩ := bytes_of_own hB
        subst hvB
        have HOB := Lib.hid hB
        have HBY5 := Lib.hid hBy
        have HO5 := Lib.hid hO5
        have HKB := Lib.hid hk5
        clear hB hBy hO5 hk5
        go_wp2_with fail
        refine (stands_any _).mono ?_
        rintro e6 w6 ⟨rfl, hO6⟩
        have HO6 := Lib.hid (HO5.out.trans hO6)
        have HOB6 := Lib.hid (HOB.out.only hO6 (fun _ _ f => f))
        have HB6 := Lib.hid (HBY5.out.only hO6 (fun _ _ f => f))
        have HKB6 : Hid (∀ b, (Value.slice aB lB cB).ownBlock = some b → w.heap.size ≤ b) := Lib.hid (fun b hb => by have := HKB.out b hb; have := HH.out.only.size; omega)
        have HLB : Hid (lB ≤ 220) := Lib.hid (by have h1 := HBY5.out.1.1; have := HBL.out; have := HLK.out; omega)
        clear hO6 HO5 HOB HBY5 HKB
        go_wp2_with fail
        refine (read_any aB lB cB (encs lk) _ HB6.out (by have := HLB.out; omega)).mono ?_
        rintro e7 w7 ⟨pr, a2, len2, cap2, rfl, hRD, hO7, hpr, ha2⟩
        have HR0 : Hid (HeadR w6 w7 pr a2 len2 cap2 (encs (lk.drop 0)) (.slice none 0 0) 0 (lk.take 0)) := Lib.hid ⟨by simpa using hRD, World.ownsRow_nil _ _ _ _, hO7, hpr, fun x hx => (ha2 x hx).2, fun b hb => (by cases hb)⟩
        clear hRD hO7 hpr ha2
        go_wp2_with fail
        go_loopw [13, 14] (fun v3 i wr2 => ∃ (j : Nat) (a2 : Option Addr) (len2 cap2 : Nat), j ≤ k ∧ i = .int .i64 j ∧ Hid (HeadR w6 wr2 pr a2 len2 cap2 (encs (lk.drop j)) v3 j (lk.take j))) (fun _ i _ => k - (intOf i).toNat)
        case atStart => exact ⟨0, a2, len2, cap2, by omega, rfl, HR0⟩
        case round =>
          clear HR0
          obtain ⟨j, a3, len3, cap3, hj, rfl, HD⟩ := hrel
          by_cases hjk : j < k
          · have HX := Lib.hid (in_getD lk HLI.out j)
            have hdrop := encs_drop lk j (by rw [HLK.out]; exact hjk)
            have HTK : Hid (lk.take (j + 1) = lk.take j ++ [lk.getD j 0]) := Lib.hid (by rw [List.take_succ_eq_append_getElem (by rw [HLK.out]; exact hjk)]; simp [List.getD, HLK.out, hjk])
            have hrd := HD.out.rd
            rw [hdrop] at hrd
            have HRD := Lib.hid hrd
            clear hrd hdrop
            generalize lk.getD j 0 = x at *
            go_wp2_with fail
            refine (int_back pr a3 len3 cap3 x _ _ HX.out HRD.out).mono ?_
            rintro e8 w8 ⟨rfl, haf⟩
            have HAF := Lib.hid haf
            have hrow8 : w8.ownsRow 0 3 1 _ j (iv (lk.take j)) := owns_only haf.choose_spec.choose_spec.choose_spec.2.1 HD.out.row (fun b hb e => (HD.out.h3 b hb).2.1 e)
            have HR8 := Lib.hid hrow8
            clear haf hrow8
            go_wp2_with (first | (at_builtin; refine append_mine rfl _ _ 22 rfl 3 i0 (.int .i64 0) 1 8 Try.underlying22 hi hz0 hz1 hz2 rfl (by decide) _ j _ rfl (HR8.out.alloc _) ⟨w8.heap.size, 0, none⟩ 1 1 [.int .i64 x] rfl rfl ?d1 ?d2 ?d3 ?d4 ?_))
            case d1 => exact one_cellI _ _ _
            case d2 => intro u hu; obtain rfl : u = Value.int .i64 x := by simpa using hu
                       rfl
            case d3 => unfold maxLen; omega
            case d4 => omega
            intro v4 w9 hown hgrow hkk
            obtain ⟨a4, len4, cap4, h9⟩ := HD.out.next HAF.out hown hgrow hkk
            have H9 : Hid (HeadR w6 w9 pr a4 len4 cap4 (encs (lk.drop (j + 1))) v4 (j + 1) (lk.take (j + 1))) := Lib.hid (by rw [HTK.out]; exact h9)
            clear hown hgrow hkk h9
            go_wp2_with fail
            go_roundw
            case rel => exact ⟨j + 1, a4, len4, cap4, by omega, by go_num, H9⟩
            case measure => simp [intOf]; omega
          · obtain rfl : j = k := by omega
            have hD := HD.out
            rw [List.drop_of_length_le (by rw [HLK.out]; omega), List.take_of_length_le (by rw [HLK.out]; omega)] at hD
            have HE := Lib.hid hD
            clear hD HD
            obtain ⟨a5, c5, hv5, hr5⟩ := own_readsI HE.out.row (by unfold maxLen; omega) HLI.out
            subst hv5
            have HI5 := Lib.hid hr5
            have HOW := Lib.hid ((HH.out.only.trans HO6.out).trans HE.out.only)
            have HI6 := Lib.hid (HI1.out.only (HO6.out.trans HE.out.only) (fun _ _ f => f))
            have HB7 := Lib.hid (HB6.out.only HE.out.only (fun _ _ f => f))
            have HOB7 := Lib.hid (HOB6.out.only HE.out.only (fun _ _ f => f))
            clear hr5 HI1 HB6 HOB6 HO6
            go_wp2_with fail
            refine (asum_any _ _ _ lk _ HI6.out).mono ?_
            rintro e8 w8 ⟨rfl, rfl⟩
            go_wp2_with fail
            refine (asum_any _ _ _ lk _ HI5.out).mono ?_
            rintro e8 w8 ⟨rfl, rfl⟩
            go_wp2_with fail
            refine (end_any pr _ _ _ _ 0 _ HE.out.rd).mono ?_
            rintro e8 w8 ⟨rfl, rfl⟩
            rw [show rend (encs []) 0 = 0 from rfl]
            generalize intOr lk.sum = X
            generalize isInt lk.sum = B
            by_cases hb0 : lB = 0
            · subst hb0
              cases B
              all_goals
                go_wp2_with fail
                go_ret
                exact ⟨rfl, HOW.out.none⟩
            · by_cases hby0 : by' = 0
              · subst hby0
                cases B
                all_goals
                  go_wp2_with fail
                  go_ret
                  exact ⟨rfl, HOW.out.none⟩
              · have hln : (encs lk).length = lB := HB7.out.1.1
                obtain ⟨g, rfl, hg⟩ : ∃ g, aB = some ⟨g, 0, none⟩ ∧ w.heap.size ≤ g := by
                  rcases HOB7.out.forms with ⟨hv, _⟩ | ⟨g, c, hv, _⟩
                  · injection hv with h1 h2 h3; exact absurd h2 hb0
                  · injection hv with h1 h2 h3; exact ⟨g, h1, HKB6.out g (by rw [h1]; rfl)⟩
                obtain ⟨K, hK, hKl⟩ := kmod at' lB (by omega) (by have := HLB.out; omega)
                have HKL : Hid (K < lB) := Lib.hid (by omega)
                have hcell : wr.cell? ⟨g, K, none⟩ = some (.int .u8 (((encs lk).getD K 0 : Nat) : Int)) := by
                  obtain ⟨b, off, he, hc⟩ := HB7.out.1.2.2.2.resolve_left hb0
                  obtain ⟨rfl, rfl⟩ : g = b ∧ 0 = off := by simpa using he
                  have := hc K HKL.out
                  rwa [Nat.zero_add] at this
                have hfz : wr.frozen? ⟨g, K, none⟩ = false := by
                  have := HOB7.out.1
                  rw [hln] at this
                  exact this.frozenAt K
                have hxor := xor_byte (getD_lt (encs lk) HB7.out.1.2.2.1 K) HBY.out
                have HUN := Lib.hid (one_unlike (K := K) (d := by') HB7.out.1.2.2.1 (by rw [hln]; exact HKL.out) HBY.out hby0)
                have HST : Hid (∀ (o : Obj) (u : Value), ((wr.alloc o).setCell ⟨g, K, none⟩ u).ownsRow 0 5 1 (.slice (some ⟨g, 0, none⟩) lB cB) lB ((bv (encs lk)).set K u)) := Lib.hid (fun o u => by
                  have := HOB7.out.1
                  rw [hln] at this
                  exact ((this.alloc o).stored K u).1)
                have hlt8 : (encs lk).getD K 0 ^^^ by' < 256 := Nat.xor_lt_two_pow (n := 8) (getD_lt (encs lk) HB7.out.1.2.2.1 K) HBY.out
                have HGB : Hid (g < wr.heap.size) := Lib.hid (World.block_lt_of_cell? wr _ hcell)
                have HAL := Lib.hid HB7.out.1.2.2.1
                have HX8 := Lib.hid hlt8
                have HHG := Lib.hid hg
                clear hlt8 hg
                generalize hcv : (encs lk).getD K 0 ^^^ by' = cv at *
                have HCV := Lib.hid hcv
                clear hcv
                have hwl : IntKind.u64.wrap (lB : Int) = (lB : Int) := by rw [IntKind.wrap_u64]; have := HLB.out; omega
                generalize hc0 : (encs lk).getD K 0 = c0 at *
                have HC0' := Lib.hid hc0
                clear hc0
                have q1 : ((lB : Int) == 0) = false := by rw [beq_eq_false_iff_ne]; omega
                have q2 : ((by' : Int) == 0) = false := by rw [beq_eq_false_iff_ne]; omega
                cases B
                all_goals
                  go_wp2_with fail
                  refine (crcw.sum_any _ _ _ _ _ (parts_one HB7.out.1 _ rfl)).mono ?_
                  rintro e9 w9 ⟨rfl, rfl⟩
                  rw [sum_one]
                  have HR2 := Lib.hid (fun o => reads_set (cv := cv) (HST.out o _) (by unfold maxLen; have := HLB.out; omega) hln HAL.out HX8.out)
                  have hcA := fun o1 => ((Only.refl (fun _ => False) wr).alloc o1).cell' hcell (fun f => f)
                  have hfA := fun o1 => (((Only.refl (fun _ => False) wr).alloc o1).frozen (p := ⟨g, K, none⟩) HGB.out (fun f => f)).trans hfz
                  generalize hm1 : more 0 (encs lk) = m1 at *
                  go_wp2_with fail
                  refine (crcw.sum_any _ _ _ _ _ (parts_one (HR2.out _) _ (by rw [size_setCell, size_alloc]))).mono ?_
                  rintro e10 w10 ⟨rfl, rfl⟩
                  rw [sum_one]
                  have hne : more 0 ((encs lk).set K cv) ≠ m1 := fun e => HUN.out e.symm
                  generalize more 0 ((encs lk).set K cv) = m2 at *
                  have hq : ((m2 : Int) != (m1 : Int)) = true := by rw [bne_iff_ne]; omega
                  have HF := Lib.hid (((HOW.out.alloc (.cells #[.slice (some ⟨g, 0, none⟩) lB cB] 24)).setCell (p := ⟨g, K, none⟩) (.inr HHG.out) (.int .u8 (cv : Int))).alloc (.cells #[.slice (some ⟨g, 0, none⟩) lB cB] 24))
                  clear hne
                  go_wp2_with fail
                  go_ret
                  exact ⟨rfl, HF.out.none⟩
      · clear hy
        go_wp2_with fail
        clear hx
        try clear hz
        refine (wbytes_any w.heap.size vb (encs lk) 0 _ HH.out.wrt (by have := HBL.out; have := HLK.out; omega)).mono ?_
        rintro e5 w5 ⟨vB, rfl, hB, hO5, hk5⟩
        obtain ⟨aB, lB, cB, hvB, hBy⟩ := bytes_of_own hB
        subst hvB
        have HOB := Lib.hid hB
        have HBY5 := Lib.hid hBy
        have HO5 := Lib.hid hO5
        have HKB := Lib.hid hk5
        clear hB hBy hO5 hk5
        go_wp2_with fail
        refine (stands_any _).mono ?_
        rintro e6 w6 ⟨rfl, hO6⟩
        have HO6 := Lib.hid (HO5.out.trans hO6)
        have HOB6 := Lib.hid (HOB.out.only hO6 (fun _ _ f => f))
        have HB6 := Lib.hid (HBY5.out.only hO6 (fun _ _ f => f))
        have HKB6 : Hid (∀ b, (Value.slice aB lB cB).ownBlock = some b → w.heap.size ≤ b) := Lib.hid (fun b hb => by have := HKB.out b hb; have := HH.out.only.size; omega)
        have HLB : Hid (lB ≤ 220) := Lib.hid (by have h1 := HBY5.out.1.1; have := HBL.out; have := HLK.out; omega)
        clear hO6 HO5 HOB HBY5 HKB
        go_wp2_with fail
        refine (read_any aB lB cB (encs lk) _ HB6.out (by have := HLB.out; omega)).mono ?_
        rintro e7 w7 ⟨pr, a2, len2, cap2, rfl, hRD, hO7, hpr, ha2⟩
        have HR0 : Hid (HeadR w6 w7 pr a2 len2 cap2 (encs (lk.drop 0)) (.slice none 0 0) 0 (lk.take 0)) := Lib.hid ⟨by simpa using hRD, World.ownsRow_nil _ _ _ _, hO7, hpr, fun x hx => (ha2 x hx).2, fun b hb => (by cases hb)⟩
        clear hRD hO7 hpr ha2
        go_wp2_with fail
        go_loopw [13, 14] (fun v3 i wr2 => ∃ (j : Nat) (a2 : Option Addr) (len2 cap2 : Nat), j ≤ k ∧ i = .int .i64 j ∧ Hid (HeadR w6 wr2 pr a2 len2 cap2 (encs (lk.drop j)) v3 j (lk.take j))) (fun _ i _ => k - (intOf i).toNat)
        case atStart => exact ⟨0, a2, len2, cap2, by omega, rfl, HR0⟩
        case round =>
          clear HR0
          obtain ⟨j, a3, len3, cap3, hj, rfl, HD⟩ := hrel
          by_cases hjk : j < k
          · have HX := Lib.hid (in_getD lk HLI.out j)
            have hdrop := encs_drop lk j (by rw [HLK.out]; exact hjk)
            have HTK : Hid (lk.take (j + 1) = lk.take j ++ [lk.getD j 0]) := Lib.hid (by rw [List.take_succ_eq_append_getElem (by rw [HLK.out]; exact hjk)]; simp [List.getD, HLK.out, hjk])
            have hrd := HD.out.rd
            rw [hdrop] at hrd
            have HRD := Lib.hid hrd
            clear hrd hdrop
            generalize lk.getD j 0 = x at *
            go_wp2_with fail
            refine (int_back pr a3 len3 cap3 x _ _ HX.out HRD.out).mono ?_
            rintro e8 w8 ⟨rfl, haf⟩
            have HAF := Lib.hid haf
            have hrow8 : w8.ownsRow 0 3 1 _ j (iv (lk.take j)) := owns_only haf.choose_spec.choose_spec.choose_spec.2.1 HD.out.row (fun b hb e => (HD.out.h3 b hb).2.1 e)
            have HR8 := Lib.hid hrow8
            clear haf hrow8
            go_wp2_with (first | (at_builtin; refine append_mine rfl _ _ 22 rfl 3 i0 (.int .i64 0) 1 8 Try.underlying22 hi hz0 hz1 hz2 rfl (by decide) _ j _ rfl (HR8.out.alloc _) ⟨w8.heap.size, 0, none⟩ 1 1 [.int .i64 x] rfl rfl ?d1 ?d2 ?d3 ?d4 ?_))
            case d1 => exact one_cellI _ _ _
            case d2 => intro u hu; obtain rfl : u = Value.int .i64 x := by simpa using hu
                       rfl
            case d3 => unfold maxLen; omega
            case d4 => omega
            intro v4 w9 hown hgrow hkk
            obtain ⟨a4, len4, cap4, h9⟩ := HD.out.next HAF.out hown hgrow hkk
            have H9 : Hid (HeadR w6 w9 pr a4 len4 cap4 (encs (lk.drop (j + 1))) v4 (j + 1) (lk.take (j + 1))) := Lib.hid (by rw [HTK.out]; exact h9)
            clear hown hgrow hkk h9
            go_wp2_with fail
            go_roundw
            case rel => exact ⟨j + 1, a4, len4, cap4, by omega, by go_num, H9⟩
            case measure => simp [intOf]; omega
          · obtain rfl : j = k := by omega
            have hD := HD.out
            rw [List.drop_of_length_le (by rw [HLK.out]; omega), List.take_of_length_le (by rw [HLK.out]; omega)] at hD
            have HE := Lib.hid hD
            clear hD HD
            obtain ⟨a5, c5, hv5, hr5⟩ := own_readsI HE.out.row (by unfold maxLen; omega) HLI.out
            subst hv5
            have HI5 := Lib.hid hr5
            have HOW := Lib.hid ((HH.out.only.trans HO6.out).trans HE.out.only)
            have HI6 := Lib.hid (HI1.out.only (HO6.out.trans HE.out.only) (fun _ _ f => f))
            have HB7 := Lib.hid (HB6.out.only HE.out.only (fun _ _ f => f))
            have HOB7 := Lib.hid (HOB6.out.only HE.out.only (fun _ _ f => f))
            clear hr5 HI1 HB6 HOB6 HO6
            go_wp2_with fail
            refine (asum_any _ _ _ lk _ HI6.out).mono ?_
            rintro e8 w8 ⟨rfl, rfl⟩
            go_wp2_with fail
            refine (asum_any _ _ _ lk _ HI5.out).mono ?_
            rintro e8 w8 ⟨rfl, rfl⟩
            go_wp2_with fail
            refine (end_any pr _ _ _ _ 0 _ HE.out.rd).mono ?_
            rintro e8 w8 ⟨rfl, rfl⟩
            rw [show rend (encs []) 0 = 0 from rfl]
            generalize intOr lk.sum = X
            generalize isInt lk.sum = B
            by_cases hb0 : lB = 0
            · subst hb0
              cases B
              all_goals
                go_wp2_with fail
                go_ret
                exact ⟨rfl, HOW.out.none⟩
            · by_cases hby0 : by' = 0
              · subst hby0
                cases B
                all_goals
                  go_wp2_with fail
                  go_ret
                  exact ⟨rfl, HOW.out.none⟩
              · have hln : (encs lk).length = lB := HB7.out.1.1
                obtain ⟨g, rfl, hg⟩ : ∃ g, aB = some ⟨g, 0, none⟩ ∧ w.heap.size ≤ g := by
                  rcases HOB7.out.forms with ⟨hv, _⟩ | ⟨g, c, hv, _⟩
                  · injection hv with h1 h2 h3; exact absurd h2 hb0
                  · injection hv with h1 h2 h3; exact ⟨g, h1, HKB6.out g (by rw [h1]; rfl)⟩
                obtain ⟨K, hK, hKl⟩ := kmod at' lB (by omega) (by have := HLB.out; omega)
                have HKL : Hid (K < lB) := Lib.hid (by omega)
                have hcell : wr.cell? ⟨g, K, none⟩ = some (.int .u8 (((encs lk).getD K 0 : Nat) : Int)) := by
                  obtain ⟨b, off, he, hc⟩ := HB7.out.1.2.2.2.resolve_left hb0
                  obtain ⟨rfl, rfl⟩ : g = b ∧ 0 = off := by simpa using he
                  have := hc K HKL.out
                  rwa [Nat.zero_add] at this
                have hfz : wr.frozen? ⟨g, K, none⟩ = false := by
                  have := HOB7.out.1
                  rw [hln] at this
                  exact this.frozenAt K
                have hxor := xor_byte (getD_lt (encs lk) HB7.out.1.2.2.1 K) HBY.out
                have HUN := Lib.hid (one_unlike (K := K) (d := by') HB7.out.1.2.2.1 (by rw [hln]; exact HKL.out) HBY.out hby0)
                have HST : Hid (∀ (o : Obj) (u : Value), ((wr.alloc o).setCell ⟨g, K, none⟩ u).ownsRow 0 5 1 (.slice (some ⟨g, 0, none⟩) lB cB) lB ((bv (encs lk)).set K u)) := Lib.hid (fun o u => by
                  have := HOB7.out.1
                  rw [hln] at this
                  exact ((this.alloc o).stored K u).1)
                have hlt8 : (encs lk).getD K 0 ^^^ by' < 256 := Nat.xor_lt_two_pow (n := 8) (getD_lt (encs lk) HB7.out.1.2.2.1 K) HBY.out
                have HGB : Hid (g < wr.heap.size) := Lib.hid (World.block_lt_of_cell? wr _ hcell)
                have HAL := Lib.hid HB7.out.1.2.2.1
                have HX8 := Lib.hid hlt8
                have HHG := Lib.hid hg
                clear hlt8 hg
                generalize hcv : (encs lk).getD K 0 ^^^ by' = cv at *
                have HCV := Lib.hid hcv
                clear hcv
                have hwl : IntKind.u64.wrap (lB : Int) = (lB : Int) := by rw [IntKind.wrap_u64]; have := HLB.out; omega
                generalize hc0 : (encs lk).getD K 0 = c0 at *
                have HC0' := Lib.hid hc0
                clear hc0
                have q1 : ((lB : Int) == 0) = false := by rw [beq_eq_false_iff_ne]; omega
                have q2 : ((by' : Int) == 0) = false := by rw [beq_eq_false_iff_ne]; omega
                cases B
                all_goals
                  go_wp2_with fail
                  refine (crcw.sum_any _ _ _ _ _ (parts_one HB7.out.1 _ rfl)).mono ?_
                  rintro e9 w9 ⟨rfl, rfl⟩
                  rw [sum_one]
                  have HR2 := Lib.hid (fun o => reads_set (cv := cv) (HST.out o _) (by unfold maxLen; have := HLB.out; omega) hln HAL.out HX8.out)
                  have hcA := fun o1 => ((Only.refl (fun _ => False) wr).alloc o1).cell' hcell (fun f => f)
                  have hfA := fun o1 => (((Only.refl (fun _ => False) wr).alloc o1).frozen (p := ⟨g, K, none⟩) HGB.out (fun f => f)).trans hfz
                  generalize hm1 : more 0 (encs lk) = m1 at *
                  go_wp2_with fail
                  refine (crcw.sum_any _ _ _ _ _ (parts_one (HR2.out _) _ (by rw [size_setCell, size_alloc]))).mono ?_
                  rintro e10 w10 ⟨rfl, rfl⟩
                  rw [sum_one]
                  have hne : more 0 ((encs lk).set K cv) ≠ m1 := fun e => HUN.out e.symm
                  generalize more 0 ((encs lk).set K cv) = m2 at *
                  have hq : ((m2 : Int) != (m1 : Int)) = true := by rw [bne_iff_ne]; omega
                  have HF := Lib.hid (((HOW.out.alloc (.cells #[.slice (some ⟨g, 0, none⟩) lB cB] 24)).setCell (p := ⟨g, K, none⟩) (.inr HHG.out) (.int .u8 (cv : Int))).alloc (.cells #[.slice (some ⟨g, 0, none⟩) lB cB] 24))
                  clear hne
                  go_wp2_with fail
                  go_ret
                  exact ⟨rfl, HF.out.none⟩
end Go.Proofs.Ytooffbgcaichmac.ppw
