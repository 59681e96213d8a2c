/- Several texts together: CodGroups, CodRead, CodWrite, CodPut, CodInt, CodUint, CodKnown. -/
import Derived.Test.YthflglejhhebeaaMem
import Derived.Test.YthflglejhhebeaaZ1
import Derived.ScopeJumps
import Derived.WalkMore
import Derived.Outline
import Derived.Lib.SliceRun
import Derived.Deep.RegionWith
import Derived.Laws.BytesArg
namespace Go.Proofs.Ythflglejhhebeaa.codw
open Go.RowKit mem codm
set_option linter.unusedVariables false

theorem or_step {i c acc : Nat} (hi : i ≤ 9) (hc : c < 256) (ha : acc < 128 ^ i) (h : acc + c % 128 * 128 ^ i < 18446744073709551616) :
    bits .or .u64 (acc : Int) (IntKind.u64.wrap ((c : Int) % 128 * 2 ^ (7 * i))) = ((acc + c % 128 * 128 ^ i : Nat) : Int) := by
  have e : (c : Int) % 128 * 2 ^ (7 * i) = ((c % 128 * 128 ^ i : Nat) : Int) := by
    rw [show (128 : Nat) ^ i = 2 ^ (7 * i) by rw [Nat.pow_mul]]
    rw [Int.natCast_mul, Int.natCast_emod, Int.natCast_pow]; rfl
  rw [e, IntKind.wrap_u64, Int.emod_eq_of_lt (by omega) (by omega), u64_or_nat _ _ (by omega) (by omega)]
  have h2 := Nat.shiftLeft_add_eq_or_of_lt (b := acc) (i := 7 * i) (by rw [show (2 : Nat) ^ (7 * i) = 128 ^ i by rw [Nat.pow_mul]]; exact ha) (c % 128)
  rw [Nat.shiftLeft_eq, show (2 : Nat) ^ (7 * i) = 128 ^ i by rw [Nat.pow_mul]] at h2
  rw [Nat.or_comm, ← h2]
  congr 1
  omega

theorem or_zero {c : Nat} (hc : c < 256) : bits .or .u64 0 ((c : Int) % 128) = ((c % 128 : Nat) : Int) := by
  have h := u64_or_nat 0 (c % 128) (by omega) (by omega)
  rw [Nat.zero_or] at h
  rw [← h]; rfl

/-- what holds at each jump back to the label -/
def Round (M len : Nat) (cap : Nat) (a : Option Addr) (l : List Nat) (w : World) (a' : Act) (w' : World) : Prop :=
  ∃ (i acc : Nat) (u9 u10 u11 u12 u13 u14 u15 u16 u17 u18 u19 u20 u21 u22 u23 u24 u25 u26 u27 u28 u29 u30 u31 u32 u33 u34 u35 u36 u37 u38 u39 u40 u41 u42 u43 u44 : Value), a' = { tmps := #[.slice a len cap, .int .i64 (M : Int), undef, undef, .int .u64 0, .int .i64 0, .int .i64 0, .int .u64 (acc : Int), .int .i64 (i : Int), u9, u10, u11, u12, u13, u14, u15, u16, u17, u18, u19, u20, u21, u22, u23, u24, u25, u26, u27, u28, u29, u30, u31, u32, u33, u34, u35, u36, u37, u38, u39, u40, u41, u42, u43, u44, undef, undef, undef, undef, undef, undef, undef, undef], defers := [] } ∧ w' = w ∧ i ≤ len ∧ i ≤ M ∧ dec M l 0 0 = dec M (l.drop i) i acc ∧ acc < 128 ^ i ∧ 1 ≤ i

set_option maxRecDepth 100000 in
set_option maxHeartbeats 4000000 in
theorem groups_any (M : Nat) (hM : 9 ≤ M ∧ M ≤ 10) (a : Option Addr) (len cap : Nat) (l : List Nat) (w : World) (h : Reads w a len l) :
    Calls Try.prog 75 #[.slice a len cap, .int .i64 (M : Int)] w fun e w' =>
      e = .returned (.tuple #[.int .u64 ((dec M l 0 0).1 : Int), .int .i64 ((dec M l 0 0).2.1 : Int), .int .i64 ((dec M l 0 0).2.2 : Int)]) ∧ w = w' := by
  obtain ⟨hl, hm, hb, hc⟩ := h
  unfold maxLen at hm
  have HL := Lib.hid hl
  have HC := Lib.hid hc
  have HB := Lib.hid hb
  clear hl hc hb
  go_enter Try.func75, Try.ntmps75
  go_wp2
  refine wp_scope_jumps 0 (Round M len cap a l w) (fun a' _ => len - (intOf (a'.tmps.getD 8 undef)).toNat) rfl ?_ ?_
  · go_wp2
    go_step3
    by_cases hend : 0 = len
    · have hR : Hid (dec M l 0 0 = (0, 0, 3)) := Lib.hid (by rw [List.eq_nil_of_length_eq_zero (by rw [HL.out]; omega : l.length = 0), dec_nil])
      have ht : ((0 : Int) == (len : Int)) = true := by rw [beq_iff_eq]; omega
      go_wp2
      simp only [Exit.jump]
      go_ret3
      rw [hR.out]
      exact ⟨rfl, rfl⟩
    · have ht : ((0 : Int) == (len : Int)) = false := by rw [beq_eq_false_iff_ne]; omega
      obtain ⟨b, off, rfl, hcell⟩ := HC.out.resolve_left (by omega)
      have hcl := hcell 0 (by omega)
      rw [Nat.add_zero] at hcl
      have hclt := getD_lt l HB.out 0
      have hdrop : l.drop 0 = l.getD 0 0 :: l.drop (0 + 1) := by
        have h2 : 0 < l.length := by rw [HL.out]; omega
        rw [List.drop_eq_getElem_cons h2]; simp [List.getD, h2]
      obtain ⟨c, hcc⟩ : ∃ c, l.getD 0 0 = c := ⟨_, rfl⟩
      rw [hcc] at hcl hclt hdrop
      have HDR : Hid (dec M l 0 0 = dec M (c :: l.drop (0 + 1)) 0 0) := Lib.hid (by rw [← hdrop]; rfl)
      have HA : Hid (0 < 128 ^ 0) := Lib.hid (by omega)
      clear hcell hdrop hcc HC
      have hiM2 : ¬ 0 = M := by omega
      have hb1 : ((0 : Int) == (M : Int)) = false := by rw [beq_eq_false_iff_ne]; omega
      have h9 : ¬ (0 = 9 ∧ 1 < c % 128) := by omega
      have hi9 : 0 ≤ 9 := by omega
      have hfar : ¬ (0 = M ∨ (0 = 9 ∧ 1 < c % 128)) := by omega
      have hiM3 : 0 + 1 ≤ M := by omega
      have hx := acc_step (c := c) hi9 HA.out (by omega)
      have hal := acc_lt c HA.out
      have hor := or_zero hclt
      rw [Nat.zero_add, Nat.pow_zero, Nat.mul_one] at hx hal
      obtain ⟨X, HX⟩ : ∃ X, Hid (c % 128 = X) := ⟨_, Lib.hid rfl⟩
      rw [HX.out] at hx hor hal
      have hx64 := hx.1
      have HAL := Lib.hid hal
      clear hx hal HA
      have HF := Lib.hid hfar
      have H9 := Lib.hid h9
      clear hfar hiM2 h9
      by_cases hge : 128 ≤ c
      · have hR : Hid (dec M l 0 0 = dec M (l.drop (0 + 1)) (0 + 1) X) := Lib.hid (by rw [HDR.out, dec_more HF.out hge]; simp only [Nat.zero_add, Nat.pow_zero, Nat.mul_one, HX.out])
        clear HDR HF H9
        go_wp2_with fail
        go_step3
        refine ⟨rfl, 0 + 1, X, _, _, _, _, _, _, _, _, _, _, _, _, _, _, _, _, _, _, _, _, _, _, _, _, _, _, _, _, _, _, _, _, _, _, _, _, rfl, rfl, by omega, by omega, hR.out, HAL.out, by omega⟩
      · by_cases hz : c % 128 = 0 ∧ 0 < 0
        · have hR : Hid (dec M l 0 0 = (0, 0, 2)) := Lib.hid (by rw [HDR.out, dec_zero HF.out hge hz])
          exfalso; omega
        · have hR : Hid (dec M l 0 0 = (X, 0 + 1, 0)) := Lib.hid (by rw [HDR.out, dec_last HF.out hge hz]; simp only [Nat.zero_add, Nat.pow_zero, Nat.mul_one, HX.out])
          by_cases hz3 : c % 128 = 0
          · have hz2 : ((c : Int) % 128 == 0) = true := by rw [beq_iff_eq]; omega
            clear HDR HF H9 hz hz3
            go_wp2_with fail
            simp only [Exit.jump]
            go_ret3
            rw [hR.out]
            exact ⟨rfl, rfl⟩
          · have hz2 : ((c : Int) % 128 == 0) = false := by rw [beq_eq_false_iff_ne]; omega
            clear HDR HF H9 hz hz3
            go_wp2_with fail
            simp only [Exit.jump]
            go_ret3
            rw [hR.out]
            exact ⟨rfl, rfl⟩
  · rintro a' w' ⟨i, acc, u9, u10, u11, u12, u13, u14, u15, u16, u17, u18, u19, u20, u21, u22, u23, u24, u25, u26, u27, u28, u29, u30, u31, u32, u33, u34, u35, u36, u37, u38, u39, u40, u41, u42, u43, u44, rfl, rfl, hil, hiM, hD1, hD2, hi1⟩
    have HD := Lib.hid (And.intro hD1 hD2)
    clear hD1 hD2
    by_cases hend : i = len
    · have hR : Hid (dec M l 0 0 = (0, 0, 3)) := Lib.hid (by rw [HD.out.1, List.drop_eq_nil_of_le (by rw [HL.out]; omega), dec_nil])
      have ht : ((i : Int) == (len : Int)) = true := by rw [beq_iff_eq]; omega
      clear HD
      go_wp2
      simp only [Exit.jump]
      go_ret3
      rw [hR.out]
      exact ⟨rfl, rfl⟩
    · have ht : ((i : Int) == (len : Int)) = false := by rw [beq_eq_false_iff_ne]; omega
      obtain ⟨b, off, rfl, hcell⟩ := HC.out.resolve_left (by omega)
      have hcl := hcell i (by omega)
      have hclt := getD_lt l HB.out i
      have hdrop : l.drop i = l.getD i 0 :: l.drop (i + 1) := by
        have h2 : i < l.length := by rw [HL.out]; omega
        rw [List.drop_eq_getElem_cons h2]; simp [List.getD, h2]
      obtain ⟨c, hcc⟩ : ∃ c, l.getD i 0 = c := ⟨_, rfl⟩
      rw [hcc] at hcl hclt hdrop
      have HDR : Hid (dec M l 0 0 = dec M (c :: l.drop (i + 1)) i acc) := Lib.hid (by rw [HD.out.1, hdrop])
      have HA := Lib.hid HD.out.2
      clear hcell hdrop hcc HC HD
      by_cases hiM2 : i = M
      · have hR : Hid (dec M l 0 0 = (0, 0, 2)) := Lib.hid (by rw [HDR.out, dec_far (.inl hiM2)])
        have hb1 : ((i : Int) == (M : Int)) = true := by rw [beq_iff_eq]; omega
        clear hiM2 HDR
        go_wp2
        simp only [Exit.jump]
        go_ret3
        rw [hR.out]
        exact ⟨rfl, rfl⟩
      have hb1 : ((i : Int) == (M : Int)) = false := by rw [beq_eq_false_iff_ne]; omega
      by_cases h9 : i = 9 ∧ 1 < c % 128
      · have hR : Hid (dec M l 0 0 = (0, 0, 2)) := Lib.hid (by rw [HDR.out, dec_far (.inr h9)])
        have hb2 : ((i : Int) == 9) = true := by rw [beq_iff_eq]; omega
        have hb3 : decide ((1 : Int) < (c : Int) % 128) = true := by simp; omega
        clear h9 HDR
        go_wp2
        simp only [Exit.jump]
        go_ret3
        rw [hR.out]
        exact ⟨rfl, rfl⟩
      have hi9 : i ≤ 9 := by omega
      have hfar : ¬ (i = M ∨ (i = 9 ∧ 1 < c % 128)) := by omega
      have hiM3 : i + 1 ≤ M := by omega
      have hx := acc_step (c := c) hi9 HA.out (by omega)
      have hal := acc_lt c HA.out
      have hor := or_step hi9 hclt HA.out hx.1
      obtain ⟨X, HX⟩ : ∃ X, Hid (acc + c % 128 * 128 ^ i = X) := ⟨_, Lib.hid rfl⟩
      rw [HX.out] at hx hor hal
      have hx64 := hx.1
      have HAL := Lib.hid hal
      clear hx hal HA
      have HF := Lib.hid hfar
      have H9 := Lib.hid h9
      clear hfar hiM2 h9
      by_cases h99 : i = 9
      · have hb2 : ((i : Int) == 9) = true := by rw [beq_iff_eq]; omega
        have hb3 : decide ((1 : Int) < (c : Int) % 128) = false := by have := H9.out; simp; omega
        clear h99
        by_cases hge : 128 ≤ c
        · have hR : Hid (dec M l 0 0 = dec M (l.drop (i + 1)) (i + 1) X) := Lib.hid (by rw [HDR.out, dec_more HF.out hge, HX.out])
          clear HDR HF H9
          go_wp2_with fail
          go_step3
          refine ⟨rfl, ⟨i + 1, X, _, _, _, _, _, _, _, _, _, _, _, _, _, _, _, _, _, _, _, _, _, _, _, _, _, _, _, _, _, _, _, _, _, _, _, _, rfl, rfl, by omega, by omega, hR.out, HAL.out, by omega⟩, by simp [intOf]; omega⟩
        · by_cases hz : c % 128 = 0 ∧ 0 < i
          · have hR : Hid (dec M l 0 0 = (0, 0, 2)) := Lib.hid (by rw [HDR.out, dec_zero HF.out hge hz])
            have hz1 : ((c : Int) % 128 == 0) = true := by rw [beq_iff_eq]; omega
            have hz2 : (i : Int) + 1 > 1 := by omega
            clear HDR HF H9 hz
            go_wp2_with fail
            simp only [Exit.jump]
            go_ret3
            rw [hR.out]
            exact ⟨rfl, rfl⟩
          · have hR : Hid (dec M l 0 0 = (X, i + 1, 0)) := Lib.hid (by rw [HDR.out, dec_last HF.out hge hz, HX.out])
            rcases (by omega : ¬ c % 128 = 0 ∨ ¬ 0 < i) with hz1 | hz1
            · have hz2 : ((c : Int) % 128 == 0) = false := by rw [beq_eq_false_iff_ne]; omega
              clear HDR HF H9 hz hz1
              go_wp2_with fail
              simp only [Exit.jump]
              go_ret3
              rw [hR.out]
              exact ⟨rfl, rfl⟩
            · exfalso; omega
      · have hb2 : ((i : Int) == 9) = false := by rw [beq_eq_false_iff_ne]; omega
        clear h99
        by_cases hge : 128 ≤ c
        · have hR : Hid (dec M l 0 0 = dec M (l.drop (i + 1)) (i + 1) X) := Lib.hid (by rw [HDR.out, dec_more HF.out hge, HX.out])
          clear HDR HF H9
          go_wp2_with fail
          go_step3
          refine ⟨rfl, ⟨i + 1, X, _, _, _, _, _, _, _, _, _, _, _, _, _, _, _, _, _, _, _, _, _, _, _, _, _, _, _, _, _, _, _, _, _, _, _, _, rfl, rfl, by omega, by omega, hR.out, HAL.out, by omega⟩, by simp [intOf]; omega⟩
        · by_cases hz : c % 128 = 0 ∧ 0 < i
          · have hR : Hid (dec M l 0 0 = (0, 0, 2)) := Lib.hid (by rw [HDR.out, dec_zero HF.out hge hz])
            have hz1 : ((c : Int) % 128 == 0) = true := by rw [beq_iff_eq]; omega
            have hz2 : (i : Int) + 1 > 1 := by omega
            clear HDR HF H9 hz
            go_wp2_with fail
            simp only [Exit.jump]
            go_ret3
            rw [hR.out]
            exact ⟨rfl, rfl⟩
          · have hR : Hid (dec M l 0 0 = (X, i + 1, 0)) := Lib.hid (by rw [HDR.out, dec_last HF.out hge hz, HX.out])
            rcases (by omega : ¬ c % 128 = 0 ∨ ¬ 0 < i) with hz1 | hz1
            · have hz2 : ((c : Int) % 128 == 0) = false := by rw [beq_eq_false_iff_ne]; omega
              clear HDR HF H9 hz hz1
              go_wp2_with fail
              simp only [Exit.jump]
              go_ret3
              rw [hR.out]
              exact ⟨rfl, rfl⟩
            · exfalso; omega
end Go.Proofs.Ythflglejhhebeaa.codw

namespace Go.Proofs.Ythflglejhhebeaa.codw
open Go.RowKit mem codm
set_option linter.unusedVariables false

/-- a copy: new memory -/
theorem clone_any (a : Option Addr) (len cap : Nat) (l : List Nat) (w : World) (h : Bytes w a len cap l) (hmax : len ≤ 140737488355328) :
    Calls Try.prog 58 #[.slice a len cap] w fun e w' => ∃ v', e = .returned v' ∧ OwnB w' v' l ∧ Only (fun _ => False) w w' ∧ (∀ k, v'.ownBlock = some k → w.heap.size ≤ k) := by
  obtain ⟨hr, hlc, hcm, hn⟩ := h
  have he := fun (wx : World) => Lib.run_eql_slice_nil (P := Try.prog) wx 31 5 a len cap 0 0 Try.underlying31
  obtain ⟨i0, hi, hz0, hz1, hz2⟩ := info_parts info_u8
  rcases a with _ | x
  · have hc0 := hn rfl
    subst hc0
    have hl0 : len = 0 := by omega
    subst hl0
    obtain rfl : l = [] := List.eq_nil_of_length_eq_zero hr.1
    clear hn hr
    go_enter Try.func58, Try.ntmps58
    go_wp2
    go_ret
    exact ⟨_, rfl, OwnB.nil _, Only.refl _ _, fun k hk => by cases hk⟩
  · have HR := Lib.hid hr
    have hll := hr.1
    have HB := Lib.hid hr.2.2.1
    have hm := hr.2.1
    have HLL := Lib.hid hll
    clear hn hr hll
    unfold maxLen at hcm hm
    go_enter Try.func58, Try.ntmps58
    go_wp2_with (first | (at_builtin; refine append_mine rfl _ _ 31 rfl 5 i0 (.int .u8 0) 1 1 Try.underlying31 hi hz0 hz1 hz2 rfl (by decide) _ _ _ rfl (World.ownsRow_lit w #[] 0 (Nat.zero_le _) (by decide) rfl) x _ _ (bv l) rfl ?c1 ?c2 ?c3 ?c4 ?c5 ?_))
    case c1 => rw [bv_length, HLL.out, Nat.mul_one]
    case c2 => exact news_of_reads (HR.out.only ((Only.refl (fun _ => False) w).alloc _) (fun _ _ f => f))
    case c3 => exact bv_one l
    case c4 => unfold maxLen; omega
    case c5 => omega
    intro v' w1 hown hgrow hk
    have hO : Only (fun _ => False) w w1 := by
      have h1 := (Only.refl (fun k => some w.heap.size = some k) w).alloc (.cells #[] 5)
      have h2 := h1.then (Only.of_grown hgrow) (fun i hi' hh => hh)
      exact h2.mono (fun k hk' e => by simp at e; omega)
    have hB : OwnB w1 v' l := ⟨by rw [HLL.out]; simpa using hown, HB.out, by rw [HLL.out]; unfold maxLen; omega⟩
    have hK : ∀ k, v'.ownBlock = some k → w.heap.size ≤ k := fun k e => by
      rcases hk k e with h1 | h1
      · simp [Value.ownBlock] at h1; omega
      · omega
    clear hown hgrow hk
    go_wp2
    go_ret
    exact ⟨_, rfl, hB, hO, hK⟩

/-- a reader: what is left, and its error -/
structure RD (w : World) (p : Nat) (a : Option Addr) (len cap : Nat) (l : List Nat) (e : Nat) : Prop where
  c0 : w.cell? ⟨p, 0, none⟩ = some (.slice a len cap)
  c1 : w.cell? ⟨p, 1, none⟩ = some (.int .i64 (e : Int))
  f0 : w.frozen? ⟨p, 0, none⟩ = false
  f1 : w.frozen? ⟨p, 1, none⟩ = false
  reads : Reads w a len l
  lc : len ≤ cap
  cm : cap ≤ maxLen
  off : ∀ x, a = some x → x.block ≠ p

theorem RD.only {S : Nat → Prop} {w w' : World} {p : Nat} {a : Option Addr} {len cap e : Nat} {l : List Nat} (h : RD w p a len cap l e) (ho : Only S w w') (hp : ¬ S p) (ha : ∀ x, a = some x → ¬ S x.block) : RD w' p a len cap l e := by
  have hlt : p < w.heap.size := World.block_lt_of_cell? w _ h.c0
  exact ⟨ho.cell' h.c0 hp, ho.cell' h.c1 hp, (ho.frozen (p := ⟨p, 0, none⟩) hlt hp).trans h.f0, (ho.frozen (p := ⟨p, 1, none⟩) hlt hp).trans h.f1, h.reads.only ho ha, h.lc, h.cm, h.off⟩

theorem RD.err {w : World} {p : Nat} {a : Option Addr} {len cap e : Nat} {l : List Nat} (h : RD w p a len cap l e) (e' : Nat) : RD (w.setCell ⟨p, 1, none⟩ (.int .i64 (e' : Int))) p a len cap l e' := by
  have ho : Only (fun k => k = p) w (w.setCell ⟨p, 1, none⟩ (.int .i64 (e' : Int))) := Only.set _ w p 1 _ rfl
  exact ⟨by rw [cell_other (by simp)]; exact h.c0, cell_same h.c1, by rw [frozen_set]; exact h.f0, by rw [frozen_set]; exact h.f1,
    h.reads.only ho h.off, h.lc, h.cm, h.off⟩

theorem RD.left {w : World} {p : Nat} {a : Option Addr} {len cap e : Nat} {l : List Nat} (h : RD w p a len cap l e) {a' : Option Addr} {len' cap' : Nat} {l' : List Nat}
    (hr : Reads w a' len' l') (hl : len' ≤ cap') (hc : cap' ≤ maxLen) (ha : ∀ x, a' = some x → x.block ≠ p) : RD (w.setCell ⟨p, 0, none⟩ (.slice a' len' cap')) p a' len' cap' l' e := by
  have ho : Only (fun k => k = p) w (w.setCell ⟨p, 0, none⟩ (.slice a' len' cap')) := Only.set _ w p 0 _ rfl
  exact ⟨cell_same h.c0, by rw [cell_other (by simp)]; exact h.c1, by rw [frozen_set]; exact h.f0, by rw [frozen_set]; exact h.f1,
    hr.only ho ha, hl, hc, ha⟩

theorem Reads.drop {w : World} {b off len : Nat} {l : List Nat} (h : Reads w (some ⟨b, off, none⟩) len l) (s : Nat) (hs : s ≤ len) : Reads w (some ⟨b, off + s, none⟩) (len - s) (l.drop s) := by
  obtain ⟨hl, hm, hb, hc⟩ := h
  refine ⟨by simp; omega, by omega, fun c hc' => hb c (List.mem_of_mem_drop hc'), ?_⟩
  rcases hc with h0 | ⟨b', off', ha, hcell⟩
  · exact .inl (by omega)
  · obtain ⟨rfl, rfl⟩ : b = b' ∧ off = off' := by simpa using ha
    refine .inr ⟨b, off + s, rfl, fun i hi => ?_⟩
    rw [Nat.add_assoc, hcell (s + i) (by omega)]
    simp [List.getD]

/-- the same, where nothing is left: the address does not matter -/
theorem Reads.none_left {w : World} (a : Option Addr) : Reads w a 0 [] := ⟨rfl, by unfold maxLen; omega, by simp, .inl rfl⟩

theorem stopped_any (p : Nat) (a : Option Addr) (len cap : Nat) (l : List Nat) (e : Nat) (w : World) (h : RD w p a len cap l e) :
    Calls Try.prog 63 #[.pointer (some ⟨p, 0, none⟩)] w fun en w' => en = .returned (.bool ((e : Int) != 0)) ∧ w = w' := by
  have h1 := h.c1
  clear h
  go_enter Try.func63, Try.ntmps63
  go_wp2
  go_ret
  exact ⟨rfl, rfl⟩
end Go.Proofs.Ythflglejhhebeaa.codw

namespace Go.Proofs.Ythflglejhhebeaa.codw
open Go.RowKit mem codm
set_option linter.unusedVariables false

/-- a writer: all its bytes, and its error -/
structure WR (w : World) (p : Nat) (v : Value) (l : List Nat) (e : Nat) : Prop where
  c0 : w.cell? ⟨p, 0, none⟩ = some v
  c1 : w.cell? ⟨p, 1, none⟩ = some (.int .i64 (e : Int))
  f0 : w.frozen? ⟨p, 0, none⟩ = false
  f1 : w.frozen? ⟨p, 1, none⟩ = false
  own : OwnB w v l
  off : v.ownBlock ≠ some p

theorem WR.lt {w : World} {p : Nat} {v : Value} {l : List Nat} {e : Nat} (h : WR w p v l e) : p < w.heap.size := World.block_lt_of_cell? w _ h.c0

theorem WR.only {S : Nat → Prop} {w w' : World} {p : Nat} {v : Value} {l : List Nat} {e : Nat} (h : WR w p v l e) (ho : Only S w w') (hp : ¬ S p) (hv : ∀ k, v.ownBlock = some k → ¬ S k) : WR w' p v l e :=
  ⟨ho.cell' h.c0 hp, ho.cell' h.c1 hp, (ho.frozen (p := ⟨p, 0, none⟩) h.lt hp).trans h.f0, (ho.frozen (p := ⟨p, 1, none⟩) h.lt hp).trans h.f1, h.own.only ho hv, h.off⟩

/-- behind calls of a writer -/
def WAfter (p : Nat) (v : Value) (w w' : World) (l : List Nat) (e : Nat) : Prop :=
  ∃ v', WR w' p v' l e ∧ Only (fun k => k = p ∨ v.ownBlock = some k) w w' ∧ (∀ k, v'.ownBlock = some k → v.ownBlock = some k ∨ w.heap.size ≤ k)

theorem WAfter.refl {w : World} {p : Nat} {v : Value} {l : List Nat} {e : Nat} (h : WR w p v l e) : WAfter p v w w l e := ⟨v, h, Only.refl _ _, fun k hk => .inl hk⟩

theorem WAfter.trans {p : Nat} {v v1 : Value} {w w1 w2 : World} {l : List Nat} {e : Nat} (ho : Only (fun k => k = p ∨ v.ownBlock = some k) w w1)
    (hk : ∀ k, v1.ownBlock = some k → v.ownBlock = some k ∨ w.heap.size ≤ k) (h : WAfter p v1 w1 w2 l e) : WAfter p v w w2 l e := by
  obtain ⟨v2, h2, ho2, hk2⟩ := h
  refine ⟨v2, h2, ho.then ho2 ?_, ?_⟩
  · rintro i hi (rfl | hs)
    · exact .inl rfl
    · rcases hk i hs with h1 | h1
      · exact .inr h1
      · omega
  · intro k h1
    rcases hk2 k h1 with h3 | h3
    · exact hk k h3
    · have := ho.size; exact .inr (by omega)

theorem WR.append {w w2 : World} {p : Nat} {v v' : Value} {l r : List Nat} {e : Nat} (h : WR w p v l e) (ho : Only (fun k => v.ownBlock = some k) w w2) (hv : OwnB w2 v' (l ++ r))
    (hk : ∀ k, v'.ownBlock = some k → v.ownBlock = some k ∨ w.heap.size ≤ k) : WAfter p v w (w2.setCell ⟨p, 0, none⟩ v') (l ++ r) e := by
  have hlt := h.lt
  have hoff : v'.ownBlock ≠ some p := by
    intro hp
    rcases hk p hp with h1 | h1
    · exact h.off h1
    · omega
  have c0 := ho.cell' h.c0 h.off
  have c1 := ho.cell' h.c1 h.off
  have f0 := (ho.frozen (p := ⟨p, 0, none⟩) hlt h.off).trans h.f0
  have f1 := (ho.frozen (p := ⟨p, 1, none⟩) hlt h.off).trans h.f1
  refine ⟨v', ⟨cell_same c0, by rw [cell_other (by simp)]; exact c1, by rw [frozen_set]; exact f0, by rw [frozen_set]; exact f1, ?_, hoff⟩, ?_, hk⟩
  · refine hv.only (Only.set (fun k => k = p) w2 p 0 v' rfl) (fun k hk' e' => ?_)
    subst e'; exact hoff hk'
  · exact (ho.mono (fun k _ hs => .inr hs)).setCell (p := ⟨p, 0, none⟩) (.inl (.inl rfl)) v'

theorem or128 {m : Nat} : bits .or .u8 ((m : Int) % 256) 128 = ((m % 128 + 128 : Nat) : Int) := by
  have h := u8_or128_right ((m : Int) % 128) (by omega) (by omega)
  have h2 := u8_or_nat (m % 256) 128 (by omega) (by omega)
  have e : m % 256 ||| 128 = m % 128 + 128 := by
    have h3 : m % 256 < 256 := Nat.mod_lt _ (by omega)
    have h4 : (m % 256) % 128 = m % 128 := by omega
    rw [← h4]
    generalize m % 256 = x at h3
    have hx : x = 128 * (x / 128) + x % 128 := by omega
    rcases (by omega : x / 128 = 0 ∨ x / 128 = 1) with hd | hd
    · have h5 := Nat.shiftLeft_add_eq_or_of_lt (b := x) (i := 7) (by omega) 1
      rw [Nat.or_comm]
      have : (1 <<< 7 : Nat) = 128 := rfl
      rw [this] at h5
      rw [← h5]; omega
    · have h5 := Nat.shiftLeft_add_eq_or_of_lt (b := x % 128) (i := 7) (by omega) 1
      have : (1 <<< 7 : Nat) = 128 := rfl
      rw [this] at h5
      have h6 : x = 128 ||| x % 128 := by rw [← h5]; omega
      conv => lhs; rw [h6]
      rw [Nat.or_comm (128 ||| x % 128) 128, ← Nat.or_assoc, Nat.or_self, ← h5]; omega
  rw [e] at h2
  rw [← h2]; rfl

theorem one_cell (w : World) (c : Nat) (t : TypeId) : ∀ j u, (bv [c])[j]? = some u → (w.alloc (.cells #[.int .u8 ((c : Nat) : Int)] t)).cell? ((Addr.mk w.heap.size 0 none).add j) = some u := by
  intro j u hu
  match j, hu with
  | 0, hu => simp [bv] at hu; subst hu; rw [add_none]; simp
  | j + 1, hu => simp [bv] at hu

/-- what an append to a row of bytes gives, behind the literal's own block -/
theorem app_facts {w w2 : World} {v v2 : Value} {l r : List Nat} {o : Obj} (h : OwnB w v l) (hown : w2.ownsRow 0 5 1 v2 (l.length + r.length) (bv l ++ bv r)) (hgrow : (w.alloc o).grownBy w2 v.ownBlock)
    (hk : ∀ k, v2.ownBlock = some k → v.ownBlock = some k ∨ w.heap.size + 1 ≤ k) (hr : ∀ c ∈ r, c < 256) (hm : (l ++ r).length ≤ maxLen) :
    OwnB w2 v2 (l ++ r) ∧ Only (fun k => v.ownBlock = some k) w w2 ∧ (∀ k, v2.ownBlock = some k → v.ownBlock = some k ∨ w.heap.size ≤ k) := by
  refine ⟨⟨by rw [List.length_append, bv_append]; exact hown, ?_, hm⟩, ?_, ?_⟩
  · intro c hc
    rcases List.mem_append.1 hc with h1 | h1
    · exact h.2.1 c h1
    · exact hr c h1
  · exact ((Only.refl (fun k => v.ownBlock = some k) w).alloc o).then (Only.of_grown hgrow) (fun i _ hi => hi)
  · intro k h1
    rcases hk k h1 with h2 | h2
    · exact .inl h2
    · exact .inr (by omega)

set_option maxRecDepth 100000 in
set_option maxHeartbeats 1000000 in
theorem put_any (p : Nat) (v : Value) (l : List Nat) (e n : Nat) (w : World) (hn : n < 18446744073709551616) (h : WR w p v l e) (hlen : l.length ≤ 70368744177664) :
    Calls Try.prog 56 #[.pointer (some ⟨p, 0, none⟩), .int .u64 (n : Int)] w fun en w' => en = .returned (.tuple #[]) ∧ WAfter p v w w' (l ++ enc n) e := by
  obtain ⟨i0, hi, hz0, hz1, hz2⟩ := info_parts info_u8
  have HH := Lib.hid h
  clear h
  go_enter Try.func56, Try.ntmps56
  go_wp2
  go_loopw [1] (fun x wr => ∃ f m pre v1, x = .int .u64 ((m : Nat) : Int) ∧ m < 128 ^ (f + 1) ∧ m < 18446744073709551616 ∧ Hid (l ++ enc n = pre ++ encF f m) ∧ Hid (WR wr p v1 pre e) ∧ Hid (Only (fun k => k = p ∨ v.ownBlock = some k) w wr)
      ∧ Hid (∀ k, v1.ownBlock = some k → v.ownBlock = some k ∨ w.heap.size ≤ k) ∧ pre.length + f ≤ 70368744177674) (fun x _ => (intOf x).toNat)
  case atStart => exact ⟨10, n, l, v, rfl, by omega, hn, Lib.hid rfl, HH, Lib.hid (Only.refl _ _), Lib.hid (fun k hk => .inl hk), by omega⟩
  case round =>
    obtain ⟨f, m, pre, v1, rfl, hmf, hm64, HE, HW, HO, HK, hpl⟩ := hrel
    have c0 := HW.out.c0
    have f0 := HW.out.f0
    have hol := HW.out.own.2.2
    unfold maxLen at hol
    by_cases h128 : m < 128
    · have hcv : (m : Int) % 256 = (m : Int) := by omega
      have HS := Lib.hid (encF_small f m h128)
      go_wp2_with (first | (at_builtin; refine append_mine rfl _ _ 31 rfl 5 i0 (.int .u8 0) 1 1 Try.underlying31 hi hz0 hz1 hz2 rfl (by decide) v1 pre.length (bv pre) rfl (HW.out.own.only ((Only.refl (fun _ => False) wr).alloc _) (fun _ _ f => f)).1 ⟨wr.heap.size, 0, none⟩ 1 1 (bv [m]) rfl rfl ?c1 ?c2 ?c3 ?c4 ?_))
      case c1 => exact one_cell _ _ _
      case c2 => exact bv_one _
      case c3 => unfold maxLen; omega
      case c4 => omega
      intro v2 w2 hown hgrow hk
      have HA := Lib.hid (app_facts HW.out.own (r := [m]) hown hgrow hk (by intro d hd; simp at hd; omega) (by unfold maxLen; simp; omega))
      have hform := HA.out.1.form (by simp)
      obtain ⟨g2, c2, hv2, _⟩ := hform
      rw [List.length_append, List.length_singleton] at hv2
      rw [hv2] at HA ⊢
      clear hv2 hown hgrow hk
      have c02 := HA.out.2.1.cell' HW.out.c0 HW.out.off
      have f02 := (HA.out.2.1.frozen (p := ⟨p, 0, none⟩) HW.out.lt HW.out.off).trans HW.out.f0
      have HWA := Lib.hid (HW.out.append HA.out.2.1 HA.out.1 HA.out.2.2)
      clear c0 f0 hcv
      go_wp2
      go_end0
      refine ⟨rfl, ?_⟩
      rw [HE.out, HS.out]
      exact WAfter.trans HO.out HK.out HWA.out
    · have hor := or128 (m := m)
      obtain ⟨f, rfl⟩ : ∃ f', f = f' + 1 := ⟨f - 1, by
        rcases Nat.eq_zero_or_pos f with h0 | h0
        · subst h0; simp at hmf; omega
        · omega⟩
      have HS := Lib.hid (encF_step f m h128)
      have hdiv : m / 128 < 128 ^ (f + 1) := by rw [Nat.div_lt_iff_lt_mul (by omega)]; rw [Nat.pow_succ] at hmf; exact hmf
      have HDIV := Lib.hid hdiv
      clear hmf hdiv
      go_wp2_with (first | (at_builtin; refine append_mine rfl _ _ 31 rfl 5 i0 (.int .u8 0) 1 1 Try.underlying31 hi hz0 hz1 hz2 rfl (by decide) v1 pre.length (bv pre) rfl (HW.out.own.only ((Only.refl (fun _ => False) wr).alloc _) (fun _ _ f => f)).1 ⟨wr.heap.size, 0, none⟩ 1 1 (bv [m % 128 + 128]) rfl rfl ?d1 ?d2 ?d3 ?d4 ?_))
      case d1 => exact one_cell _ _ _
      case d2 => exact bv_one _
      case d3 => unfold maxLen; omega
      case d4 => omega
      intro v2 w2 hown hgrow hk
      have HA := Lib.hid (app_facts HW.out.own (r := [m % 128 + 128]) hown hgrow hk (by intro d hd; simp at hd; omega) (by unfold maxLen; simp; omega))
      have hform := HA.out.1.form (by simp)
      obtain ⟨g2, c2, hv2, _⟩ := hform
      rw [List.length_append, List.length_singleton] at hv2
      rw [hv2] at HA ⊢
      clear hv2 hown hgrow hk
      have c02 := HA.out.2.1.cell' HW.out.c0 HW.out.off
      have f02 := (HA.out.2.1.frozen (p := ⟨p, 0, none⟩) HW.out.lt HW.out.off).trans HW.out.f0
      have HWA := Lib.hid (HW.out.append HA.out.2.1 HA.out.1 HA.out.2.2)
      clear c0 f0 hor
      go_wp2
      obtain ⟨v3, HW3, HO3, HK3⟩ := WAfter.trans HO.out HK.out HWA.out
      go_roundw
      case rel => exact ⟨f, m / 128, pre ++ [m % 128 + 128], v3, by go_num, HDIV.out, by omega, Lib.hid (by rw [HE.out, HS.out]; simp), Lib.hid HW3, Lib.hid HO3, Lib.hid HK3, by simp; omega⟩
      case measure => simp [intOf]; omega
end Go.Proofs.Ythflglejhhebeaa.codw

namespace Go.Proofs.Ythflglejhhebeaa.codw
open Go.RowKit mem codm
set_option linter.unusedVariables false

theorem put_int (p : Nat) (v : Value) (l : List Nat) (e : Nat) (x : Int) (w : World) (h0 : 0 ≤ x) (hn : x < 18446744073709551616) (h : WR w p v l e) (hlen : l.length ≤ 70368744177664) :
    Calls Try.prog 56 #[.pointer (some ⟨p, 0, none⟩), .int .u64 x] w fun en w' => en = .returned (.tuple #[]) ∧ WAfter p v w w' (l ++ enc x.toNat) e := by
  obtain ⟨n, rfl⟩ := Int.eq_ofNat_of_zero_le h0
  exact put_any p v l e n w (by omega) h hlen

theorem WR.err {w : World} {p : Nat} {v : Value} {l : List Nat} {e : Nat} (h : WR w p v l e) (e' : Nat) : WAfter p v w (w.setCell ⟨p, 1, none⟩ (.int .i64 (e' : Int))) l e' := by
  have ho : Only (fun k => k = p) w (w.setCell ⟨p, 1, none⟩ (.int .i64 (e' : Int))) := Only.set _ w p 1 _ rfl
  exact ⟨v, ⟨by rw [cell_other (by simp)]; exact h.c0, cell_same h.c1, by rw [frozen_set]; exact h.f0, by rw [frozen_set]; exact h.f1, h.own.only ho (fun k hk e => by subst e; exact h.off hk), h.off⟩,
    ho.mono (fun k _ hk => .inl hk), fun k hk => .inl hk⟩

set_option maxRecDepth 100000 in
theorem wuint_any (p : Nat) (v : Value) (l : List Nat) (e : Nat) (n : Int) (w : World) (h0 : 0 ≤ n) (hn : n ≤ 9223372036854775807) (h : WR w p v l e) (hlen : l.length ≤ 70368744177664) :
    Calls Try.prog 26 #[.pointer (some ⟨p, 0, none⟩), .int .i64 n] w fun en w' => en = .returned (.tuple #[]) ∧ WAfter p v w w' (l ++ enc n.toNat) e := by
  have HH := Lib.hid h
  clear h
  go_enter Try.func26, Try.ntmps26
  go_wp2_with fail
  refine (put_int p v l e _ _ (by omega) (by omega) HH.out hlen).mono ?_
  rintro e1 w1 ⟨rfl, hw⟩
  have HW := Lib.hid hw
  clear hw
  go_wp2
  go_end0
  exact ⟨rfl, HW.out⟩

set_option maxRecDepth 100000 in
theorem wuint_below (p : Nat) (v : Value) (l : List Nat) (e : Nat) (n : Int) (w : World) (h0 : n < 0) (h : WR w p v l e) :
    Calls Try.prog 26 #[.pointer (some ⟨p, 0, none⟩), .int .i64 n] w fun en w' => en = .returned (.tuple #[]) ∧ WAfter p v w w' l 1 := by
  have c1 := h.c1
  have f1 := h.f1
  have HH := Lib.hid h
  clear h
  go_enter Try.func26, Try.ntmps26
  go_wp2
  exact bodyPost_ret (v := .tuple #[]) (by simp [results, Try.results26, go_sem]) rfl ⟨rfl, HH.out.err 1⟩

theorem bytes_of_own {w : World} {v : Value} {l : List Nat} (h : OwnB w v l) : ∃ a len cap, v = .slice a len cap ∧ Bytes w a len cap l := by
  rcases h.forms with ⟨hv, hl⟩ | ⟨g, cap, hv, hg, hc, hm⟩
  · subst hl
    exact ⟨none, 0, 0, hv, ⟨rfl, by unfold maxLen; omega, by simp, .inl rfl⟩, Nat.le_refl _, by unfold maxLen; omega, fun _ => rfl⟩
  · subst hv
    exact ⟨_, _, _, rfl, h.reads rfl, hc, hm, fun f => by cases f⟩

set_option maxRecDepth 100000 in
set_option maxHeartbeats 1000000 in
theorem wbytes_any (p : Nat) (v : Value) (l : List Nat) (e : Nat) (w : World) (h : WR w p v l e) (hlen : l.length ≤ 140737488355328) :
    Calls Try.prog 28 #[.pointer (some ⟨p, 0, none⟩)] w fun en w' => ∃ v', en = .returned (.tuple #[v', .int .i64 (e : Int)]) ∧ OwnB w' v' l ∧ Only (fun _ => False) w w' ∧ (∀ k, v'.ownBlock = some k → w.heap.size ≤ k) := by
  obtain ⟨a, len, cap, rfl, hB⟩ := bytes_of_own h.own
  have c0 := h.c0
  have c1 := h.c1
  have hll : len ≤ 140737488355328 := by have := hB.1.1; omega
  have HB := Lib.hid hB
  clear h hB
  go_enter Try.func28, Try.ntmps28
  go_wp2_with fail
  go_region_with ((go_at_call 58; refine (clone_any _ _ _ _ _ (by first | exact HB.out | exact Bytes.drew HB.out) hll).mono ?_; rintro e1 w1 ⟨v1, rfl, hv1, ho1, hk1⟩; have c12 := ho1.cell' c1 (fun f => f)))
  all_goals
    have hk2 : ∀ k, v1.ownBlock = some k → w.heap.size ≤ k := hk1
    have ho2 : Only (fun _ => False) w w1 := ((Only.refl (fun _ => False) w).drew).trans ho1
    clear hk1 ho1
    go_wp2
    go_ret2
    exact ⟨v1, rfl, hv1, ho2, hk2⟩
end Go.Proofs.Ythflglejhhebeaa.codw

namespace Go.Proofs.Ythflglejhhebeaa.codw
open Go.RowKit mem codm
set_option linter.unusedVariables false

/-- the same row of bytes, or a later part of it: in the same block -/
def Later (a a' : Option Addr) : Prop := ∀ x, a' = some x → ∃ y, a = some y ∧ y.block = x.block

theorem Later.refl (a : Option Addr) : Later a a := fun x h => ⟨x, h, rfl⟩

theorem groups_10 (a : Option Addr) (len cap : Nat) (l : List Nat) (w : World) (h : Reads w a len l) :
    Calls Try.prog 75 #[.slice a len cap, .int .i64 10] w fun e w' =>
      e = .returned (.tuple #[.int .u64 ((dec 10 l 0 0).1 : Int), .int .i64 ((dec 10 l 0 0).2.1 : Int), .int .i64 ((dec 10 l 0 0).2.2 : Int)]) ∧ w = w' :=
  groups_any 10 (by omega) a len cap l w h
theorem groups_9 (a : Option Addr) (len cap : Nat) (l : List Nat) (w : World) (h : Reads w a len l) :
    Calls Try.prog 75 #[.slice a len cap, .int .i64 9] w fun e w' =>
      e = .returned (.tuple #[.int .u64 ((dec 9 l 0 0).1 : Int), .int .i64 ((dec 9 l 0 0).2.1 : Int), .int .i64 ((dec 9 l 0 0).2.2 : Int)]) ∧ w = w' :=
  groups_any 9 (by omega) a len cap l w h

/-- what Int answers, what is left, the error -/
def rint (l : List Nat) (e : Nat) : Int × List Nat × Nat :=
  if e = 0 then (if (dec 10 l 0 0).2.2 = 0 then (zag (dec 10 l 0 0).1, l.drop (dec 10 l 0 0).2.1, 0) else (0, l, (dec 10 l 0 0).2.2)) else (0, l, e)

/-- behind a reader's call -/
def After (p : Nat) (a : Option Addr) (w w' : World) (l : List Nat) (e : Nat) : Prop :=
  ∃ a' len' cap', RD w' p a' len' cap' l e ∧ Only (fun k => k = p) w w' ∧ Later a a'

end Go.Proofs.Ythflglejhhebeaa.codw

namespace Go.Proofs.Ythflglejhhebeaa.codw
open Go.RowKit mem codm
set_option linter.unusedVariables false

/-- what count answers -/
def dcount (l : List Nat) (most : Int) : Nat × Nat × Nat :=
  if (dec 9 l 0 0).2.2 = 0 then (if most < ((dec 9 l 0 0).1 : Int) then (0, 0, 5) else dec 9 l 0 0) else (0, 0, (dec 9 l 0 0).2.2)

set_option maxRecDepth 100000 in
set_option maxHeartbeats 1000000 in
theorem count_any (a : Option Addr) (len cap : Nat) (l : List Nat) (most : Int) (w : World) (h : Reads w a len l) :
    Calls Try.prog 64 #[.slice a len cap, .int .i64 most] w fun e w' =>
      e = .returned (.tuple #[.int .i64 ((dcount l most).1 : Int), .int .i64 ((dcount l most).2.1 : Int), .int .i64 ((dcount l most).2.2 : Int)]) ∧ w = w' := by
  obtain ⟨n, s, er, hd⟩ : ∃ n s er, dec 9 l 0 0 = (n, s, er) := ⟨_, _, _, rfl⟩
  have HD := Lib.hid hd
  have HH := Lib.hid h
  by_cases her : er = 0
  · subst her
    obtain ⟨_, hsl, _, hn9, hs9⟩ := enc_dec (by omega : (9 : Nat) ≤ 10) h.2.2.1 hd
    have hn63 : n < 9223372036854775808 := by
      have h1 := hn9 (by omega)
      have h2 : 128 ^ s ≤ 128 ^ 9 := Nat.pow_le_pow_right (by omega) (by omega)
      omega
    have hlen := h.2.1
    have hll := h.1
    have hs : s ≤ 9 := by omega
    clear hn9 h hlen hsl hll
    by_cases hm : most < (n : Int)
    · have hR : Hid (dcount l most = (0, 0, 5)) := Lib.hid (by unfold dcount; rw [hd]; simp [hm])
      clear hd
      go_enter Try.func64, Try.ntmps64
      go_wp2_with fail
      refine (groups_9 _ _ _ _ _ HH.out).mono ?_
      rintro e1 w1 ⟨rfl, rfl⟩
      rw [HD.out]
      go_wp2_with fail
      go_ret3
      rw [hR.out]
      exact ⟨rfl, rfl⟩
    · have hR : Hid (dcount l most = (n, s, 0)) := Lib.hid (by unfold dcount; rw [hd]; simp [hm])
      clear hd
      go_enter Try.func64, Try.ntmps64
      go_wp2_with fail
      refine (groups_9 _ _ _ _ _ HH.out).mono ?_
      rintro e1 w1 ⟨rfl, rfl⟩
      rw [HD.out]
      go_wp2_with fail
      go_ret3
      rw [hR.out]
      exact ⟨rfl, rfl⟩
  · have hR : Hid (dcount l most = (0, 0, er)) := Lib.hid (by unfold dcount; rw [hd]; simp [her])
    have hne : ((er : Int) != 0) = true := by rw [bne_iff_ne]; omega
    clear h hd her
    go_enter Try.func64, Try.ntmps64
    go_wp2_with fail
    refine (groups_9 _ _ _ _ _ HH.out).mono ?_
    rintro e1 w1 ⟨rfl, rfl⟩
    rw [HD.out]
    go_wp2_with fail
    go_ret3
    rw [hR.out]
    exact ⟨rfl, rfl⟩

theorem dcount_ok {l : List Nat} {most : Int} {n s : Nat} (hl : ∀ c ∈ l, c < 256) (h : dcount l most = (n, s, 0)) : dec 9 l 0 0 = (n, s, 0) ∧ (n : Int) ≤ most ∧ 1 ≤ s ∧ s ≤ l.length ∧ n < 9223372036854775808 ∧ s ≤ 9 ∧ enc n = l.take s := by
  unfold dcount at h
  by_cases h0 : (dec 9 l 0 0).2.2 = 0
  · rw [if_pos h0] at h
    by_cases h1 : most < ((dec 9 l 0 0).1 : Int)
    · rw [if_pos h1] at h; simp at h
    · rw [if_neg h1] at h
      obtain ⟨henc, hsl, _, hn9, hs9⟩ := enc_dec (by omega : (9 : Nat) ≤ 10) hl h
      rw [h] at h1
      refine ⟨h, by simp at h1; omega, ?_, hsl, ?_, hs9, henc⟩
      · rcases Nat.lt_or_ge 0 s with h2 | h2
        · exact h2
        · obtain rfl : s = 0 := by omega
          have := (enc_length n).2
          rw [henc] at this; simp at this
      · have h1 := hn9 (by omega)
        have h2 : 128 ^ s ≤ 128 ^ 9 := Nat.pow_le_pow_right (by omega) (by omega)
        omega
  · rw [if_neg h0] at h; simp at h; exact absurd h.2.2 h0

theorem dcount_err {l : List Nat} {most : Int} (h : (dcount l most).2.2 ≠ 0) : (dcount l most).1 = 0 ∧ (dcount l most).2.1 = 0 := by
  unfold dcount at h ⊢
  by_cases h0 : (dec 9 l 0 0).2.2 = 0
  · rw [if_pos h0] at h ⊢
    by_cases h1 : most < ((dec 9 l 0 0).1 : Int)
    · rw [if_pos h1]; exact ⟨rfl, rfl⟩
    · rw [if_neg h1] at h; exact absurd h0 h
  · rw [if_neg h0]; exact ⟨rfl, rfl⟩

/-- what Uint answers, what is left, the error -/
def runt (l : List Nat) (most : Int) (e : Nat) : Nat × List Nat × Nat :=
  if e = 0 then (if (dcount l most).2.2 = 0 then ((dcount l most).1, l.drop (dcount l most).2.1, 0) else (0, l, (dcount l most).2.2)) else (0, l, e)

set_option maxRecDepth 100000 in
set_option maxHeartbeats 1000000 in
theorem uint_any (p : Nat) (a : Option Addr) (len cap : Nat) (l : List Nat) (e : Nat) (most : Int) (w : World) (h : RD w p a len cap l e) :
    Calls Try.prog 43 #[.pointer (some ⟨p, 0, none⟩), .int .i64 most] w fun en w' => en = .returned (.int .i64 ((runt l most e).1 : Int)) ∧ After p a w w' (runt l most e).2.1 (runt l most e).2.2 := by
  by_cases he : e = 0
  · subst he
    obtain ⟨n, s, er, hd⟩ : ∃ n s er, dcount l most = (n, s, er) := ⟨_, _, _, rfl⟩
    have HD := Lib.hid hd
    by_cases her : er = 0
    · subst her
      have hR : Hid (runt l most 0 = (n, l.drop s, 0)) := Lib.hid (by unfold runt; rw [if_pos rfl, hd, if_pos rfl])
      obtain ⟨_, _, hs1, hsl, hn63, _, _⟩ := dcount_ok h.reads.2.2.1 hd
      have hlen := h.reads.1
      obtain ⟨b, off, rfl, _⟩ := h.reads.2.2.2.resolve_left (by omega)
      have hsl2 : s ≤ len := by omega
      have hlc := h.lc
      have hcm := h.cm
      unfold maxLen at hcm
      have c0 := h.c0
      have f0 := h.f0
      have HH := Lib.hid h
      clear h hd hlen hsl
      have HOFF := Lib.hid HH.out.off
      by_cases hcap : cap = s
      · subst hcap
        obtain rfl : len = cap := by omega
        go_enter Try.func43, Try.ntmps43
        go_wp2_with fail
        refine (stopped_any p _ _ _ _ _ _ HH.out).mono ?_
        rintro e1 w1 ⟨rfl, rfl⟩
        go_wp2_with fail
        refine (count_any _ _ _ _ _ _ HH.out.reads).mono ?_
        rintro e1 w1 ⟨rfl, rfl⟩
        rw [HD.out]
        go_wp2_with fail
        go_ret
        rw [hR.out]
        refine ⟨rfl, some ⟨b, off, none⟩, 0, 0, ?_, Only.set _ _ p 0 _ rfl, Later.refl _⟩
        have hnil : l.drop len = [] := List.drop_eq_nil_of_le (by rw [HH.out.reads.1]; omega)
        have hleft := HH.out.left (Reads.none_left (some ⟨b, off, none⟩)) (Nat.le_refl 0) (by unfold maxLen; omega) HOFF.out
        rw [hnil]
        exact hleft
      · have hcl : s < cap := by omega
        go_enter Try.func43, Try.ntmps43
        go_wp2_with fail
        refine (stopped_any p _ _ _ _ _ _ HH.out).mono ?_
        rintro e1 w1 ⟨rfl, rfl⟩
        go_wp2_with fail
        refine (count_any _ _ _ _ _ _ HH.out.reads).mono ?_
        rintro e1 w1 ⟨rfl, rfl⟩
        rw [HD.out]
        go_wp2_with fail
        go_ret
        rw [hR.out]
        refine ⟨rfl, some ⟨b, off + s, none⟩, len - s, cap - s, ?_, Only.set _ _ p 0 _ rfl, ?_⟩
        · exact HH.out.left (Reads.drop HH.out.reads s hsl2) (by omega) (by unfold maxLen; omega) (fun x hx => by have := HOFF.out _ rfl; simp at hx; subst hx; exact this)
        · intro x hx; simp at hx; subst hx; exact ⟨_, rfl, rfl⟩
    · have hz0 : n = 0 ∧ s = 0 := by
        have := dcount_err (l := l) (most := most) (by rw [hd]; exact her)
        rw [hd] at this; exact this
      obtain ⟨rfl, rfl⟩ := hz0
      have hR : Hid (runt l most 0 = (0, l, er)) := Lib.hid (by unfold runt; rw [if_pos rfl, hd, if_neg her])
      have hne : ((er : Int) != 0) = true := by rw [bne_iff_ne]; omega
      have c0 := h.c0
      have c1 := h.c1
      have f1 := h.f1
      have HH := Lib.hid h
      clear h hd her
      go_enter Try.func43, Try.ntmps43
      go_wp2_with fail
      refine (stopped_any p _ _ _ _ _ _ HH.out).mono ?_
      rintro e1 w1 ⟨rfl, rfl⟩
      go_wp2_with fail
      refine (count_any _ _ _ _ _ _ HH.out.reads).mono ?_
      rintro e1 w1 ⟨rfl, rfl⟩
      rw [HD.out]
      go_wp2_with fail
      go_ret
      rw [hR.out]
      exact ⟨rfl, a, len, cap, HH.out.err er, Only.set _ _ p 1 _ rfl, Later.refl _⟩
  · have hne : ((e : Int) != 0) = true := by rw [bne_iff_ne]; omega
    have hR : Hid (runt l most e = (0, l, e)) := Lib.hid (by unfold runt; rw [if_neg he])
    have HH := Lib.hid h
    clear h he
    go_enter Try.func43, Try.ntmps43
    go_wp2_with fail
    refine (stopped_any p _ _ _ _ _ _ HH.out).mono ?_
    rintro e1 w1 ⟨rfl, rfl⟩
    go_wp2_with fail
    go_ret
    rw [hR.out]
    exact ⟨rfl, a, len, cap, HH.out, Only.refl _ _, Later.refl _⟩

/-- what End answers -/
def rend (l : List Nat) (e : Nat) : Nat := if e = 0 then (if l = [] then 0 else 4) else e

theorem end_any (p : Nat) (a : Option Addr) (len cap : Nat) (l : List Nat) (e : Nat) (w : World) (h : RD w p a len cap l e) :
    Calls Try.prog 45 #[.pointer (some ⟨p, 0, none⟩)] w fun en w' => en = .returned (.int .i64 (rend l e : Int)) ∧ w = w' := by
  have c0 := h.c0
  have c1 := h.c1
  have hl := h.reads.1
  clear h
  by_cases he : e = 0
  · subst he
    have he0 : (((0 : Nat) : Int) == 0) = true := rfl
    by_cases h0 : len = 0
    · have hR : Hid (rend l 0 = 0) := Lib.hid (by unfold rend; rw [if_pos rfl, if_pos (List.eq_nil_of_length_eq_zero (by omega))])
      subst h0
      clear hl
      go_enter Try.func45, Try.ntmps45
      go_wp2
      go_ret
      rw [hR.out]
      exact ⟨rfl, rfl⟩
    · have hR : Hid (rend l 0 = 4) := Lib.hid (by unfold rend; rw [if_pos rfl, if_neg (fun h => by subst h; simp at hl; omega)])
      have hd : 0 < len := by omega
      clear hl
      go_enter Try.func45, Try.ntmps45
      go_wp2
      go_ret
      rw [hR.out]
      exact ⟨rfl, rfl⟩
  · have hne : ((e : Int) == 0) = false := by rw [beq_eq_false_iff_ne]; omega
    have hR : Hid (rend l e = e) := Lib.hid (by unfold rend; rw [if_neg he])
    clear hl he
    go_enter Try.func45, Try.ntmps45
    go_wp2
    go_ret
    rw [hR.out]
    exact ⟨rfl, rfl⟩
end Go.Proofs.Ythflglejhhebeaa.codw

namespace Go.Proofs.Ythflglejhhebeaa.codw
open Go.RowKit mem codm
set_option linter.unusedVariables false

/-- bytes as a string -/
def strN (l : List Nat) : ByteArray := ⟨(l.map UInt8.ofNat).toArray⟩

theorem strN_inj {l r : List Nat} (hl : ∀ c ∈ l, c < 256) (hr : ∀ c ∈ r, c < 256) (h : strN l = strN r) : l = r := by
  have h1 : l.map UInt8.ofNat = r.map UInt8.ofNat := by
    have : (strN l).data.toList = (strN r).data.toList := by rw [h]
    simpa [strN] using this
  have e : ∀ (x : List Nat), (∀ c ∈ x, c < 256) → (x.map UInt8.ofNat).map UInt8.toNat = x := by
    intro x hx
    rw [List.map_map]
    conv => rhs; rw [← List.map_id x]
    apply List.map_congr_left
    intro c hc
    have := hx c hc
    simp
    omega
  rw [← e l hl, ← e r hr, h1]

theorem conv_reads {w : World} {a : Option Addr} {len : Nat} {l : List Nat} (h : Reads w a len l) (cap : Nat) :
    (convert 31 9 (.slice a len cap)).run Try.prog w = .ok (.string (strN l)) w := by
  obtain ⟨hl, hm, hb, hc⟩ := h
  rcases a with _ | x
  · have h0 : len = 0 := by
      rcases hc with h0 | ⟨b, off, ha, _⟩
      · exact h0
      · cases ha
    subst h0
    obtain rfl : l = [] := List.eq_nil_of_length_eq_zero hl
    exact run_convert_bytes_nil w 31 5 Try.underlying31 Try.underlying5 0 cap 9 Try.underlying9
  · by_cases h0 : len = 0
    · subst h0
      obtain rfl : l = [] := List.eq_nil_of_length_eq_zero hl
      have hld : (loadCells x 0).run Try.prog w = .ok (([] : List Int).map (Value.int .u8)).toArray w := by
        have := run_loadCells_list (P := Try.prog) w x [] (fun j v hj => by simp at hj)
        simpa using this
      rw [run_convert_bytes_string w 31 9 5 _ 0 cap Try.underlying31 Try.underlying5 Try.underlying9, run_bytesToString w x 0 cap [] hld]
      rfl
    · obtain ⟨b, off, hx, hcell⟩ := hc.resolve_left h0
      obtain rfl : x = ⟨b, off, none⟩ := by simpa using hx
      have h1 := run_convert_bytes_arg (P := Try.prog) w 31 5 Try.underlying31 Try.underlying5 b off len cap (l.map fun c => ((c : Nat) : Int)) (by simpa using hl) (fun i hi => by
        rw [hcell i hi]; simp [List.getD, List.getElem?_eq_getElem (by omega : i < l.length)]) 9 Try.underlying9
      rw [h1]
      simp [strOfNums, strN, Function.comp_def]

theorem new_writer (w : World) (t : TypeId) : WR (w.alloc (.cells #[.slice none 0 0, .int .i64 0] t)) w.heap.size (.slice none 0 0) [] 0 :=
  ⟨by simp, by simp, by simp, by simp, OwnB.nil _, fun f => by cases f⟩

theorem new_reader {w : World} {a : Option Addr} {len cap : Nat} {l : List Nat} (h : Bytes w a len cap l) (hlt : ∀ x, a = some x → x.block < w.heap.size) (t : TypeId) :
    RD (w.alloc (.cells #[.slice a len cap, .int .i64 0] t)) w.heap.size a len cap l 0 :=
  ⟨by simp, by simp, by simp, by simp, h.1.only (S := fun _ => False) ((Only.refl _ w).alloc _) (fun _ _ f => f), h.2.1, h.2.2.1, fun x hx e => by have := hlt x hx; omega⟩

/-- a new reader -/
theorem read_any (a : Option Addr) (len cap : Nat) (l : List Nat) (w : World) (h : Bytes w a len cap l) (hmax : len ≤ 140737488355328) :
    Calls Try.prog 42 #[.slice a len cap] w fun en w' => ∃ p a' len' cap', en = .returned (.pointer (some ⟨p, 0, none⟩)) ∧ RD w' p a' len' cap' l 0 ∧ Only (fun _ => False) w w' ∧ w.heap.size ≤ p ∧ (∀ x, a' = some x → w.heap.size ≤ x.block ∧ x.block < w'.heap.size) := by
  have HB := Lib.hid h
  clear h
  go_enter Try.func42, Try.ntmps42
  go_wp2_with fail
  refine (clone_any a len cap l _ HB.out hmax).mono ?_
  rintro e1 w1 ⟨v1, rfl, hv, ho, hk⟩
  obtain ⟨a1, len1, cap1, rfl, hB1⟩ := bytes_of_own hv
  have hlt : ∀ x, a1 = some x → x.block < w1.heap.size := by
    intro x hx
    subst hx
    rcases hv.forms with ⟨h1, _⟩ | ⟨g, c, h1, hg, _⟩
    · cases h1
    · simp at h1; rw [h1.1]; exact hg
  have hk2 : ∀ x, a1 = some x → w.heap.size ≤ x.block := fun x hx => hk x.block (by rw [hx]; rfl)
  have hlt2 : ∀ x, a1 = some x → w.heap.size ≤ x.block ∧ x.block < w1.heap.size + 1 := fun x hx => ⟨hk2 x hx, by have := hlt x hx; omega⟩
  have HN := Lib.hid (new_reader hB1 hlt 111)
  have HO := Lib.hid ho
  clear hv hk ho hB1 hlt
  go_wp2
  go_ret
  exact ⟨w1.heap.size, a1, len1, cap1, rfl, HN.out, HO.out.alloc _, HO.out.size, by rw [size_alloc]; exact hlt2⟩

end Go.Proofs.Ythflglejhhebeaa.codw

