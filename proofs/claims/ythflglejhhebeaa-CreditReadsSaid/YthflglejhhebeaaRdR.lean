/- The document's reader: what each call takes, of whatever bytes. -/
import Derived.Test.YthflglejhhebeaaStrM
import Derived.Test.YthflglejhhebeaaZ1
import Derived.Laws.BitsAllLaws
namespace Go.Proofs.Ythflglejhhebeaa.rdr
open Go.RowKit mem codm codp dskw
set_option linter.unusedVariables false

/-- a reader in memory -/
structure RC (w : World) (p : Nat) (l : List Nat) (e : Int) : Prop where
  c0 : w.cell? ⟨p, 0, none⟩ = some (.string (strN l))
  c1 : w.cell? ⟨p, 1, none⟩ = some (.int .i64 e)
  f0 : w.frozen? ⟨p, 0, none⟩ = false
  f1 : w.frozen? ⟨p, 1, none⟩ = false
theorem RC.lt {w : World} {p : Nat} {l : List Nat} {e : Int} (h : RC w p l e) : p < w.heap.size := World.block_lt_of_cell? w _ h.c0
theorem RC.only {S : Nat → Prop} {w w' : World} {p : Nat} {l : List Nat} {e : Int} (h : RC w p l e) (ho : Only S w w') (hp : ¬ S p) : RC w' p l e :=
  ⟨ho.cell' h.c0 hp, ho.cell' h.c1 hp, (ho.frozen (p := ⟨p, 0, none⟩) h.lt hp).trans h.f0, (ho.frozen (p := ⟨p, 1, none⟩) h.lt hp).trans h.f1⟩
theorem RC.err {w : World} {p : Nat} {l : List Nat} {e : Int} (h : RC w p l e) (e' : Int) : RC (w.setCell ⟨p, 1, none⟩ (.int .i64 e')) p l e' ∧ Only (fun k => k = p) w (w.setCell ⟨p, 1, none⟩ (.int .i64 e')) :=
  ⟨⟨by rw [cell_other (by simp)]; exact h.c0, cell_same h.c1, by rw [frozen_set]; exact h.f0, by rw [frozen_set]; exact h.f1⟩, Only.set _ w p 1 _ rfl⟩
theorem RC.left {w : World} {p : Nat} {l : List Nat} {e : Int} (h : RC w p l e) (r : List Nat) : RC (w.setCell ⟨p, 0, none⟩ (.string (strN r))) p r e ∧ Only (fun k => k = p) w (w.setCell ⟨p, 0, none⟩ (.string (strN r))) :=
  ⟨⟨cell_same h.c0, by rw [cell_other (by simp)]; exact h.c1, by rw [frozen_set]; exact h.f0, by rw [frozen_set]; exact h.f1⟩, Only.set _ w p 0 _ rfl⟩
/-- a reader in a state -/
def Is (s : Option (List Nat)) (l : List Nat) (e : Int) : Prop := match s with
  | some x => e = 0 ∧ l = x
  | none => e ≠ 0
def RR (w : World) (p : Nat) (s : Option (List Nat)) : Prop := ∃ l e, RC w p l e ∧ By l ∧ Is s l e
theorem RR.only {S : Nat → Prop} {w w' : World} {p : Nat} {s : Option (List Nat)} (h : RR w p s) (ho : Only S w w') (hp : ¬ S p) : RR w' p s := by
  obtain ⟨l, e, h1, h2⟩ := h
  exact ⟨l, e, h1.only ho hp, h2⟩
theorem RR.sok {w : World} {p : Nat} {s : Option (List Nat)} (h : RR w p s) : SOk s := by
  obtain ⟨l, e, h1, h2, h3⟩ := h
  intro x hx
  subst hx
  obtain ⟨-, rfl⟩ := h3
  exact h2
def Grp (w : World) (p M : Nat) (l : List Nat) (en : Ending) (w' : World) : Prop := ∃ er : Int, en = .returned (.tuple #[.int .u64 ((dec M l 0 0).1 : Int), .int .i64 ((dec M l 0 0).2.1 : Int)]) ∧ RC w' p l er ∧ (er = 0 ↔ (dec M l 0 0).2.2 = 0) ∧ Only (fun k => k = p) w w'
theorem dec_pair {M : Nat} {l : List Nat} {i acc : Nat} (h : (dec M l i acc).2.2 ≠ 0) : (dec M l i acc).1 = 0 ∧ (dec M l i acc).2.1 = 0 := by
  rcases dec_errs M l i acc with e | ⟨e1, e2, _⟩
  · exact absurd e h
  · exact ⟨e1, e2⟩
theorem grp_err {w w' : World} {p M : Nat} {l : List Nat} {er : Int} (hd : (dec M l 0 0).2.2 ≠ 0) (her : er ≠ 0) (h : RC w' p l er) (ho : Only (fun k => k = p) w w') : Grp w p M l (.returned (.tuple #[.int .u64 0, .int .i64 0])) w' := by
  obtain ⟨e1, e2⟩ := dec_pair hd
  refine ⟨er, by rw [e1, e2]; rfl, h, ⟨fun e => absurd e her, fun e => absurd e hd⟩, ho⟩
theorem shl_step {i c : Nat} (hi : i ≤ 9) (h9 : i = 9 → c % 128 ≤ 1) : IntKind.u64.wrap ((c : Int) % 128 * 2 ^ (7 * i)) = ((c % 128 * 128 ^ i : Nat) : Int) := by
  have hx := (acc_step (c := c) (acc := 0) hi (Nat.pow_pos (by omega)) h9).1
  have e : (c : Int) % 128 * 2 ^ (7 * i) = ((c % 128 * 128 ^ i : Nat) : Int) := by
    rw [show (128 : Nat) ^ i = 2 ^ (7 * i) by rw [Nat.pow_mul]]
    rw [Int.natCast_mul, Int.natCast_emod, Int.natCast_pow]; rfl
  rw [e, IntKind.wrap_u64, Int.emod_eq_of_lt (by omega) (by omega)]
set_option maxRecDepth 100000 in
set_option maxHeartbeats 4000000 in
theorem grp_any (p M : Nat) (hM : M = 9 ∨ M = 10) (l : List Nat) (w : World) (h : RC w p l 0) (hb : By l) : Calls Try.prog 67 #[.pointer (some ⟨p, 0, none⟩), .int .i64 (M : Int)] w (Grp w p M l) := by
  have HR := Lib.hid h
  have HB := Lib.hid hb.1
  have hsz := strN_size l
  have hlen := hb.2
  have c0 := h.c0
  have c1 := h.c1
  have f1 := h.f1
  clear h hb
  go_enter Try.func67, Try.ntmps67
  go_wp2_with fail
  go_loopw [6, 7] (fun uv iv wr => ∃ i acc : Nat, uv = .int .u64 ((acc : Nat) : Int) ∧ iv = .int .i64 ((i : Nat) : Int) ∧ i ≤ 9 ∧ Hid (dec M l 0 0 = dec M (l.drop i) i acc) ∧ Hid (acc < 128 ^ i) ∧ w = wr) (fun _ iv _ => 10 - (intOf iv).toNat)
  case atStart => exact ⟨0, 0, rfl, rfl, by omega, Lib.hid rfl, Lib.hid (by omega), rfl⟩
  case round =>
    obtain ⟨i, acc, rfl, rfl, hi9, HD, HA, rfl⟩ := hrel
    have hi0 : (0 : Int) ≤ i := by omega
    have hi9' : (i : Int) ≤ 9 := by omega
    by_cases h8 : i < l.length
    · have hin : (i : Int) < l.length := by omega
      have hat : ∀ h : i < (strN l).size, ((strN l)[i]'h).toNat = l.getD i 0 := strN_at l i HB.out
      have hclt := getD_lt l HB.out i
      have hdrop : l.drop i = l.getD i 0 :: l.drop (i + 1) := by
        rw [List.drop_eq_getElem_cons h8]; simp [List.getD, h8]
      obtain ⟨c, hcc⟩ : ∃ c, l.getD i 0 = c := ⟨_, rfl⟩
      rw [hcc] at hat hclt hdrop
      have HDR : Hid (dec M l 0 0 = dec M (c :: l.drop (i + 1)) i acc) := Lib.hid (by rw [HD.out, hdrop])
      clear hdrop hcc HD
      by_cases h9 : i = 9
      · subst h9
        rcases hM with rfl | rfl
        · have hd : (dec 9 l 0 0).2.2 ≠ 0 := by rw [HDR.out, dec_far (.inl rfl)]; simp
          have HER := Lib.hid (HR.out.err 2)
          have HFIN := Lib.hid (grp_err hd (by decide) HER.out.1 HER.out.2)
          clear hd HDR HA
          go_wp2_with fail
          go_ret2
          exact HFIN.out
        · by_cases hc1 : 1 < c
          · have hd : (dec 10 l 0 0).2.2 ≠ 0 := by
              rw [HDR.out]
              by_cases hf : 9 = 10 ∨ (9 = 9 ∧ 1 < c % 128)
              · rw [dec_far hf]; simp
              · rw [dec_more hf (by omega)]; exact dec_ten _ _
            have hc1' : (1 : Int) < c := by omega
            have HER := Lib.hid (HR.out.err 2)
            have HFIN := Lib.hid (grp_err hd (by decide) HER.out.1 HER.out.2)
            clear hd HDR HA
            go_wp2_with fail
            go_ret2
            exact HFIN.out
          · have hc1' : ¬ (1 : Int) < c := by omega
            have hfar : ¬ (9 = 10 ∨ (9 = 9 ∧ 1 < c % 128)) := by omega
            by_cases hc0 : c = 0
            · subst hc0
              have hd : (dec 10 l 0 0).2.2 ≠ 0 := by rw [HDR.out, dec_zero hfar (by omega) (by omega)]; simp
              clear hfar
              have HER := Lib.hid (HR.out.err 2)
              have HFIN := Lib.hid (grp_err hd (by decide) HER.out.1 HER.out.2)
              clear hd HDR HA
              go_wp2_with fail
              go_ret2
              exact HFIN.out
            · obtain rfl : c = 1 := by omega
              have hR : Hid (dec 10 l 0 0 = (acc + 1 * 128 ^ 9, 9 + 1, 0)) := Lib.hid (by rw [HDR.out, dec_last hfar (by omega) (by omega)])
              have hx := (acc_step (c := 1) (by omega : 9 ≤ 9) HA.out (by omega)).1
              have hx2 : acc + 9223372036854775808 < 18446744073709551616 := by simpa using hx
              have hadd : IntKind.u64.wrap ((acc : Int) + 9223372036854775808) = ((acc + 9223372036854775808 : Nat) : Int) := by rw [IntKind.wrap_u64]; omega
              have HFIN : Hid (Grp w p 10 l (.returned (.tuple #[.int .u64 ((acc + 9223372036854775808 : Nat) : Int), .int .i64 10])) w) := Lib.hid ⟨0, by rw [hR.out]; rfl, HR.out, ⟨fun _ => by rw [hR.out], fun _ => rfl⟩, Only.refl _ _⟩
              clear HDR hfar hR hx HA hx2 hc0
              go_wp2_with fail
              go_ret2
              exact HFIN.out
      · have hb9 : ((i : Int) == 9) = false := by rw [beq_eq_false_iff_ne]; omega
        have hnM : ¬ (M : Int) ≤ i := by omega
        have hfar : ¬ (i = M ∨ (i = 9 ∧ 1 < c % 128)) := by omega
        by_cases hc0 : c = 0
        · by_cases hi1 : 0 < i
          · have hd : (dec M l 0 0).2.2 ≠ 0 := by rw [HDR.out, dec_zero hfar (by omega) (by omega)]; simp
            have hcb : ((c : Int) == 0) = true := by rw [beq_iff_eq]; omega
            have hi1' : (0 : Int) < i := by omega
            clear hfar hM hc0
            have HER := Lib.hid (HR.out.err 2)
            have HFIN := Lib.hid (grp_err hd (by decide) HER.out.1 HER.out.2)
            clear hd HDR HA
            go_wp2_with fail
            go_ret2
            exact HFIN.out
          · obtain rfl : i = 0 := by omega
            subst hc0
            obtain rfl : acc = 0 := by have := HA.out; omega
            have hR : Hid (dec M l 0 0 = (0, 1, 0)) := Lib.hid (by rw [HDR.out, dec_last hfar (by omega) (by omega)])
            have HFIN : Hid (Grp w p M l (.returned (.tuple #[.int .u64 0, .int .i64 1])) w) := Lib.hid ⟨0, by rw [hR.out]; rfl, HR.out, ⟨fun _ => by rw [hR.out], fun _ => rfl⟩, Only.refl _ _⟩
            have hnl : ¬ l = [] := fun e => by rw [e] at h8; simp at h8
            clear hM HDR hfar hR HA hi1
            go_wp2_with fail
            go_ret2
            exact HFIN.out
        · have hcb : ((c : Int) == 0) = false := by rw [beq_eq_false_iff_ne]; omega
          clear hM
          by_cases hge : 128 ≤ c
          · have hlt : ¬ (c : Int) < 128 := by omega
            have hx := acc_step (c := c) hi9 HA.out (by omega)
            have hal := acc_lt c HA.out
            have hshl := shl_step (c := c) hi9 (by omega)
            have hm : (c : Int) % 128 = ((c % 128 : Nat) : Int) := by omega
            obtain ⟨Y, hY⟩ : ∃ Y, c % 128 * 128 ^ i = Y := ⟨_, rfl⟩
            rw [hY] at hx hal hshl
            have hx64 := hx.1
            have hadd : IntKind.u64.wrap ((acc : Int) + (Y : Int)) = ((acc + Y : Nat) : Int) := by rw [IntKind.wrap_u64]; omega
            have hm7 : IntKind.i64.wrap (7 * (i : Int)) = 7 * (i : Int) := by rw [IntKind.wrap_i64]; omega
            have HY := Lib.hid hY
            have HAL := Lib.hid hal
            clear hx hal hY HA hm
            have hR : Hid (dec M l 0 0 = dec M (l.drop (i + 1)) (i + 1) (acc + Y)) := Lib.hid (by rw [HDR.out, dec_more hfar hge, HY.out])
            clear HDR hfar
            go_wp2_with fail
            go_roundw
            case rel => exact ⟨i + 1, acc + Y, rfl, by go_num, by omega, hR, HAL, trivial⟩
            case measure => simp [intOf]; omega
          · have hlt : (c : Int) < 128 := by omega
            have hz0 : ¬ (c % 128 = 0 ∧ 0 < i) := by omega
            have hx := acc_step (c := c) hi9 HA.out (by omega)
            have hal := acc_lt c HA.out
            have hshl := shl_step (c := c) hi9 (by omega)
            have hm : (c : Int) % 128 = ((c % 128 : Nat) : Int) := by omega
            obtain ⟨Y, hY⟩ : ∃ Y, c % 128 * 128 ^ i = Y := ⟨_, rfl⟩
            rw [hY] at hx hal hshl
            have hx64 := hx.1
            have hadd : IntKind.u64.wrap ((acc : Int) + (Y : Int)) = ((acc + Y : Nat) : Int) := by rw [IntKind.wrap_u64]; omega
            have hm7 : IntKind.i64.wrap (7 * (i : Int)) = 7 * (i : Int) := by rw [IntKind.wrap_i64]; omega
            have HY := Lib.hid hY
            have HAL := Lib.hid hal
            clear hx hal hY HA hm
            have hR : Hid (dec M l 0 0 = (acc + Y, i + 1, 0)) := Lib.hid (by rw [HDR.out, dec_last hfar (by omega) hz0, HY.out])
            have HFIN : Hid (Grp w p M l (.returned (.tuple #[.int .u64 ((acc + Y : Nat) : Int), .int .i64 ((i + 1 : Nat) : Int)])) w) := Lib.hid ⟨0, by rw [hR.out], HR.out, ⟨fun _ => by rw [hR.out], fun _ => rfl⟩, Only.refl _ _⟩
            clear HDR hfar hz0 hR
            go_wp2_with fail
            go_ret2
            exact HFIN.out
    · have hin : ¬ (i : Int) < l.length := by omega
      have hd : (dec M l 0 0).2.2 ≠ 0 := by rw [HD.out, List.drop_eq_nil_of_le (by omega), dec_nil]; simp
      have HER := Lib.hid (HR.out.err 3)
      have HFIN := Lib.hid (grp_err hd (by decide) HER.out.1 HER.out.2)
      clear hd HD HA
      go_wp2_with fail
      go_ret2
      exact HFIN.out
end Go.Proofs.Ythflglejhhebeaa.rdr
