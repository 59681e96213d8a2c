/- The statements' own trial of a disk. -/
import Derived.Test.YtodmfljhojdbkaaDskA
namespace Go.Proofs.Ytodmfljhojdbkaa.dskw
open Go.RowKit mem Go.Maps
set_option linter.unusedVariables false

/-- what the trial writes -/
def tB : List Nat := List.replicate 64 1 ++ List.replicate 64 2
def tC : Nat → Option (List Nat) := wrC (fun _ => none) 1 tB 1
def tL : Nat → List Nat := crL (fun _ => zeros) tC [true] 3
theorem t_dirty : dirtyL tC 3 = [1] := by kernel_rfl
theorem t_len : tB.length = 2 * 64 := by kernel_rfl
theorem t_byte : ∀ c ∈ tB, c < 256 := by
  intro c hc
  unfold tB at hc
  rw [List.mem_append, List.mem_replicate, List.mem_replicate] at hc
  omega
theorem t_secs : secs (cur tL (fun _ => none)) 1 2 = List.replicate 64 1 ++ List.replicate 64 0 := by kernel_rfl
theorem t_wr : wrK 1 2 = 1 ∧ wrOff 1 2 = true ∧ wrE 1 2 = 12 ∧ cutJ 1 1 = 0 := by decide

theorem OwnB.cells {w : World} {g n cap : Nat} {l : List Nat} (h : OwnB w (.slice (some ⟨g, 0, none⟩) n cap) l) (hn : n = l.length) : ∀ j u, (bv l)[j]? = some u → w.cell? ((Addr.mk g 0 none).add j) = some u := by
  intro j u hu
  obtain ⟨_, _, _, hc⟩ := h.reads hn
  have hj : j < l.length := by
    rcases Nat.lt_or_ge j l.length with a | a
    · exact a
    · rw [List.getElem?_eq_none (by rw [bv_length]; exact a)] at hu; cases hu
  rcases hc with h0 | ⟨b, off, ha, hcell⟩
  · omega
  · have e : (⟨g, 0, none⟩ : Addr) = ⟨b, off, none⟩ := by simpa using ha
    rw [e, add_none, hcell j (by omega), ← hu, bv_get l j hj]
theorem app_two {w w2 : World} {g n cap : Nat} {v2 : Value} {l r : List Nat} (h : OwnB w (.slice (some ⟨g, 0, none⟩) n cap) l) (hr : ∀ c ∈ r, c < 256) (hown : w2.ownsRow 0 5 1 v2 (l.length + r.length) (bv l ++ bv r)) (hm : (l ++ r).length ≤ maxLen) : OwnB w2 v2 (l ++ r) := by
  refine ⟨by rw [bv_append, List.length_append]; exact hown, fun c hc => ?_, hm⟩
  rcases List.mem_append.1 hc with h1 | h1
  · exact h.2.1 c h1
  · exact hr c h1

set_option maxRecDepth 100000 in
set_option maxHeartbeats 2000000 in
theorem disks_any (w : World) : Calls Try.prog 6 #[] w fun e w' => e = .returned (.bool true) ∧ Only (fun _ => False) w w' := by
  obtain ⟨i0, hi, hz0, hz1, hz2⟩ := info_parts info_u8
  have HN := Lib.hid (new_any 3 (by omega) (by omega) w)
  go_enter Try.func6, Try.ntmps6
  go_wp2_with fail
  refine (HN.out).mono ?_
  rintro e1 w1 ⟨p, bl, bm, rfl, hd1, ho1, hp, hbl, hbm⟩
  have HC := Lib.hid (cut_any p bl bm 3 _ _ 0 false 1 (by omega) w1 hd1)
  go_wp2_with fail
  refine (HC.out).mono ?_
  rintro e2 w2 ⟨rfl, hd2, ho2⟩
  have HS1 : Hid (Calls Try.prog 9 #[.int .u8 1] w2 (NewB w2 (List.replicate 64 1))) := Lib.hid (sector_any 1 (by omega) w2)
  have HD2 := Lib.hid hd2
  have HO2 : Hid (Only (fun _ => False) w w2) := Lib.hid (ho1.then ho2 (fun k hk e => by rcases e with e | e | e <;> omega))
  clear HN HC hd1 ho1 hd2 ho2
  go_wp2_with fail
  refine (HS1.out).mono ?_
  rintro e3 w3 ⟨g3, cap3, rfl, hb3, ho3, hg3⟩
  have HS2 : Hid (Calls Try.prog 9 #[.int .u8 2] w3 (NewB w3 (List.replicate 64 2))) := Lib.hid (sector_any 2 (by omega) w3)
  have HB3 := Lib.hid hb3
  have HO3 := Lib.hid ho3
  clear hb3 ho3 HS1
  go_wp2_with fail
  refine (HS2.out).mono ?_
  rintro e4 w4 ⟨g4, cap4, rfl, hb4, ho4, hg4⟩
  have HB4 := Lib.hid hb4
  have HO4 := Lib.hid ho4
  clear hb4 ho4 HS2
  have HP3 := Lib.hid (HB3.out.only HO4.out (fun _ _ f => f))
  have HOWN : Hid (w4.ownsRow 0 5 1 (.slice (some ⟨g3, 0, none⟩) 64 cap3) 64 (bv (List.replicate 64 1))) := Lib.hid (by have := HP3.out.1; rw [List.length_replicate] at this; exact this)
  go_wp2_with (at_builtin; refine append_mine rfl _ _ 34 rfl 5 i0 (.int .u8 0) 1 1 Try.underlying34 hi hz0 hz1 hz2 rfl (by decide) (.slice (some ⟨g3, 0, none⟩) 64 cap3) 64 _ rfl HOWN.out ⟨g4, 0, none⟩ 64 cap4 (bv (List.replicate 64 2)) rfl ?c1 ?c2 ?c3 ?c4 ?c5 ?_)
  case c1 => rw [bv_length, List.length_replicate]
  case c2 => exact OwnB.cells HB4.out rfl
  case c3 => exact bv_one _
  case c4 => unfold maxLen; omega
  case c5 => omega
  intro v5 w5 hown hgrow hkk
  have hT := app_two HP3.out HB4.out.2.1 (by rw [List.length_replicate, List.length_replicate]; exact hown) (by rw [List.length_append, List.length_replicate, List.length_replicate]; unfold maxLen; omega)
  have hT : OwnB w5 v5 tB := hT
  obtain ⟨g5, cap5, rfl, hg5, hc5, hm5⟩ := hT.form (by unfold tB; simp)
  have HT := Lib.hid hT
  have HO5 : Hid (Only (fun _ => False) w w5) := Lib.hid ((((HO2.out.then HO3.out (fun _ _ f => f)).then HO4.out (fun _ _ f => f))).then (Only.of_grown hgrow) (fun k hk e => by have e : some g3 = some k := e; injection e with e; have := HO2.out.size; omega))
  have hs23 := HO3.out.size
  have hs34 := HO4.out.size
  have hg5b : w2.heap.size ≤ g5 := by
    rcases hkk g5 rfl with e | e
    · have e : some g3 = some g5 := e
      injection e with e; omega
    · omega
  have HO25 : Hid (Only (fun _ => False) w2 w5) := Lib.hid ((HO3.out.then HO4.out (fun _ _ f => f)).then (Only.of_grown hgrow) (fun k hk e => by have e : some g3 = some k := e; injection e with e; omega))
  have HD5 := Lib.hid (HD2.out.only HO25.out (fun f => f) (fun f => f) (fun f => f))
  have hlt := HD2.out.lt
  have hna : ∀ x : Addr, some (⟨g5, 0, none⟩ : Addr) = some x → ¬ Dbl p bl bm x.block := by
    intro x hx hD
    injection hx with hx
    subst hx
    rcases hD with e | e | e <;> (have e : g5 = _ := e; omega)
  have hw := write_yes p bl bm 3 (fun _ => zeros) (fun _ => none) 1 1 2 (by omega) (some ⟨g5, 0, none⟩) cap5 tB w5 HD5.out ⟨HT.out.reads rfl, by rw [← t_len]; exact hc5, hm5, fun e => by cases e⟩ hna
  rw [t_wr.1, t_wr.2.1, t_wr.2.2.1, t_wr.2.2.2] at hw
  have HW : Hid (Calls Try.prog 10 #[.pointer (some ⟨p, 0, none⟩), .int .i64 1, .slice (some ⟨g5, 0, none⟩) 128 cap5] w5 fun e w' => e = .returned (.int .i64 12) ∧ DAft p bl bm 3 w5 w' (fun _ => zeros) tC 0 true) := Lib.hid hw
  clear hown hgrow hkk HOWN hT hw hna HT HD5 HD2 HP3 HB4 HB3 HO25
  rw [t_len]
  go_wp2_with fail
  refine (HW.out).mono ?_
  rintro e6 w6 ⟨rfl, hd6, ho6⟩
  have HD6 := Lib.hid hd6
  have HO6 : Hid (Only (fun _ => False) w w6) := Lib.hid (HO5.out.then ho6 (fun k hk e => by rcases e with e | e | e <;> omega))
  have HOF := Lib.hid (offs_any p bl bm 3 _ _ 0 true w6 hd6)
  clear hd6 ho6 HW HO5
  go_wp2_with fail
  refine (HOF.out).mono ?_
  rintro e7 w7 ⟨rfl, rfl⟩
  clear HOF
  go_wp2_with fail
  have HD7 := Lib.hid (HD6.out.only (S := fun _ => False) ((Only.refl _ w6).alloc (.cells #[.bool true] 4)) (fun f => f) (fun f => f) (fun f => f))
  have HO7 : Hid (Only (fun _ => False) w (w6.alloc (.cells #[.bool true] 4))) := Lib.hid (HO6.out.alloc _)
  have hbo : Bools (w6.alloc (.cells #[.bool true] 4)) (some ⟨w6.heap.size, 0, none⟩) 1 [true] := ⟨rfl, by omega, .inr ⟨_, 0, rfl, fun j hj => by
    obtain rfl : j = 0 := by omega
    rw [Go.Joins.cell_of_block (cs := #[.bool true]) (t := 4) (fr := (0, 0)) (by rw [heap_alloc, if_pos rfl])]
    rfl⟩⟩
  have hlt6 := HD6.out.lt
  have hnc : ∀ x : Addr, some (⟨w6.heap.size, 0, none⟩ : Addr) = some x → ¬ Dbl p bl bm x.block := by
    intro x hx hD
    injection hx with hx
    subst hx
    rcases hD with e | e | e <;> (have e : w6.heap.size = _ := e; omega)
  have HCR : Hid (Calls Try.prog 15 #[.pointer (some ⟨p, 0, none⟩), .slice (some ⟨w6.heap.size, 0, none⟩) 1 1] (w6.alloc (.cells #[.bool true] 4)) fun e w' => e = .returned (.tuple #[]) ∧ DAft p bl bm 3 (w6.alloc (.cells #[.bool true] 4)) w' tL (fun _ => none) 0 false) := Lib.hid (crash_any p bl bm 3 _ tC 0 true _ 1 1 [true] _ HD7.out hbo (fun _ => hnc))
  clear hbo hnc HD7 HD6 HO6
  generalize w6.alloc (.cells #[.bool true] 4) = w7 at *
  refine (HCR.out).mono ?_
  rintro e8 w8 ⟨rfl, hd8, ho8⟩
  have HO8 : Hid (Only (fun _ => False) w w8) := Lib.hid (HO7.out.then ho8 (fun k hk e => by rcases e with e | e | e <;> omega))
  have hrd := read_yes p bl bm 3 tL (fun _ => none) 0 1 2 (by omega) w8 hd8
  rw [t_secs] at hrd
  have HRD : Hid (Calls Try.prog 7 #[.pointer (some ⟨p, 0, none⟩), .int .i64 1, .int .i64 2] w8 (ReadIs w8 (List.replicate 64 1 ++ List.replicate 64 0))) := Lib.hid hrd
  clear hd8 ho8 hrd HCR HO7
  go_wp2_with fail
  refine (HRD.out).mono ?_
  rintro e9 w9 ⟨g9, cap9, rfl, hb9, ho9, hg9⟩
  have HO9 : Hid (Only (fun _ => False) w w9) := Lib.hid (HO8.out.then ho9 (fun _ _ f => f))
  have hl9 : (List.replicate 64 1 ++ List.replicate 64 0 : List Nat).length = 128 := by rw [List.length_append, List.length_replicate, List.length_replicate]
  obtain ⟨hc0, hc64⟩ : w9.cell? ⟨g9, 0, none⟩ = some (.int .u8 1) ∧ w9.cell? ⟨g9, 64, none⟩ = some (.int .u8 0) := by
    obtain ⟨_, _, _, hc⟩ := hb9.reads rfl
    rcases hc with h0 | ⟨b, off, ha, hcell⟩
    · omega
    · injection ha with ha
      injection ha with h1 h2
      subst h1; subst h2
      have h3 := hcell 0 (by omega)
      have h4 := hcell 64 (by omega)
      exact ⟨h3, h4⟩
  clear hb9 ho9 HRD
  rw [hl9]
  clear hl9
  go_wp2_with fail
  go_ret
  exact ⟨rfl, HO9.out⟩
end Go.Proofs.Ytodmfljhojdbkaa.dskw
