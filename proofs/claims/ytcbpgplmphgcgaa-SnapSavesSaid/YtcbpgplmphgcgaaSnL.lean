/- The law's fixed image. -/
import Derived.Test.YtcbpgplmphgcgaaSnK
import Derived.Lib.SlBytesConst
import Derived.Lib.SmallJoins
namespace Go.Proofs.Ytcbpgplmphgcgaa.snw
open Go.RowKit mem snm crcm dskw
set_option linter.unusedVariables false

theorem conv_own {w : World} {v : Value} {l : List Nat} (h : OwnB w v l) : (convert 47 9 v).run Try.prog w = .ok (.string (strN l)) w := by
  rcases h.forms with ⟨rfl, rfl⟩ | ⟨g, cap, rfl, _⟩
  · exact conv_reads (a := Option.none) (len := 0) (l := []) ⟨rfl, by unfold maxLen; omega, by simp, .inl rfl⟩ 0
  · exact conv_reads (h.reads rfl) cap
theorem abc_box {w w1 : World} {g : Nat} {t : TypeId} (hw : w1 = w.alloc (.cells #[.int .u8 97, .int .u8 98, .int .u8 99] t (3, 4))) (hg : g = w.heap.size) : Reads w1 (some ⟨g, 0, none⟩) 3 [97, 98, 99] ∧ Only (fun _ => False) w w1 := by
  subst hw; subst hg
  refine ⟨⟨rfl, by unfold maxLen; omega, by intro c hc; simp at hc; omega, .inr ⟨_, _, rfl, fun i hi => ?_⟩⟩, (Only.refl _ _).alloc _⟩
  rw [Go.Joins.cell_of_block (cs := #[.int .u8 97, .int .u8 98, .int .u8 99]) (t := t) (fr := (3, 4)) (by rw [heap_alloc, if_pos rfl])]
  rcases (by omega : i = 0 ∨ i = 1 ∨ i = 2) with rfl | rfl | rfl <;> rfl
/-- the slots behind the one Save -/
theorem abc_newer : newer (slotL (saveF zF (1 + 1 % 2 * 3) 1 [97, 98, 99]) (fun _ => none) 1 3 0) (slotL (saveF zF (1 + 1 % 2 * 3) 1 [97, 98, 99]) (fun _ => none) 1 3 1) = (1, [97, 98, 99]) := by
  rw [slotL_none, slotL_none]
  have h1 := slot_parse zF (1 + 1 % 2 * 3) 1 3 [97, 98, 99] (by decide) (by omega) (by omega) (by simp)
  have e1 : parse (secs (saveF zF (1 + 1 % 2 * 3) 1 [97, 98, 99]) (1 + 1 * 3) 3) 1 = (1, [97, 98, 99]) := h1
  have e0 : parse (secs (saveF zF (1 + 1 % 2 * 3) 1 [97, 98, 99]) (1 + 0 * 3) 3) 0 = (0, []) := by
    rw [far_save zF (1 + 1 % 2 * 3) 1 3 [97, 98, 99] (by decide) (1 + 0 * 3) 3 (.inl (by omega))]
    exact parse_zF _ _ _ (by omega)
  rw [e0, e1]
  rfl
set_option maxRecDepth 100000 in
set_option maxHeartbeats 4000000 in
theorem snaps_any (w : World) : Calls Try.prog 39 #[] w fun e w' => e = .returned (.bool true) ∧ Only (fun _ => False) w w' := by
  have kc := fun (w : World) (C : Array Value) (n c g : Nat) (hg : g = w.heap.size) => Go.Joins.run_convert_bytes_const_at (P := Try.prog) w 47 5 C n c g hg Try.underlying47 Try.underlying5
  go_enter Try.func39, Try.ntmps39
  go_wp2_with fail
  refine (new_any 8 (by omega) (by omega) w).mono ?_
  rintro _ w1 ⟨p, bl, bm, rfl, hd, ho1, hp, hbl, hbm⟩
  have HD := Lib.hid hd
  have HO1 := Lib.hid ho1
  have HPP := Lib.hid (And.intro hp (And.intro hbl hbm))
  clear hd ho1 hp hbl hbm
  obtain ⟨w2, hw2⟩ : ∃ x, x = w1.alloc (.cells #[.int .u8 97, .int .u8 98, .int .u8 99] 5 (3, 4)) := ⟨_, rfl⟩
  obtain ⟨g2, hg2⟩ : ∃ x, x = w1.heap.size := ⟨_, rfl⟩
  go_wp2_with fail
  simp only [← hw2, ← hg2]
  obtain ⟨hr2, ho2⟩ := abc_box hw2 hg2
  have hdl := HD.out.lt
  have HSV := save_any p bl bm 8 zF 0 1 3 1 (some ⟨g2, 0, none⟩) 3 3 [97, 98, 99] w2 (HD.out.only ho2 (fun f => f) (fun f => f) (fun f => f)) hr2 (fun x e => by cases e; rintro (e | e | e) <;> (simp at e; omega)) (by omega) (by omega) (by omega) (by omega) (by omega)
  simp only [Int.cast_ofNat_Int] at HSV
  refine HSV.mono ?_
  intro e w3 hsv
  obtain ⟨rfl, hda⟩ := hsv.zero
  have HO3 : Hid (Only (fun _ => False) w w3) := Lib.hid ((HO1.out.trans ho2).then hda.2 (fun q hq e => by
    have := HPP.out
    have := HO1.out.size
    rcases e with e | e | e <;> omega))
  have HD3 := Lib.hid hda.1
  clear hsv hda HSV hw2 hg2 hr2 ho2 hdl
  go_wp2_with fail
  have HLD := load_yes p bl bm 8 _ _ _ 1 3 w3 HD3.out (by omega) (by omega)
  rw [abc_newer] at HLD
  simp only [Int.cast_ofNat_Int] at HLD
  refine HLD.mono ?_
  rintro _ w4 ⟨ho4, ⟨h0, -⟩ | ⟨-, va, vc, rfl, hw4, hy⟩⟩
  · cases h0
  have HO4 := Lib.hid (HO3.out.trans ho4)
  have hcv : (convert 47 9 (.slice va 3 vc)).run Try.prog w4 = .ok (.string { data := #[97, 98, 99] }) w4 := conv_own hw4
  have HRM := Lib.hid (room_any 3 w4)
  clear ho4 hw4 hy HLD HD3 HD HO1 HO3
  go_wp2_with fail
  refine HRM.out.mono ?_
  rintro _ _ ⟨rfl, rfl⟩
  have hr3 : roomL 3 = 128 := by decide
  rw [hr3]
  clear HRM hr3
  go_wp2_with fail
  go_ret
  exact ⟨rfl, HO4.out⟩
end Go.Proofs.Ytcbpgplmphgcgaa.snw
