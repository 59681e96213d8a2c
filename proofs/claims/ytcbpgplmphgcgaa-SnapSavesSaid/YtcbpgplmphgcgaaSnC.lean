/- A slot's first sector: the program's head. -/
import Derived.Test.YtcbpgplmphgcgaaSnB
import Derived.Lib.SmallJoins
namespace Go.Proofs.Ytcbpgplmphgcgaa.snw
open Go.RowKit mem snm crcm
set_option linter.unusedVariables false

theorem parts_two {w : World} {a b : Option Addr} {n m c d : Nat} {l r : List Nat} (h : Reads w a n l) (k : Reads w b m r) (t : TypeId) {g : Nat} (hg : g = w.heap.size) : crcw.Parts (w.alloc (.cells #[.slice a n c, .slice b m d] t)) (some ⟨g, 0, none⟩) 2 [l, r] := by
  subst hg
  refine ⟨rfl, by unfold maxLen; omega, .inr ⟨_, _, rfl, fun i hi => ?_⟩⟩
  have hc : ∀ j u, (#[.slice a n c, .slice b m d] : Array Value)[j]? = some u → (w.alloc (.cells #[.slice a n c, .slice b m d] t)).cell? ⟨w.heap.size, 0 + j, none⟩ = some u := fun j u hu => by
    rw [Nat.zero_add, Go.Joins.cell_of_block (cs := #[.slice a n c, .slice b m d]) (t := t) (fr := (0, 0)) (by rw [heap_alloc, if_pos rfl])]; exact hu
  rcases (by omega : i = 0 ∨ i = 1) with rfl | rfl
  · exact ⟨a, n, c, hc 0 _ rfl, (h.only (S := fun _ => False) ((Only.refl _ w).alloc _) (fun _ _ f => f))⟩
  · exact ⟨b, m, d, hc 1 _ rfl, (k.only (S := fun _ => False) ((Only.refl _ w).alloc _) (fun _ _ f => f))⟩
theorem sum_two (l r : List Nat) : crcw.sumP [l, r] = more 0 (l ++ r) := by rw [crcw.sum_flat]; simp
theorem app_lit {w2 : World} {v2 : Value} {l r : List Nat} (hown : w2.ownsRow 0 5 1 v2 (l.length + r.length) (bv l ++ bv r)) (hl : ∀ c ∈ l, c < 256) (hr : ∀ c ∈ r, c < 256) (hm : (l ++ r).length ≤ maxLen) : OwnB w2 v2 (l ++ r) := ⟨by rw [List.length_append, bv_append]; exact hown, fun c hc => (List.mem_append.1 hc).elim (hl c) (hr c), hm⟩
theorem own_three (w : World) : OwnB (w.alloc (.cells #[.int .u8 3] 5)) (.slice (some ⟨w.heap.size, 0, none⟩) 1 1) [3] := own_new w [3] (by intro c hc; simp at hc; omega) (by simp)
set_option maxRecDepth 100000 in
set_option maxHeartbeats 4000000 in
theorem head_any (gen : Nat) (a : Option Addr) (len cap : Nat) (im : List Nat) (w : World) (h : Reads w a len im) (hg : gen < 9223372036854775808) (hl : len ≤ 1000000) : Calls Try.prog 65 #[.int .i64 (gen : Int), .slice a len cap] w (Fr w (headL gen im)) := by
  obtain ⟨i0, hi, hz0, hz1, hz2⟩ := info_parts info_u8
  have HR := Lib.hid h
  have hle := h.1
  have hgc : IntKind.u64.wrap (gen : Int) = (gen : Int) := by rw [IntKind.wrap_u64]; omega
  have hlc : IntKind.u64.wrap (len : Int) = (len : Int) := by rw [IntKind.wrap_u64]; omega
  have HK : Hid (be 8 gen ++ be 8 len = keyL gen im.length) := Lib.hid (by unfold keyL; rw [hle])
  have HKL : Hid ((keyL gen im.length).length = 16) := Lib.hid (key_len _ _)
  have HB1 := Lib.hid (be_len gen 8)
  have HKT : Hid (∀ c ∈ keyL gen im.length, c < 256) := Lib.hid (key_lt _ _)
  have HSL : Hid (more 0 (keyL gen im.length ++ im) < 4294967296) := Lib.hid (more_lt (by omega) (by
    intro c hc
    rcases List.mem_append.1 hc with hc | hc
    · exact key_lt _ _ c hc
    · exact h.2.2.1 c hc))
  have HSUM := Lib.hid (sum_two (keyL gen im.length) im)
  have HHD : Hid (3 :: keyL gen im.length ++ be 4 (more 0 (keyL gen im.length ++ im)) = hd0 gen im ∧ headL gen im = wl (hd0 gen im)) := Lib.hid ⟨rfl, rfl⟩
  have HHL := Lib.hid (hd0_len gen im)
  clear h hle
  rw [HHD.out.2]
  obtain ⟨key, hkey⟩ : ∃ x, keyL gen im.length = x := ⟨_, rfl⟩
  rw [hkey] at HK HKL HKT HSL HSUM HHD
  clear hkey
  have HA1 := Lib.hid (bapp_any (.slice none 0 0) [] gen 8 w (OwnB.nil w) (by omega) (by omega) (by simp))
  go_enter Try.func65, Try.ntmps65
  go_wp2_with fail
  refine HA1.out.mono ?_
  rintro _ w1 ⟨v1, rfl, ho1, hO1, hb1⟩
  have HOW1 := Lib.hid ho1
  have HO1 : Hid (Only (fun _ => False) w w1) := Lib.hid (hO1.mono (fun q _ e => by cases e))
  have HV1 : Hid (∀ q, v1.ownBlock = some q → w.heap.size ≤ q) := Lib.hid (fun q e => (hb1 q e).elim (fun e => by cases e) (fun e => e))
  have HA2 := Lib.hid (bapp_any v1 ([] ++ be 8 gen) len 8 w1 ho1 (by omega) (by omega) (by rw [List.nil_append, HB1.out]; omega))
  clear ho1 hO1 hb1 HA1
  go_wp2_with fail
  refine HA2.out.mono ?_
  rintro _ w2 ⟨v2, rfl, ho2, hO2, hb2⟩
  rw [List.nil_append, HK.out] at ho2
  obtain ⟨g2, c2, rfl, hg2, hc2, hm2⟩ := ho2.form (by intro e; rw [e] at HKL; cases HKL.out)
  rw [HKL.out] at ho2 hc2 ⊢
  have HOW2 := Lib.hid ho2
  have HO2 : Hid (Only (fun _ => False) w w2) := Lib.hid (HO1.out.then hO2 (fun q hq e => by have := HV1.out q e; omega))
  have HV2 : Hid (w.heap.size ≤ g2) := Lib.hid ((hb2 g2 rfl).elim (fun e => HV1.out _ e) (fun e => Nat.le_trans HO1.out.size e))
  clear hO2 hb2 HOW1 HO1 HV1 HA2 HK HB1
  have HT := Lib.hid (own_three w2)
  have HK2 := Lib.hid (news_of_reads ((HOW2.out.reads (by rw [HKL.out])).only (S := fun _ => False) ((Only.refl _ w2).alloc (.cells #[.int .u8 3] 5)) (fun _ _ f => f)))
  go_wp2_with (first | (at_builtin; refine append_mine rfl _ _ 47 rfl 5 i0 (.int .u8 0) 1 1 Try.underlying47 hi hz0 hz1 hz2 rfl (by decide) (.slice (some ⟨w2.heap.size, 0, none⟩) 1 1) 1 (bv [3]) rfl HT.out.1 ⟨g2, 0, none⟩ 16 c2 (bv key) rfl ?c1 ?c2 ?c3 ?c4 ?c5 ?_) | fail)
  case c1 => rw [bv_length, HKL.out]
  case c2 => exact HK2.out
  case c3 => exact bv_one _
  case c4 => unfold maxLen; omega
  case c5 => omega
  intro v3 w3 hown hgrow hkk
  have hO3 : Only (fun _ => False) w2 w3 := ((Only.refl (fun _ => False) w2).alloc (.cells #[.int .u8 3] 5)).then (Only.of_grown hgrow) (fun q hq e => by
    have e : some w2.heap.size = some q := e
    injection e with e
    omega)
  have ho3 : OwnB w3 v3 ([3] ++ key) := app_lit (by rw [HKL.out]; exact hown) (by intro c hc; simp at hc; omega) HKT.out (by rw [List.length_append, HKL.out]; unfold maxLen; simp)
  obtain ⟨g3, c3, rfl, hg3, hc3, hm3⟩ := ho3.form (by simp)
  have hl3 : ([3] ++ key).length = 17 := by rw [List.length_append, HKL.out]; rfl
  have HOW3 := Lib.hid ho3
  rw [hl3] at HOW3 hc3 ⊢
  have hb3 : w.heap.size ≤ g3 := by
    rcases hkk g3 rfl with e | e
    · have e : some w2.heap.size = some g3 := e
      injection e with e
      have := HO2.out.size
      omega
    · have := HO2.out.size
      omega
  have HV3 := Lib.hid hb3
  have HO3 : Hid (Only (fun _ => False) w w3) := Lib.hid (HO2.out.trans hO3)
  have HKR3 : Hid (Reads w3 (some ⟨g2, 0, none⟩) 16 key) := Lib.hid ((HOW2.out.reads (by rw [HKL.out])).only hO3 (fun _ _ f => f))
  have HSM : Hid (∀ t, Calls Try.prog 69 #[.slice (some ⟨w3.heap.size, 0, none⟩) 2 2] (w3.alloc (.cells #[.slice (some ⟨g2, 0, none⟩) 16 c2, .slice a len cap] t)) fun e w' => e = .returned (.int .u32 ((more 0 (key ++ im) : Nat) : Int)) ∧ (w3.alloc (.cells #[.slice (some ⟨g2, 0, none⟩) 16 c2, .slice a len cap] t)) = w') := Lib.hid (fun t => by
    have := crcw.sum_any (some ⟨w3.heap.size, 0, none⟩) 2 2 [key, im] _ (parts_two (c := c2) (d := cap) HKR3.out (HR.out.only HO3.out (fun _ _ f => f)) t rfl)
    rwa [HSUM.out] at this)
  obtain ⟨sm, hsm⟩ : ∃ x, more 0 (key ++ im) = x := ⟨_, rfl⟩
  rw [hsm] at HSM HSL HHD
  have hsl := HSL.out
  have hsc : IntKind.u64.wrap (sm : Int) = (sm : Int) := by rw [IntKind.wrap_u64]; omega
  clear hown hgrow hkk ho3 hO3 hb3 hl3 hsm HKR3 HSUM HT HK2 HOW2 HO2
  go_wp2_with fail
  refine (HSM.out _).mono ?_
  rintro _ w4 ⟨rfl, hw4⟩
  have HO4 : Hid (Only (fun _ => False) w3 w4) := Lib.hid (by rw [← hw4]; exact (Only.refl _ _).alloc _)
  have HOW4 := Lib.hid (HOW3.out.only HO4.out (fun _ _ f => f))
  have HA4 := Lib.hid (bapp_any (.slice (some ⟨g3, 0, none⟩) 17 c3) ([3] ++ key) sm 4 w4 HOW4.out (by omega) (by omega) (by rw [List.length_append, HKL.out]; simp))
  clear hw4 HSM HOW3
  go_wp2_with fail
  refine HA4.out.mono ?_
  rintro _ w5 ⟨v5, rfl, ho5, hO5, hb5⟩
  have e5 : [3] ++ key ++ be 4 sm = hd0 gen im := HHD.out.1
  rw [e5] at ho5
  obtain ⟨g5, c5, rfl, hg5, hc5, hm5⟩ := ho5.form (by intro e; rw [e] at HHL; cases HHL.out)
  rw [HHL.out] at ho5 hc5 ⊢
  have HO5 : Hid (Only (fun _ => False) w w5) := Lib.hid ((HO3.out.trans HO4.out).then hO5 (fun q hq e => by
    have e : some g3 = some q := e
    injection e with e
    have := HV3.out
    omega))
  have HWH := Lib.hid (whole_any (some ⟨g5, 0, none⟩) 21 c5 (hd0 gen im) w5 (ho5.reads (by rw [HHL.out])) (by omega))
  clear ho5 hO5 hb5 e5 HA4 HOW4 HO4 HO3 HV3
  go_wp2_with fail
  refine HWH.out.mono ?_
  rintro _ w6 ⟨g6, c6, rfl, ho6, hl6, hm6, hg6, hO6⟩
  have HFIN : Hid (Fr w (wl (hd0 gen im)) (.returned (.slice (some ⟨g6, 0, none⟩) (wl (hd0 gen im)).length c6)) w6) := Lib.hid ⟨g6, c6, rfl, ho6, hl6, hm6, Nat.le_trans HO5.out.size hg6, HO5.out.trans hO6⟩
  clear ho6 hO6 HWH HO5
  generalize (wl (hd0 gen im)).length = n6 at *
  go_wp2_with fail
  go_ret
  exact HFIN.out
end Go.Proofs.Ytcbpgplmphgcgaa.snw
