/- What the program's Write of a window answers. -/
import Derived.Test.YtpjbgcbjelcnbaaWnS
import Derived.Test.YtpjbgcbjelcnbaaWrG
namespace Go.Proofs.Ytpjbgcbjelcnbaa.wnd
open Go.RowKit mem rowz dskw codm codp codw
set_option linter.unusedVariables false

theorem KdIn.ok {S : Nat → Prop} {w : World} {p : Nat} {v : Value} {x : Kd} (h : KdIn S w p v x) (hn : 0 ≤ x.n ∧ x.n ≤ 4611686018427387904) : KOk x.kp :=
  ⟨h.1.1.2.2.1, h.2.1.2.2.1, by have := h.1.1.1; have := h.1.2.2.1; show x.q.length ≤ _; omega, by have := h.2.1.1; have := h.2.2.2.1; show x.a.length ≤ _; omega, hn.1, hn.2⟩
theorem WnAt.ok {S : Nat → Prop} {w : World} {p : Nat} {most : Int} {strict : Bool} {v : Value} {L : List Kd} (h : WnAt S w p most strict v L) : ∀ x ∈ L.map Kd.kp, KOk x := by
  intro x hx
  obtain ⟨y, hy, rfl⟩ := List.mem_map.1 hx
  exact (h.kd y hy).ok (h.nb y hy)
theorem SlIn.bytes {S : Nat → Prop} {w : World} {p : Nat} {v : Value} {a : Option Addr} {n c : Nat} {l : List Nat} (h : SlIn S w p v a n c l) : Bytes w a n c l := ⟨h.1, h.2.1.1, h.2.1.2.1, h.2.1.2.2⟩
theorem kp_get (L : List Kd) (i : Nat) (h : i < L.length) : (L.map Kd.kp).getD i default = (L.getD i default).kp := by
  simp [List.getD, h]
/-- a box of three cells -/
theorem box3_facts {w w' : World} {g : Nat} {t : TypeId} {x0 x1 x2 : Value} (hw : w' = w.alloc (.cells #[x0, x1, x2] t)) (hg : g = w.heap.size) : Only (fun _ => False) w w' ∧ w'.cell? ⟨g, 0, none⟩ = some x0 ∧ w'.cell? ⟨g, 1, none⟩ = some x1 ∧ w'.cell? ⟨g, 2, none⟩ = some x2 := by
  subst hw hg
  have hc : ∀ k u, (#[x0, x1, x2] : Array Value)[k]? = some u → (w.alloc (.cells #[x0, x1, x2] t)).cell? ⟨w.heap.size, k, none⟩ = some u := fun k u hu => by
    rw [Go.Joins.cell_of_block (cs := #[x0, x1, x2]) (t := t) (fr := (0, 0)) (by rw [heap_alloc, if_pos rfl])]; exact hu
  exact ⟨(Only.refl (fun _ => False) w).alloc _, hc 0 _ rfl, hc 1 _ rfl, hc 2 _ rfl⟩
set_option maxRecDepth 100000 in
set_option maxHeartbeats 4000000 in
theorem wwrite_any {S : Nat → Prop} (p m : Nat) (strict : Bool) (v : Value) (L : List Kd) (w : World) (h : WnAt S w p (m : Int) strict v L) : Calls Try.prog 29 #[.pointer (some ⟨p, 0, none⟩)] w (Wrote w (winB m strict (L.map Kd.kp))) := by
  have HW := Lib.hid h
  have hmo := h.mo
  have HOK := Lib.hid h.ok
  have hzb := lastK_bd L h.nb
  have hll : L.length ≤ 64 := by have := h.len; omega
  have HLA : Hid (∀ w', Only (fun _ => False) w w' → _) := Lib.hid (fun w' (ho : Only (fun _ => False) w w') => wlast_any p (m : Int) strict v L w' (HW.out.quiet ho))
  have HEL := Lib.hid (fun i => ents_len ((L.map Kd.kp).take i) (fun x hx => HOK.out x (List.mem_of_mem_take hx)))
  have HKD := Lib.hid (fun i (hi : i < L.length) => (by
    have hm : L.getD i default ∈ L := by
      have : L.getD i default = L[i] := by simp [List.getD, hi]
      rw [this]; exact List.getElem_mem hi
    exact ⟨h.kd _ hm, h.nb _ hm⟩ : KdIn S w p v (L.getD i default) ∧ 0 ≤ (L.getD i default).n ∧ (L.getD i default).n ≤ 4611686018427387904))
  obtain ⟨av, cv, hv, hcv, hrv, -⟩ := h.own.reads
  have HRV := Lib.hid hrv
  obtain ⟨len, hln⟩ : ∃ x, L.length = x := ⟨_, rfl⟩
  have HLN := Lib.hid hln
  obtain ⟨Z, hZ⟩ : ∃ x, lastK (L.map Kd.kp) = x := ⟨_, rfl⟩
  rw [hZ] at HLA hzb
  obtain ⟨H, hH⟩ : ∃ x, headB m strict Z len = x := ⟨_, rfl⟩
  have HWB : Hid (winB m strict (L.map Kd.kp) = H ++ (L.map Kd.kp).flatMap entB) := Lib.hid (by unfold winB; rw [hZ, List.length_map, hln, hH])
  have hHl : H.length ≤ 34 := by rw [← hH]; exact headB_len _ _ _ _
  have HPL : Hid (∀ i, i ≤ len → (H ++ ((L.map Kd.kp).take i).flatMap entB).length ≤ 9000000) := Lib.hid (fun i hi => by
    rw [List.length_append]
    have := HEL.out i
    rw [List.length_take, List.length_map] at this
    have h2 : min i L.length * 131105 ≤ 64 * 131105 := Nat.mul_le_mul_right _ (by omega)
    omega)
  have HFH : Hid ([] ++ enc m ++ flagB strict ++ enc (zig Z) ++ enc len = H) := Lib.hid (by rw [← hH]; unfold headB; simp only [List.append_assoc, List.nil_append])
  have hl1 := (enc_length m).1
  have hl2 : (flagB strict).length = 1 := by cases strict <;> rfl
  have hl3 := (enc_length (zig Z)).1
  rw [hln] at HRV hcv hll
  have HC0 : Hid (∀ w', Only (fun _ => False) w w' → w'.cell? ⟨p, 0, none⟩ = some (.int .i64 (m : Int)) ∧ w'.cell? ⟨p, 1, none⟩ = some (.bool strict) ∧ w'.cell? ⟨p, 2, none⟩ = some (.slice av len cv)) := Lib.hid (fun w' ho => ⟨(HW.out.quiet ho).c0, (HW.out.quiet ho).c1, by rw [(HW.out.quiet ho).c2, hv, hln]⟩)
  have hm1 : (m : Int) ≤ 9223372036854775807 := by omega
  have hn1 : (len : Int) ≤ 9223372036854775807 := by omega
  clear h hrv hv hln hZ hH
  have HW0 := Lib.hid (wr_new w 91)
  obtain ⟨d0, d1, d2⟩ := HC0.out _ HW0.out.only
  obtain ⟨wp, hwp⟩ : ∃ x, x = w.heap.size := ⟨_, rfl⟩
  obtain ⟨w1, hw1⟩ : ∃ x, x = w.alloc (.cells #[.slice none 0 0, .int .i64 0] 91) := ⟨_, rfl⟩
  rw [← hwp, ← hw1] at HW0
  rw [← hw1] at d0 d1 d2
  go_enter Try.func29, Try.ntmps29
  go_upto_region 4 with fail
  simp only [← hwp, ← hw1]
  clear hw1 hwp
  go_wp2_with fail
  refine (wr_uint HW0.out (m : Int) (by omega) hm1 (by simp)).mono ?_
  rintro _ w2 ⟨rfl, hwr⟩
  have Hw2 := Lib.hid hwr
  clear hwr
  rw [Int.toNat_natCast] at Hw2
  clear d0 d1 d2 HW0
  obtain ⟨d0, d1, d2⟩ := HC0.out w2 Hw2.out.only
  go_wp2_with fail
  refine (wr_flag Hw2.out strict (by rw [List.length_append]; simp; omega)).mono ?_
  rintro _ w3 ⟨rfl, hwr⟩
  have Hw3 := Lib.hid hwr
  clear hwr
  clear d0 d1 d2 Hw2
  have HL3 := Lib.hid (HLA.out w3 Hw3.out.only)
  go_wp2_with fail
  refine HL3.out.mono ?_
  rintro _ w4 ⟨rfl, ho⟩
  have HW4 := Lib.hid (Hw3.out.quiet ho)
  clear ho HL3 HLA Hw3
  go_wp2_with fail
  refine (wr_int HW4.out Z (by omega) (by rw [List.length_append, List.length_append]; simp; omega)).mono ?_
  rintro _ w5 ⟨rfl, hwr⟩
  have Hw5 := Lib.hid hwr
  clear hwr
  clear HW4
  obtain ⟨d0, d1, d2⟩ := HC0.out w5 Hw5.out.only
  go_wp2_with fail
  refine (wr_uint Hw5.out (len : Int) (by omega) hn1 (by rw [List.length_append, List.length_append, List.length_append]; simp; omega)).mono ?_
  rintro _ w6 ⟨rfl, hwr⟩
  have Hw6 := Lib.hid hwr
  clear hwr
  rw [Int.toNat_natCast, HFH.out] at Hw6
  clear d0 d1 d2 Hw5
  obtain ⟨d0, d1, d2⟩ := HC0.out w6 Hw6.out.only
  clear hl1 hl2 hl3
  go_wp2_with fail
  go_loopw [39] (fun iv wr => ∃ (i : Nat), i ≤ len ∧ iv = .int .i64 (i : Int) ∧ Hid (Wr w wp wr (H ++ ((L.map Kd.kp).take i).flatMap entB))) (fun iv _ => len - (intOf iv).toNat)
  case atStart => exact ⟨0, by omega, rfl, by simpa using Hw6⟩
  case round =>
    obtain ⟨i, hi, rfl, HWR⟩ := hrel
    rename World => wr
    by_cases h8 : i < len
    · obtain ⟨b, rfl, hcell⟩ := HRV.out.2.resolve_left (by omega)
      obtain ⟨c0, c1, c2⟩ := hcell i h8
      replace c0 := HWR.out.only.cell' c0 (fun f => f)
      replace c1 := HWR.out.only.cell' c1 (fun f => f)
      replace c2 := HWR.out.only.cell' c2 (fun f => f)
      obtain ⟨⟨hk1, hk2⟩, hk3, hk4⟩ := HKD.out i (by rw [HLN.out]; exact h8)
      have HSN : Hid (H ++ ((L.map Kd.kp).take i).flatMap entB ++ enc (L.getD i default).n.toNat ++ textB (L.getD i default).q ++ textB (L.getD i default).a = H ++ ((L.map Kd.kp).take (i + 1)).flatMap entB) := Lib.hid (by
        rw [ents_snoc _ i (by rw [List.length_map, HLN.out]; exact h8), kp_get L i (by rw [HLN.out]; exact h8)]
        unfold entB Kd.kp
        simp only [List.append_assoc])
      have hpl := HPL.out i hi
      have hqb : ∀ y, (L.getD i default).qa = some y → y.block < w.heap.size := fun y e => (hk1.2.2.2 y e).1
      have hab : ∀ y, (L.getD i default).aa = some y → y.block < w.heap.size := fun y e => (hk2.2.2.2 y e).1
      have hqn := hk1.2.2.1
      have han := hk2.2.2.1
      have HQ := Lib.hid (SlIn.bytes hk1)
      have HA := Lib.hid (SlIn.bytes hk2)
      generalize L.getD i default = x at *
      obtain ⟨xn, xqa, xqn, xqc, xq, xaa, xan, xac, xa⟩ := x
      dsimp only at c0 c1 c2 HQ HA HSN hqb hab hqn han hk3 hk4
      have hql := HQ.out.1.1
      have hal := HA.out.1.1
      have hlen1 := (enc_length xn.toNat).1
      have hlen2 := textB_len xq
      have hin : (i : Int) < len := by omega
      have hi0 : (0 : Int) ≤ i := by omega
      have hi64 : (i : Int) ≤ 64 := by omega
      have HQB := Lib.hid hqb
      have HAB := Lib.hid hab
      clear hcell hk1 hk2 hqb hab
      go_upto_region 11 with fail
      obtain ⟨w7, hw7⟩ : ∃ x, x = wr.alloc (.cells #[.int .i64 xn, .slice xqa xqn xqc, .slice xaa xan xac] 123) := ⟨_, rfl⟩
      obtain ⟨g7, hg7⟩ : ∃ x, x = wr.heap.size := ⟨_, rfl⟩
      obtain ⟨q0, q1, q2, q3⟩ := box3_facts hw7 hg7
      simp only [← hw7, ← hg7]
      obtain ⟨vw, hv5⟩ := HWR.out
      have HV5 : Hid (WrV w wp vw w7 (H ++ ((L.map Kd.kp).take i).flatMap entB)) := Lib.hid (WrV.quiet hv5 q0)
      have HAPw7 : Hid (Apt wp vw g7) := Lib.hid (WrV.new hv5 (by rw [hg7]; exact Nat.le_refl _))
      have HCw7 : Hid (w7.cell? ⟨g7, 1, none⟩ = some (.slice xqa xqn xqc) ∧ w7.cell? ⟨g7, 2, none⟩ = some (.slice xaa xan xac)) := Lib.hid ⟨q2, q3⟩
      have HG7 : Hid (g7 < w7.heap.size) := Lib.hid (World.block_lt_of_cell? w7 _ q1)
      have HPAST : Hid (∀ w', Only (fun _ => False) w w' → Bytes w' xqa xqn xqc xq ∧ Bytes w' xaa xan xac xa) := Lib.hid (fun w' ho => ⟨HQ.out.only ho (fun _ _ f => f), HA.out.only ho (fun _ _ f => f)⟩)
      clear hw7 hg7 q0 q2 q3 HWR c0 c1 c2 hv5
      go_wp2_with fail
      refine (wv_uint HV5.out xn hk3 (by omega) (by omega)).mono ?_
      rintro _ w8 ⟨rfl, vw8, hwr, hon, hap⟩
      have Hw8 := Lib.hid hwr
      have HCw8 : Hid (w8.cell? ⟨g7, 1, none⟩ = some (.slice xqa xqn xqc) ∧ w8.cell? ⟨g7, 2, none⟩ = some (.slice xaa xan xac)) := Lib.hid ⟨WvAft.cell hon HAPw7.out HCw7.out.1, WvAft.cell hon HAPw7.out HCw7.out.2⟩
      have HAPw8 := Lib.hid (hap g7 (by have := HG7.out; exact this) HAPw7.out)
      have HSZw8 : Hid (g7 < w8.heap.size) := Lib.hid (World.block_lt_of_cell? w8 _ HCw8.out.1)
      clear hwr hon hap
      clear q1 HV5 HAPw7 HCw7 HG7
      have HG7 := HSZw8
      obtain ⟨q1, q2⟩ := HCw8.out
      go_wp2_with fail
      refine (wv_text Hw8.out xqa xqn xqc xq (HPAST.out _ Hw8.out.2.1).1 (by omega) HQB.out (by rw [List.length_append]; omega)).mono ?_
      rintro _ w9 ⟨rfl, vw9, hwr, hon, hap⟩
      have Hw9 := Lib.hid hwr
      have HCw9 : Hid (w9.cell? ⟨g7, 1, none⟩ = some (.slice xqa xqn xqc) ∧ w9.cell? ⟨g7, 2, none⟩ = some (.slice xaa xan xac)) := Lib.hid ⟨WvAft.cell hon HAPw8.out HCw8.out.1, WvAft.cell hon HAPw8.out HCw8.out.2⟩
      have HAPw9 := Lib.hid (hap g7 (by have := HG7.out; exact this) HAPw8.out)
      have HSZw9 : Hid (g7 < w9.heap.size) := Lib.hid (World.block_lt_of_cell? w9 _ HCw9.out.1)
      clear hwr hon hap
      clear q1 q2 Hw8 HAPw8 HCw8 HG7
      have HG7 := HSZw9
      obtain ⟨q1, q2⟩ := HCw9.out
      go_wp2_with fail
      refine (wv_text Hw9.out xaa xan xac xa (HPAST.out _ Hw9.out.2.1).2 (by omega) HAB.out (by rw [List.length_append, List.length_append]; omega)).mono ?_
      rintro _ w10 ⟨rfl, vw10, hwr, hon, hap⟩
      have Hw10 := Lib.hid hwr
      have HCw10 : Hid (w10.cell? ⟨g7, 1, none⟩ = some (.slice xqa xqn xqc) ∧ w10.cell? ⟨g7, 2, none⟩ = some (.slice xaa xan xac)) := Lib.hid ⟨WvAft.cell hon HAPw9.out HCw9.out.1, WvAft.cell hon HAPw9.out HCw9.out.2⟩
      have HAPw10 := Lib.hid (hap g7 (by have := HG7.out; exact this) HAPw9.out)
      have HSZw10 : Hid (g7 < w10.heap.size) := Lib.hid (World.block_lt_of_cell? w10 _ HCw10.out.1)
      clear hwr hon hap
      have HWR2 : Hid (Wr w wp w10 (H ++ ((L.map Kd.kp).take (i + 1)).flatMap entB)) := Lib.hid (by rw [← HSN.out]; exact ⟨_, Hw10.out⟩)
      clear q1 q2 Hw9 HAPw9 HCw9 HG7 Hw10 HCw10 HAPw10 HSZw10 HPAST HSN
      go_wp2_with fail
      go_roundw
      case rel => exact ⟨i + 1, by omega, by go_num, HWR2⟩
      case measure => simp [intOf]; omega
    · obtain rfl : i = len := by omega
      have hnl : ¬ (i : Int) < i := by omega
      have HFB : Hid (H ++ ((L.map Kd.kp).take i).flatMap entB = winB m strict (L.map Kd.kp)) := Lib.hid (by rw [List.take_of_length_le (by rw [List.length_map, HLN.out]; omega), HWB.out])
      have hpl := HPL.out i (Nat.le_refl _)
      rw [HFB.out] at HWR hpl
      have HBY := Lib.hid (wr_bytes HWR.out (by omega))
      clear HFB HWR
      go_wp2_with fail
      refine HBY.out.mono ?_
      rintro _ w9 ⟨ra, rc, rfl, hb, hy, ho⟩
      have HFIN : Hid (Wrote w (winB m strict (L.map Kd.kp)) (.returned (.tuple #[.slice ra (winB m strict (L.map Kd.kp)).length rc, .int .i64 0])) w9) := Lib.hid ⟨ra, rc, rfl, hb, hy, ho⟩
      clear hb hy ho HBY
      generalize winB m strict (L.map Kd.kp) = WB at *
      generalize WB.length = wl at *
      go_wp2_with fail
      go_ret2
      exact HFIN.out
end Go.Proofs.Ytpjbgcbjelcnbaa.wnd
