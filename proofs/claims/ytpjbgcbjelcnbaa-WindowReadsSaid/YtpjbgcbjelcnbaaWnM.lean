/- WindowActs' walk. -/
import Derived.Test.YtpjbgcbjelcnbaaWnL
namespace Go.Proofs.Ytpjbgcbjelcnbaa.wnd
open Go.RowKit mem rowz dskw
set_option linter.unusedVariables false

theorem nonew_any (w : World) : Calls Try.prog 27 #[] w fun e w' => e = .returned (.pointer none) ∧ Only (fun _ => False) w w' := by
  go_enter Try.func27, Try.ntmps27
  go_wp2_with fail
  go_ret
  exact ⟨rfl, Only.refl _ _⟩
theorem look_nil (n : Int) (a : Option Addr) (k c : Nat) (w : World) : Calls Try.prog 28 #[.pointer none, .int .i64 n, .slice a k c] w fun e w' => e = .returned (.tuple #[.slice none 0 0, .int .i64 1]) ∧ Only (fun _ => False) w w' := by
  have HO : Hid (∀ o, Only (fun _ => False) w (w.alloc o)) := Lib.hid (fun o => (Only.refl _ w).alloc o)
  go_enter Try.func28, Try.ntmps28
  go_wp2_with fail
  go_ret2
  exact ⟨rfl, HO.out _⟩
theorem keep_nil (n : Int) (a : Option Addr) (k c : Nat) (a2 : Option Addr) (k2 c2 : Nat) (w : World) : Calls Try.prog 31 #[.pointer none, .int .i64 n, .slice a k c, .slice a2 k2 c2] w fun e w' => e = .returned (.int .i64 1) ∧ Only (fun _ => False) w w' := by
  go_enter Try.func31, Try.ntmps31
  go_wp2_with fail
  refine (look_nil _ _ _ _ _).mono ?_
  rintro _ w1 ⟨rfl, ho⟩
  have HO := Lib.hid ho
  clear ho
  go_wp2_with fail
  go_ret
  exact ⟨rfl, HO.out⟩
theorem last_nil (w : World) : Calls Try.prog 32 #[.pointer none] w fun e w' => e = .returned (.int .i64 0) ∧ Only (fun _ => False) w w' := by
  go_enter Try.func32, Try.ntmps32
  go_wp2_with fail
  go_ret
  exact ⟨rfl, Only.refl _ _⟩
theorem len_nil (w : World) : Calls Try.prog 33 #[.pointer none] w fun e w' => e = .returned (.int .i64 0) ∧ Only (fun _ => False) w w' := by
  go_enter Try.func33, Try.ntmps33
  go_wp2_with fail
  go_ret
  exact ⟨rfl, Only.refl _ _⟩
theorem write_nil (w : World) : Calls Try.prog 29 #[.pointer none] w fun e w' => e = .returned (.tuple #[.slice none 0 0, .int .i64 1]) ∧ Only (fun _ => False) w w' := by
  go_enter Try.func29, Try.ntmps29
  go_wp2_with fail
  go_ret2
  exact ⟨rfl, Only.refl _ _⟩
/-- a new window and the document's -/
theorem fw_new {w w1 w2 : World} {m p r : Nat} {strict : Bool} (hwb : WB w.heap.size w1 w.heap.size (m : Int) strict []) (ho : Only (fun _ => False) w w1) (hm : 1 ≤ m ∧ m ≤ 64) (h2 : w2 = w1.alloc (.cells #[.int .i64 (m : Int), .bool strict, .slice none 0 0] 72)) (hp : p = w.heap.size) (hr : r = w1.heap.size) : FW p w2 p r m strict [] := by
  subst hp hr
  have hal : Only (fun _ => False) w1 w2 := by rw [h2]; exact (Only.refl _ _).alloc _
  have hc : ∀ k u, (#[.int .i64 (m : Int), .bool strict, .slice none 0 0] : Array Value)[k]? = some u → w2.cell? ⟨w1.heap.size, k, none⟩ = some u := fun k u hu => by
    rw [h2, Go.Joins.cell_of_block (cs := #[.int .i64 (m : Int), .bool strict, .slice none 0 0]) (t := 72) (fr := (0, 0)) (by rw [heap_alloc, if_pos rfl])]; exact hu
  have hf : w2.frozen? ⟨w1.heap.size, 2, none⟩ = false := by
    have e : w2.heap[w1.heap.size]? = some (.cells #[.int .i64 (m : Int), .bool strict, .slice none 0 0] 72) := by rw [h2, heap_alloc, if_pos rfl]
    unfold World.frozen?
    dsimp only
    rw [e]
    simp
  refine ⟨.slice none 0 0, ⟨hc 0 _ rfl, hc 1 _ rfl, hc 2 _ rfl, hf, OwnD.nil _, by simp [Value.ownBlock], by simp, hm, fun x hx => by cases hx⟩, ?_, by have := ho.size; omega, fun q e => by simp [Value.ownBlock] at e⟩
  have ek : keptD m [] = [] := by simp [keptD]
  rw [ek]
  have h0 : WS (fun q => w.heap.size ≤ q) w1 w.heap.size (m : Int) strict [] := hwb
  exact (h0.mono (T := fun q => w.heap.size ≤ q ∧ q ≠ w1.heap.size ∧ (Value.slice none 0 0).ownBlock ≠ some q) (fun q hq s => ⟨s, by omega, by simp [Value.ownBlock]⟩)).quiet hal
set_option maxRecDepth 100000 in
set_option maxHeartbeats 8000000 in
theorem wacts_any (most : Int) (strict : Bool) (a1 : Option Addr) (l1 c1 : Nat) (w0 : World) (h0 : RowW w0 a1 l1) :
    Calls Try.prog 6 #[.int .i64 most, .bool strict, .slice a1 l1 c1] w0 fun e w' => e = .returned (.bool true) ∧ Only (fun _ => False) w0 w' := by
  have hm1 := h0.1
  unfold maxLen at hm1
  have H0 := Lib.hid h0
  clear h0
  go_enter Try.func6, Try.ntmps6
  go_wp2_with fail
  refine (nonew_any _).mono ?_
  rintro _ x1 ⟨rfl, k1⟩
  have K1 : Hid (Only (fun _ => False) w0 x1) := Lib.hid (k1)
  clear k1
  go_wp2_with fail
  refine (look_nil _ _ _ _ _).mono ?_
  rintro _ x2 ⟨rfl, k2⟩
  have K2 : Hid (Only (fun _ => False) w0 x2) := Lib.hid (K1.out.trans k2)
  clear k2 K1
  go_wp2_with fail
  refine (nonew_any _).mono ?_
  rintro _ x3 ⟨rfl, k3⟩
  have K3 : Hid (Only (fun _ => False) w0 x3) := Lib.hid (K2.out.trans k3)
  clear k3 K2
  go_wp2_with fail
  refine (write_nil _).mono ?_
  rintro _ x4 ⟨rfl, k4⟩
  have K4 : Hid (Only (fun _ => False) w0 x4) := Lib.hid (K3.out.trans k4)
  clear k4 K3
  go_wp2_with fail
  refine (windows_any _).mono ?_
  rintro _ x5 ⟨rfl, k5⟩
  have K5 : Hid (Only (fun _ => False) w0 x5) := Lib.hid (K4.out.trans k5)
  clear k5 K4
  go_wp2_with fail
  refine (nonew_any _).mono ?_
  rintro _ x6 ⟨rfl, k6⟩
  have K6 : Hid (Only (fun _ => False) w0 x6) := Lib.hid (K5.out.trans k6)
  clear k6 K5
  go_wp2_with fail
  refine (keep_nil _ _ _ _ _ _ _ _).mono ?_
  rintro _ x7 ⟨rfl, k7⟩
  have K7 : Hid (Only (fun _ => False) w0 x7) := Lib.hid (K6.out.trans k7)
  clear k7 K6
  go_wp2_with fail
  refine (nonew_any _).mono ?_
  rintro _ x8 ⟨rfl, k8⟩
  have K8 : Hid (Only (fun _ => False) w0 x8) := Lib.hid (K7.out.trans k8)
  clear k8 K7
  go_wp2_with fail
  refine (last_nil _).mono ?_
  rintro _ x9 ⟨rfl, k9⟩
  have K9 : Hid (Only (fun _ => False) w0 x9) := Lib.hid (K8.out.trans k9)
  clear k9 K8
  go_wp2_with fail
  refine (nonew_any _).mono ?_
  rintro _ x10 ⟨rfl, k10⟩
  have K10 : Hid (Only (fun _ => False) w0 x10) := Lib.hid (K9.out.trans k10)
  clear k10 K9
  go_wp2_with fail
  refine (len_nil _).mono ?_
  rintro _ x11 ⟨rfl, k11⟩
  have K11 : Hid (Only (fun _ => False) w0 x11) := Lib.hid (K10.out.trans k11)
  clear k11 K10
  rename World => w
  have H1 := Lib.hid (H0.out.keep (Nat.le_refl _) (K11.out.mono (fun _ _ f => f.elim)))
  clear H0
  by_cases hmo : 1 ≤ most ∧ most ≤ 64
  · obtain ⟨hm2, hm3⟩ := hmo
    obtain ⟨m, rfl⟩ : ∃ m : Nat, most = m := ⟨most.toNat, by omega⟩
    go_wp2_with fail
    refine (wb_new (m : Int) strict w hm2 hm3).mono ?_
    rintro _ w1 ⟨rfl, hwb, ho⟩
    obtain ⟨p, hp⟩ : ∃ x, x = w.heap.size := ⟨_, rfl⟩
    obtain ⟨r, hr⟩ : ∃ x, x = w1.heap.size := ⟨_, rfl⟩
    obtain ⟨w2, hw2⟩ : ∃ x, x = w1.alloc (.cells #[.int .i64 (m : Int), .bool strict, .slice none 0 0] 72) := ⟨_, rfl⟩
    have HB0 := Lib.hid (fw_new hwb ho ⟨by omega, by omega⟩ hw2 hp hr)
    have HP := Lib.hid hp
    have HO0 : Hid (Only (fun q => p ≤ q) w w2) := Lib.hid (by rw [hw2]; exact (ho.mono (fun _ _ f => f.elim)).alloc _)
    clear hwb ho
    go_upto_block 0 with fail
    simp only [← hp, ← hr, ← hw2]
    clear hp hr hw2
    go_wp2_with fail
    go_loopw [13] (fun iv wr => ∃ (k : Nat) (D : List Kp), k ≤ 100 ∧ iv = .int .i64 (k : Int) ∧ Hid (D.length ≤ k) ∧ Hid (FW p wr p r m strict D) ∧ Hid (Only (fun x => p ≤ x) w wr)) (fun iv _ => 100 - (intOf iv).toNat)
    case atStart => exact ⟨0, [], by omega, rfl, Lib.hid (by simp), HB0, HO0⟩
    case round =>
      obtain ⟨k, D, hk, rfl, HDL, HB, HO⟩ := hrel
      have HEND : Hid (∀ w', Only (fun x => p ≤ x) w w' → Only (fun _ => False) w0 w') := Lib.hid (fun w' ho => K11.out.then ho (fun q hq e => by have := HP.out; have := K11.out.size; omega))
      by_cases h8 : k < l1
      · by_cases h20 : k < 100
        · obtain ⟨b, off, rfl, hcell⟩ := H1.out.2.resolve_left (by omega)
          obtain ⟨d, hd, hin⟩ := hcell k h8
          have HIN := Lib.hid (hin.keep (Nat.le_of_eq HP.out.symm) HO.out)
          replace hd := hd.keep (Nat.le_of_eq HP.out.symm) HO.out
          have HDO := Lib.hid (do_any p p r m strict D d wr HB.out HIN.out (by have := HDL.out; omega) (by have := HO.out.size; have := HP.out; omega))
          obtain ⟨keep, by_, raw, qa, qn, qc, ql, aa, an, ac, al⟩ := d
          obtain ⟨d0, d1, d2, d3, d4⟩ := hd
          unfold AcD.v at HDO
          dsimp only at d0 d1 d2 d3 d4 HDO
          clear hcell hin HIN
          have hk1 : (k : Int) < l1 := by omega
          have hk2 : (k : Int) < 100 := by omega
          have hk0 : (0 : Int) ≤ k := by omega
          go_wp2_with fail
          refine HDO.out.mono ?_
          rintro _ w5 ⟨rfl, ⟨D', hl', hb, -⟩, ho⟩
          have HB5 := Lib.hid hb
          have HL5 : Hid (D'.length ≤ k + 1) := Lib.hid (by have := HDL.out; omega)
          have HO5 : Hid (Only (fun x => p ≤ x) w w5) := Lib.hid (HO.out.trans ho)
          clear hb ho d0 d1 d2 d3 d4 HDO HB HO hl' HDL
          have HL1 : Hid (Calls Try.prog 32 #[.pointer (some ⟨p, 0, none⟩)] w5 fun e w' => e = .returned (.int .i64 (lastK D')) ∧ Only (fun _ => False) w5 w') := Lib.hid (by
            obtain ⟨dv, e1, e2, -⟩ := HB5.out
            have := ws_last e2
            rwa [keptD_last m D' e1.mo.1] at this)
          have HL2 : Hid (∀ w', Only (fun _ => False) w5 w' → Calls Try.prog 36 #[.pointer (some ⟨r, 0, none⟩)] w' fun e w'' => e = .returned (.int .i64 (lastK D')) ∧ Only (fun _ => False) w' w'') := Lib.hid (fun w' ho => by
            obtain ⟨dv, e1, e2, -⟩ := HB5.out
            exact rlast_any r m strict dv D' w' (e1.quiet ho))
          have HL3 : Hid (∀ w', Only (fun _ => False) w5 w' → Calls Try.prog 33 #[.pointer (some ⟨p, 0, none⟩)] w' fun e w'' => e = .returned (.int .i64 ((keptD m D').length : Int)) ∧ Only (fun _ => False) w' w'') := Lib.hid (fun w' ho => by
            obtain ⟨dv, e1, e2, -⟩ := HB5.out
            exact ws_len (e2.quiet ho))
          have HL4 : Hid (∀ w', Only (fun _ => False) w5 w' → Calls Try.prog 37 #[.pointer (some ⟨r, 0, none⟩)] w' (KeptAns w' (keptD m D'))) := Lib.hid (fun w' ho => by
            obtain ⟨dv, e1, e2, -⟩ := HB5.out
            exact rkept_any r m strict dv D' w' (e1.quiet ho))
          generalize lastK D' = Z at *
          generalize hkk : keptD m D' = K at *
          clear hkk
          go_wp2_with fail
          refine HL1.out.mono ?_
          rintro _ w6 ⟨rfl, ho⟩
          have HO6 := Lib.hid ho
          clear ho HL1
          go_wp2_with fail
          refine (HL2.out w6 HO6.out).mono ?_
          rintro _ w7 ⟨rfl, ho⟩
          have HO7 := Lib.hid (HO6.out.trans ho)
          clear ho HL2 HO6
          go_wp2_with fail
          refine (HL3.out w7 HO7.out).mono ?_
          rintro _ w8 ⟨rfl, ho⟩
          have HO8 := Lib.hid (HO7.out.trans ho)
          clear ho HL3 HO7
          go_wp2_with fail
          refine (HL4.out w8 HO8.out).mono ?_
          rintro _ w9 ⟨ka, kc, rfl, -, ho⟩
          have HO9 := Lib.hid (HO8.out.trans ho)
          clear ho HL4 HO8
          have HB9 := Lib.hid (HB5.out.quiet HO9.out)
          have HO10 : Hid (Only (fun x => p ≤ x) w w9) := Lib.hid (HO5.out.trans (HO9.out.mono (fun _ _ f => f.elim)))
          clear HB5 HO5 HO9
          go_wp2_with fail
          go_roundw
          case rel => exact ⟨k + 1, D', by omega, by go_num, HL5, HB9, HO10⟩
          case measure => simp [intOf]; omega
        · have hk2 : ¬ (k : Int) < 100 := by omega
          go_wp2_with fail
          go_ret
          exact ⟨rfl, HEND.out _ HO.out⟩
      · have hk2 : ¬ (k : Int) < l1 := by omega
        go_wp2_with fail
        go_ret
        exact ⟨rfl, HEND.out _ HO.out⟩
  · by_cases hm2 : most < 1
    · go_wp2_with fail
      refine (wnew_no most strict w hmo).mono ?_
      rintro _ w1 ⟨rfl, ho⟩
      have HO1 := Lib.hid (K11.out.trans ho)
      clear ho hmo
      go_wp2_with fail
      go_ret
      exact ⟨rfl, HO1.out⟩
    · have hm3 : 64 < most := by omega
      go_wp2_with fail
      refine (wnew_no most strict w hmo).mono ?_
      rintro _ w1 ⟨rfl, ho⟩
      have HO1 := Lib.hid (K11.out.trans ho)
      clear ho hmo
      go_wp2_with fail
      go_ret
      exact ⟨rfl, HO1.out⟩
theorem wacts_walk (most : Int) (strict : Bool) (a1 : Option Addr) (l1 c1 : Nat) (w : World) (h : RowW w a1 l1) :
      Calls Try.prog 6 #[.int .i64 most, .bool strict, .slice a1 l1 c1] w fun e w' => e = .returned (.bool true) ∧ Below w.heap.size w w' :=
    (wacts_any most strict a1 l1 c1 w h).mono fun _ _ ⟨p, q⟩ => ⟨p, q.none⟩
end Go.Proofs.Ytpjbgcbjelcnbaa.wnd
