/- Windows whose blocks are all made since b; the law's own example. -/
import Derived.Test.YtpjbgcbjelcnbaaWnC
import Derived.Test.YtpjbgcbjelcnbaaDskS
namespace Go.Proofs.Ytpjbgcbjelcnbaa.wnd
open Go.RowKit mem rowz dskw
set_option linter.unusedVariables false

def WB (b : Nat) (w : World) (p : Nat) (most : Int) (strict : Bool) (K : List Kp) : Prop := ∃ v L, L.map Kd.kp = K ∧ WnAt (fun q => b ≤ q) w p most strict v L
theorem WB.quiet {b : Nat} {w w' : World} {p : Nat} {most : Int} {strict : Bool} {K : List Kp} (h : WB b w p most strict K) (ho : Only (fun _ => False) w w') : WB b w' p most strict K := by
  obtain ⟨v, L, e, hw⟩ := h
  exact ⟨v, L, e, hw.quiet ho⟩
theorem wb_new (most : Int) (strict : Bool) (w : World) (h1 : 1 ≤ most) (h2 : most ≤ 64) : Calls Try.prog 34 #[.int .i64 most, .bool strict] w fun e w' => e = .returned (.tuple #[.pointer (some ⟨w.heap.size, 0, none⟩), .int .i64 0]) ∧ WB w.heap.size w' w.heap.size most strict [] ∧ Only (fun _ => False) w w' :=
  (wnew_yes most strict w h1 h2).mono fun _ _ ⟨e, h, ho⟩ => ⟨e, ⟨_, [], rfl, h⟩, ho⟩
theorem wb_last {b : Nat} {w : World} {p : Nat} {most : Int} {strict : Bool} {K : List Kp} (h : WB b w p most strict K) : Calls Try.prog 32 #[.pointer (some ⟨p, 0, none⟩)] w fun e w' => e = .returned (.int .i64 (lastK K)) ∧ Only (fun _ => False) w w' := by
  obtain ⟨v, L, rfl, hw⟩ := h
  exact wlast_any p most strict v L w hw
theorem wb_len {b : Nat} {w : World} {p : Nat} {most : Int} {strict : Bool} {K : List Kp} (h : WB b w p most strict K) : Calls Try.prog 33 #[.pointer (some ⟨p, 0, none⟩)] w fun e w' => e = .returned (.int .i64 K.length) ∧ Only (fun _ => False) w w' := by
  obtain ⟨v, L, rfl, hw⟩ := h
  rw [List.length_map]
  exact wlen_any p most strict v L w hw
theorem wb_look {b : Nat} {w : World} {p : Nat} {most : Int} {strict : Bool} {K : List Kp} (h : WB b w p most strict K) (n : Int) (a : Option Addr) (m c : Nat) (q : List Nat) (hr : Reads w a m q) : Calls Try.prog 28 #[.pointer (some ⟨p, 0, none⟩), .int .i64 n, .slice a m c] w (Looked w (lookE K strict n q) (lookA K strict n q)) := by
  obtain ⟨v, L, rfl, hw⟩ := h
  exact wlook_any p most strict v L n a m c q w hw hr
def KeptB (b : Nat) (p : Nat) (most : Int) (strict : Bool) (w : World) (E : Int) (K' : List Kp) (e : Ending) (w' : World) : Prop := e = .returned (.int .i64 E) ∧ WB b w' p most strict K' ∧ Only (fun q => b ≤ q) w w'
theorem wb_keep {b : Nat} {w : World} {p : Nat} {most : Int} {strict : Bool} {K : List Kp} (h : WB b w p most strict K) (hb : b ≤ w.heap.size) (n : Int) (a : Option Addr) (m c : Nat) (q : List Nat) (a2 : Option Addr) (m2 c2 : Nat) (r : List Nat) (hr : Reads w a m q) (hr2 : Reads w a2 m2 r) : Calls Try.prog 31 #[.pointer (some ⟨p, 0, none⟩), .int .i64 n, .slice a m c, .slice a2 m2 c2] w (KeptB b p most strict w (keepE K strict ⟨n, q, r⟩) (keepR K most strict ⟨n, q, r⟩)) := by
  obtain ⟨v, L, rfl, hw⟩ := h
  exact (wkeep_any p most strict v L n a m c q a2 m2 c2 r w hw hr hr2).mono fun _ _ ⟨e, ⟨v', L', e2, hw'⟩, ho⟩ => ⟨e, ⟨v', L', e2, hw'.mono (fun q s => s.elim (fun s => s) (fun s => Nat.le_trans hb s))⟩, ho⟩
theorem one_byte {W : World} {g x : Nat} (hg : g = W.heap.size) (t : TypeId) (hx : x < 256) : Reads (W.alloc (.cells #[.int .u8 (x : Int)] t)) (some ⟨g, 0, none⟩) 1 [x] := by
  refine ⟨rfl, by unfold maxLen; omega, (fun c hc => by rw [List.mem_singleton] at hc; omega), .inr ⟨g, 0, rfl, fun i hi => ?_⟩⟩
  obtain rfl : i = 0 := by omega
  subst hg
  rw [Go.Joins.cell_of_block (cs := #[.int .u8 (x : Int)]) (t := t) (fr := (0, 0)) (by rw [heap_alloc, if_pos rfl])]
  rfl
def Two (b : Nat) (w : World) (p : Nat) (most : Int) (strict : Bool) (K : List Kp) (x y : Nat) (w2 : World) : Prop := WB b w2 p most strict K ∧ Reads w2 (some ⟨w.heap.size, 0, none⟩) 1 [x] ∧ Reads w2 (some ⟨w.heap.size + 1, 0, none⟩) 1 [y] ∧ Only (fun _ => False) w w2
theorem two_bytes {b : Nat} {w : World} {p : Nat} {most : Int} {strict : Bool} {K : List Kp} (h : WB b w p most strict K) (t : TypeId) {x y : Nat} (hx : x < 256) (hy : y < 256) : Two b w p most strict K x y ((w.alloc (.cells #[.int .u8 (x : Int)] t)).alloc (.cells #[.int .u8 (y : Int)] t)) :=
  ⟨h.quiet (((Only.refl (fun _ => False) w).alloc _).alloc _), (one_byte rfl t hx).only ((Only.refl (fun _ => False) _).alloc _) (fun _ _ f => f), one_byte (by simp) t hy, ((Only.refl (fun _ => False) w).alloc _).alloc _⟩
def One1 (b : Nat) (w : World) (p : Nat) (most : Int) (strict : Bool) (K : List Kp) (x : Nat) (w2 : World) : Prop := WB b w2 p most strict K ∧ Reads w2 (some ⟨w.heap.size, 0, none⟩) 1 [x] ∧ Only (fun _ => False) w w2
theorem one_more {b : Nat} {w : World} {p : Nat} {most : Int} {strict : Bool} {K : List Kp} (h : WB b w p most strict K) (t : TypeId) {x : Nat} (hx : x < 256) : One1 b w p most strict K x (w.alloc (.cells #[.int .u8 (x : Int)] t)) :=
  ⟨h.quiet ((Only.refl (fun _ => False) w).alloc _), one_byte rfl t hx, (Only.refl (fun _ => False) w).alloc _⟩
/-- the law's own example -/
def Kx : Nat → List Kp
  | 0 => []
  | 1 => [⟨0, [0], [9]⟩]
  | 2 => [⟨0, [0], [9]⟩, ⟨1, [1], [9]⟩]
  | _ => [⟨1, [1], [9]⟩, ⟨2, [2], [9]⟩]
theorem kx_step (i : Nat) (h : i < 3) : keepE (Kx i) true ⟨i, [i], [9]⟩ = 0 ∧ keepR (Kx i) 2 true ⟨i, [i], [9]⟩ = Kx (i + 1) := by
  rcases (show i = 0 ∨ i = 1 ∨ i = 2 by omega) with rfl | rfl | rfl <;> decide
theorem kx_0 : lookE (Kx 3) true 0 [0] = 13 := by decide
theorem kx_1 : lookE (Kx 3) true 2 [0] = 14 := by decide
theorem kx_2 : lookE (Kx 3) true 2 [2] = 0 ∧ lookA (Kx 3) true 2 [2] = [9] := by decide
set_option maxRecDepth 100000 in
set_option maxHeartbeats 4000000 in
theorem windows_any (w : World) : Calls Try.prog 30 #[] w fun e w' => e = .returned (.bool true) ∧ Only (fun _ => False) w w' := by
  have HW : Hid (∀ w', Only (fun q => w.heap.size ≤ q) w w' → Only (fun _ => False) w w') := Lib.hid (fun w' ho => (Only.refl _ w).then ho (fun q hq e => by omega))
  go_enter Try.func30, Try.ntmps30
  go_wp2_with fail
  refine (wb_new 2 true w (by omega) (by omega)).mono ?_
  rintro _ w1 ⟨rfl, hwb, ho⟩
  have HB1 := Lib.hid hwb
  have HO1 : Hid (Only (fun q => w.heap.size ≤ q) w w1) := Lib.hid (ho.mono (fun _ _ f => f.elim))
  have hsz := ho.size
  obtain ⟨p, hp⟩ : ∃ x, x = w.heap.size := ⟨_, rfl⟩
  rw [← hp] at HB1 HO1 HW hsz ⊢
  clear hwb ho hp
  go_wp2_with fail
  go_loopw [3] (fun iv wr => ∃ i : Nat, i ≤ 3 ∧ iv = .int .i64 (i : Int) ∧ Hid (WB p wr p 2 true (Kx i)) ∧ Hid (Only (fun q => p ≤ q) w wr) ∧ p ≤ wr.heap.size) (fun iv _ => 3 - (intOf iv).toNat)
  case atStart => exact ⟨0, by omega, rfl, HB1, HO1, hsz⟩
  case round =>
    obtain ⟨i, hi, rfl, HB, HO, hs⟩ := hrel
    rename World => wr
    by_cases h8 : i < 3
    · have hin : (i : Int) < 3 := by omega
      obtain ⟨hk1, hk2⟩ := kx_step i h8
      have HT := Lib.hid (two_bytes HB.out 5 (x := i) (y := 9) (by omega) (by omega))
      have HKE := Lib.hid (wb_keep HT.out.1 (Nat.le_trans hs HT.out.2.2.2.size) i _ 1 1 [i] _ 1 1 [9] HT.out.2.1 HT.out.2.2.1)
      rw [hk1, hk2] at HKE
      have hw8 : IntKind.u8.wrap (i : Int) = (i : Int) := by rw [IntKind.wrap_u8]; omega
      clear hk1 hk2
      go_wp2_with fail
      refine HKE.out.mono ?_
      rintro _ w3 ⟨rfl, hb, ho⟩
      have HB3 := Lib.hid hb
      have HO3 : Hid (Only (fun q => p ≤ q) w w3) := Lib.hid ((HO.out.trans (HT.out.2.2.2.mono (fun _ _ f => f.elim))).trans ho)
      have hs3 : p ≤ w3.heap.size := by have h1 := HT.out.2.2.2.size; have h2 := ho.size; omega
      clear hb ho HT HKE
      go_wp2_with fail
      go_roundw
      case rel => exact ⟨i + 1, by omega, by go_num, HB3, HO3, hs3⟩
      case measure => simp [intOf]; omega
    · obtain rfl : i = 3 := by omega
      have HT := Lib.hid (one_more HB.out 5 (x := 0) (by omega))
      have HL := Lib.hid (wb_look HT.out.1 0 _ 1 1 [0] HT.out.2.1)
      rw [kx_0] at HL
      go_wp2_with fail
      refine HL.out.mono ?_
      rintro _ w3 ⟨ra, rn, rc, rfl, -, -, -, ho⟩
      have HB3 := Lib.hid (HT.out.1.quiet ho)
      have HO3 : Hid (Only (fun q => p ≤ q) w w3) := Lib.hid (HO.out.trans ((HT.out.2.2.trans ho).mono (fun _ _ f => f.elim)))
      clear ho HT HL HB HO
      have HT := Lib.hid (one_more HB3.out 5 (x := 0) (by omega))
      have HL := Lib.hid (wb_look HT.out.1 2 _ 1 1 [0] HT.out.2.1)
      rw [kx_1] at HL
      go_wp2_with fail
      refine HL.out.mono ?_
      rintro _ w4 ⟨ra2, rn2, rc2, rfl, -, -, -, ho⟩
      have HB4 := Lib.hid (HT.out.1.quiet ho)
      have HO4 : Hid (Only (fun q => p ≤ q) w w4) := Lib.hid (HO3.out.trans ((HT.out.2.2.trans ho).mono (fun _ _ f => f.elim)))
      clear ho HT HL HB3 HO3
      have HT := Lib.hid (one_more HB4.out 5 (x := 2) (by omega))
      have HL := Lib.hid (wb_look HT.out.1 2 _ 1 1 [2] HT.out.2.1)
      rw [kx_2.1, kx_2.2] at HL
      go_wp2_with fail
      refine HL.out.mono ?_
      rintro _ w5 ⟨ra3, rn3, rc3, rfl, hr3, hc3, -, ho⟩
      have HB5 := Lib.hid (HT.out.1.quiet ho)
      have HO5 : Hid (Only (fun q => p ≤ q) w w5) := Lib.hid (HO4.out.trans ((HT.out.2.2.trans ho).mono (fun _ _ f => f.elim)))
      obtain rfl : 1 = rn3 := hr3.1
      obtain ⟨g, off, rfl, hc⟩ := hr3.2.2.2.resolve_left (by omega)
      have hcv := conv_reads hr3 rc3
      have hsl : (strN [9]).toList = [9] := by decide +kernel
      have HLN := Lib.hid (wb_len HB5.out)
      clear ho HT HL HB4 HO4 hr3 hc
      go_wp2_with fail
      refine HLN.out.mono ?_
      rintro _ w6 ⟨rfl, ho⟩
      have HO6 := Lib.hid (HW.out _ (HO5.out.trans (ho.mono (fun _ _ f => f.elim))))
      clear ho
      go_wp2_with fail
      go_ret
      exact ⟨rfl, HO6.out⟩
end Go.Proofs.Ytpjbgcbjelcnbaa.wnd
