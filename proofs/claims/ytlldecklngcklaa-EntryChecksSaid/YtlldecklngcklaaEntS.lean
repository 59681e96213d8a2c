/- Entries: the document's own Write. -/
import Derived.Test.YtlldecklngcklaaEntR
import Derived.Test.YtlldecklngcklaaRefCodI
namespace Go.Proofs.Ytlldecklngcklaa.entw
open Go.RowKit mem entm codm codw
set_option linter.unusedVariables false

/-- a leg's bytes, an entry's -/
def encG (l : Lg) : List Nat := rucount l.k ++ (rucount l.n ++ (rucount l.g ++ enc (zig l.a)))
def encS (ls : List Lg) : List Nat := ls.flatMap encG
def encE (kind : Int) (ls : List Lg) : List Nat := rucount kind ++ (rucount (ls.length : Int) ++ encS ls)

theorem rucount_len (n : Int) : (rucount n).length ≤ 11 := by
  unfold rucount
  split
  · simp
  · exact (enc_length _).1
theorem encG_len (l : Lg) : (encG l).length ≤ 44 := by
  have h1 := rucount_len l.k
  have h2 := rucount_len l.n
  have h3 := rucount_len l.g
  have h4 := (enc_length (zig l.a)).1
  unfold encG
  simp only [List.length_append]
  omega
theorem encS_step (ls : List Lg) (k : Nat) (h : k < ls.length) : encS (ls.take (k + 1)) = encS (ls.take k) ++ encG (ls.getD k default) := by
  have e : ls.getD k default = ls[k] := by simp [List.getD, h]
  rw [List.take_succ_eq_append_getElem h, e]
  unfold encS
  rw [List.flatMap_append]
  simp
theorem encS_len : ∀ (ls : List Lg), (encS ls).length ≤ 44 * ls.length := by
  intro ls
  induction ls with
  | nil => simp [encS]
  | cons l r ih =>
    have := encG_len l
    have e : encS (l :: r) = encG l ++ encS r := by simp [encS]
    rw [e, List.length_append, List.length_cons]
    omega
theorem encSt_len (ls : List Lg) (k : Nat) : (encS (ls.take k)).length ≤ 44 * k := by
  have h := encS_len (ls.take k)
  have h2 : (ls.take k).length ≤ k := by rw [List.length_take]; omega
  omega

set_option maxHeartbeats 4000000 in
attribute [local go_sem ↓] Go.wp_at_zero Go.wp_at_succ in
theorem rwrite_any (kind : Int) (hki : InI kind) (a : Option Addr) (len cap : Nat) (ls : List Lg) (w : World) (h : ReadsL w a len ls) (hm : len ≤ 1000) :
    Calls Try.prog 25 #[.agg #[.int .i64 kind, .slice a len cap]] w fun e w' => e = .returned (.string (strN (encE kind ls))) ∧ Only (fun _ => False) w w' := by
  have H := Lib.hid h
  have HL : Hid (ls.length = len) := Lib.hid h.1
  have HI := Lib.hid h.2.2.1
  clear h
  go_enter Try.func25, Try.ntmps25
  go_wp2_with fail
  obtain ⟨w0, hw0⟩ : ∃ w0, w0 = w.alloc (Obj.cells #[Value.int IntKind.i64 kind, Value.slice a len cap] 24) := ⟨_, rfl⟩
  have hby : w0.cell? ⟨w.heap.size, 0, none⟩ = some (.int .i64 kind) := by rw [hw0]; exact alloc_new _ _ _ _ _ _ rfl rfl
  have hbx : w0.cell? ⟨w.heap.size, 1, none⟩ = some (.slice a len cap) := by rw [hw0]; exact alloc_new _ _ _ _ _ _ rfl rfl
  have HO0 : Hid (Only (fun _ => False) w w0) := by rw [hw0]; exact Lib.hid ((Only.refl _ w).alloc _)
  have HBX := Lib.hid hbx
  rw [← hw0]
  have HS0 : Hid (∀ w', Only (fun _ => False) w0 w' → Only (fun _ => False) w0 w' ∧ w'.cell? ⟨w.heap.size, 0, none⟩ = some (.int .i64 kind) ∧ w'.cell? ⟨w.heap.size, 1, none⟩ = some (.slice a len cap)) := Lib.hid (fun w' ho => ⟨ho, ho.cell' hby (fun f => f), ho.cell' hbx (fun f => f)⟩)
  clear hw0
  obtain ⟨A, HA⟩ : ∃ A, Hid (strN (rucount kind) = A) := ⟨_, Lib.hid rfl⟩
  have hA1 : A.size ≤ 11 := by rw [← HA.out, strN_size]; exact rucount_len _
  obtain ⟨B, HB⟩ : ∃ B, Hid (strN (rucount (len : Int)) = B) := ⟨_, Lib.hid rfl⟩
  have hB1 : B.size ≤ 11 := by rw [← HB.out, strN_size]; exact rucount_len _
  have hq1 : ¬ (9223372036854775807 < A.size + B.size) := by omega
  have hq2 : A.size + B.size ≤ 9223372036854775807 := by omega
  have HAB : Hid (A ++ B = strN (rucount kind ++ rucount (len : Int))) := Lib.hid (by rw [← HA.out, ← HB.out, strN_append])
  have C1 : Hid (∀ w', Calls Try.prog 83 #[.int .i64 kind] w' fun en w'' => en = .returned (.string A) ∧ Only (fun _ => False) w' w'') := Lib.hid (by rw [← HA.out]; exact fun w' => ruint_any kind w' hki)
  have C2 : Hid (∀ w', Calls Try.prog 83 #[.int .i64 (len : Int)] w' fun en w'' => en = .returned (.string B) ∧ Only (fun _ => False) w' w'') := Lib.hid (by rw [← HB.out]; exact fun w' => ruint_any (len : Int) w' (by omega))
  go_region_held3 (fun w' => Only (fun _ => False) w0 w' ∧ w'.cell? ⟨w.heap.size, 0, none⟩ = some (.int .i64 kind) ∧ w'.cell? ⟨w.heap.size, 1, none⟩ = some (.slice a len cap))
    ((refine HS0.out _ ?_; first | exact (Only.refl _ _).drew | exact Only.refl _ _ | (go_split_ands; exact Only.trans (by assumption) ho)))
    (first | (go_at_call 83; (with_reducible refine (C1.out _).mono ?_); rintro _ wn ⟨rfl, ho⟩) | (go_at_call 83; (with_reducible refine (C2.out _).mono ?_); rintro _ wn ⟨rfl, ho⟩))
  have HO2 : Hid (Only (fun _ => False) w0 wn) := Lib.hid (by go_split_ands; assumption)
  clear hA1 hB1 hq1 hq2
  rw [HAB.out]
  have hbx2 := HO2.out.cell' HBX.out (fun f => f)
  generalize wn = w2 at *
  go_wp2_with fail
  go_loopw [3, 4] (fun sv i wr => ∃ k : Nat, k ≤ len ∧ i = .int .i64 k ∧ sv = .string (strN ((rucount kind ++ rucount (len : Int)) ++ encS (ls.take k))) ∧ Hid (Only (fun _ => False) w2 wr)) (fun _ i _ => len - (intOf i).toNat)
  case atStart => exact ⟨0, by omega, rfl, by simp [encS], Lib.hid (Only.refl _ _)⟩
  case round =>
    obtain ⟨k, hk, rfl, rfl, HW⟩ := hrel
    have hbx := HW.out.cell' hbx2 (fun f => f)
    have HWr : Hid (Only (fun _ => False) w wr) := Lib.hid (HO0.out.trans (HO2.out.trans HW.out))
    by_cases h8 : k < len
    · obtain ⟨b, off, rfl, hcell⟩ := H.out.2.2.2.resolve_left (by omega)
      obtain ⟨hc0, hc1, hc2, hc3⟩ := hcell k h8
      have c0 := HWr.out.cell' hc0 (fun f => f)
      have c1 := HWr.out.cell' hc1 (fun f => f)
      have c2 := HWr.out.cell' hc2 (fun f => f)
      have c3 := HWr.out.cell' hc3 (fun f => f)
      have HIL := Lib.hid (HI.out _ (getL_mem ls k (by rw [HL.out]; exact h8)))
      have HST := Lib.hid (encS_step ls k (by rw [HL.out]; exact h8))
      have hl1 := encSt_len ls k
      have hl2 := rucount_len kind
      have hl3 := rucount_len (len : Int)
      have hS1 : (strN ((rucount kind ++ rucount (len : Int)) ++ encS (ls.take k))).size ≤ 22 + 44 * k := by rw [strN_size]; simp only [List.length_append]; omega
      clear hc0 hc1 hc2 hc3 hcell hl1 hl2 hl3 C1 C2
      generalize ls.getD k default = l at *
      obtain ⟨lk, ln, lg, la⟩ := l
      dsimp only at c0 c1 c2 c3 HIL
      obtain ⟨S, HS⟩ : ∃ S, Hid (strN ((rucount kind ++ rucount (len : Int)) ++ encS (ls.take k)) = S) := ⟨_, Lib.hid rfl⟩
      rw [HS.out] at hS1
      rw [HS.out]
      obtain ⟨X1, HX1⟩ : ∃ X, Hid (strN (rucount lk) = X) := ⟨_, Lib.hid rfl⟩
      obtain ⟨X2, HX2⟩ : ∃ X, Hid (strN (rucount ln) = X) := ⟨_, Lib.hid rfl⟩
      obtain ⟨X3, HX3⟩ : ∃ X, Hid (strN (rucount lg) = X) := ⟨_, Lib.hid rfl⟩
      obtain ⟨X4, HX4⟩ : ∃ X, Hid (strN (enc (zig la)) = X) := ⟨_, Lib.hid rfl⟩
      have hX1 : X1.size ≤ 11 := by rw [← HX1.out, strN_size]; exact rucount_len _
      have hX2 : X2.size ≤ 11 := by rw [← HX2.out, strN_size]; exact rucount_len _
      have hX3 : X3.size ≤ 11 := by rw [← HX3.out, strN_size]; exact rucount_len _
      have hX4 : X4.size ≤ 11 := by rw [← HX4.out, strN_size]; exact (enc_length _).1
      have hZ1 : (S ++ X1).size ≤ 33 + 44 * k := by rw [ByteArray.size_append]; omega
      have hZ2 : (S ++ X1 ++ X2).size ≤ 44 + 44 * k := by rw [ByteArray.size_append]; omega
      have hZ3 : (S ++ X1 ++ X2 ++ X3).size ≤ 55 + 44 * k := by rw [ByteArray.size_append]; omega
      have p1 : ¬ (9223372036854775807 < S.size + X1.size) := by omega
      have p2 : ¬ (9223372036854775807 < S.size + X1.size + X2.size) := by omega
      have p3 : ¬ (9223372036854775807 < S.size + X1.size + X2.size + X3.size) := by omega
      have p4 : ¬ (9223372036854775807 < S.size + X1.size + X2.size + X3.size + X4.size) := by omega
      have q1 : S.size + X1.size ≤ 9223372036854775807 := by omega
      have q2 : S.size + X1.size + X2.size ≤ 9223372036854775807 := by omega
      have q3 : S.size + X1.size + X2.size + X3.size ≤ 9223372036854775807 := by omega
      have q4 : S.size + X1.size + X2.size + X3.size + X4.size ≤ 9223372036854775807 := by omega
      have D1 : Hid (∀ w', Calls Try.prog 83 #[.int .i64 lk] w' fun en w'' => en = .returned (.string X1) ∧ Only (fun _ => False) w' w'') := Lib.hid (by rw [← HX1.out]; exact fun w' => ruint_any lk w' HIL.out.1)
      have D2 : Hid (∀ w', Calls Try.prog 83 #[.int .i64 ln] w' fun en w'' => en = .returned (.string X2) ∧ Only (fun _ => False) w' w'') := Lib.hid (by rw [← HX2.out]; exact fun w' => ruint_any ln w' HIL.out.2.1)
      have D3 : Hid (∀ w', Calls Try.prog 83 #[.int .i64 lg] w' fun en w'' => en = .returned (.string X3) ∧ Only (fun _ => False) w' w'') := Lib.hid (by rw [← HX3.out]; exact fun w' => ruint_any lg w' HIL.out.2.2.1)
      have D4 : Hid (∀ w', Calls Try.prog 84 #[.int .i64 la] w' fun en w'' => en = .returned (.string X4) ∧ Only (fun _ => False) w' w'') := Lib.hid (by rw [← HX4.out]; exact fun w' => rint_ref la w' HIL.out.2.2.2)
      have HRES : Hid (S ++ X1 ++ X2 ++ X3 ++ X4 = strN ((rucount kind ++ rucount (len : Int)) ++ encS (ls.take (k + 1)))) := Lib.hid (by
        rw [← HS.out, ← HX1.out, ← HX2.out, ← HX3.out, ← HX4.out, strN_append, strN_append, strN_append, strN_append, HST.out]
        unfold encG
        simp only [List.append_assoc])
      clear HX1 HX2 HX3 HX4 HST HI
      go_wp2_with fail
      obtain ⟨wx, hwx⟩ : ∃ wx, wx = wr.alloc (Obj.cells #[Value.int IntKind.i64 lk, Value.int IntKind.i64 ln, Value.int IntKind.i64 lg, Value.int IntKind.i64 la] 36) := ⟨_, rfl⟩
      have x0 : wx.cell? ⟨wr.heap.size, 0, none⟩ = some (.int .i64 lk) := by rw [hwx]; exact alloc_new _ _ _ _ _ _ rfl rfl
      have x1 : wx.cell? ⟨wr.heap.size, 1, none⟩ = some (.int .i64 ln) := by rw [hwx]; exact alloc_new _ _ _ _ _ _ rfl rfl
      have x2 : wx.cell? ⟨wr.heap.size, 2, none⟩ = some (.int .i64 lg) := by rw [hwx]; exact alloc_new _ _ _ _ _ _ rfl rfl
      have x3 : wx.cell? ⟨wr.heap.size, 3, none⟩ = some (.int .i64 la) := by rw [hwx]; exact alloc_new _ _ _ _ _ _ rfl rfl
      have HX : Hid (Only (fun _ => False) w2 wx) := by rw [hwx]; exact Lib.hid (HW.out.alloc _)
      rw [← hwx]
      have HS1 : Hid (∀ w', Only (fun _ => False) wx w' → Only (fun _ => False) wx w' ∧ w'.cell? ⟨wr.heap.size, 0, none⟩ = some (.int .i64 lk) ∧ w'.cell? ⟨wr.heap.size, 1, none⟩ = some (.int .i64 ln) ∧ w'.cell? ⟨wr.heap.size, 2, none⟩ = some (.int .i64 lg) ∧ w'.cell? ⟨wr.heap.size, 3, none⟩ = some (.int .i64 la)) := Lib.hid (fun w' ho => ⟨ho, ho.cell' x0 (fun f => f), ho.cell' x1 (fun f => f), ho.cell' x2 (fun f => f), ho.cell' x3 (fun f => f)⟩)
      clear hwx c0 c1 c2 c3 hbx
      go_region_held3 (fun w' => Only (fun _ => False) wx w' ∧ w'.cell? ⟨wr.heap.size, 0, none⟩ = some (.int .i64 lk) ∧ w'.cell? ⟨wr.heap.size, 1, none⟩ = some (.int .i64 ln) ∧ w'.cell? ⟨wr.heap.size, 2, none⟩ = some (.int .i64 lg) ∧ w'.cell? ⟨wr.heap.size, 3, none⟩ = some (.int .i64 la))
        ((refine HS1.out _ ?_; first | exact (Only.refl _ _).drew | exact Only.refl _ _ | (go_split_ands; exact Only.trans (by assumption) ho)))
        (first | (go_at_call 83; (with_reducible refine (D1.out _).mono ?_); rintro _ wn ⟨rfl, ho⟩) | (go_at_call 83; (with_reducible refine (D2.out _).mono ?_); rintro _ wn ⟨rfl, ho⟩) | (go_at_call 83; (with_reducible refine (D3.out _).mono ?_); rintro _ wn ⟨rfl, ho⟩) | (go_at_call 84; (with_reducible refine (D4.out _).mono ?_); rintro _ wn ⟨rfl, ho⟩))
      have HO6 : Hid (Only (fun _ => False) w2 wn) := Lib.hid (HX.out.trans (by go_split_ands; assumption))
      clear hS1 hX1 hX2 hX3 hX4 hZ1 hZ2 hZ3 p1 p2 p3 p4 q1 q2 q3 q4
      rw [HRES.out]
      go_wp2_with fail
      go_roundw
      case rel => exact ⟨k + 1, by omega, by go_num, rfl, HO6⟩
      case measure => simp [intOf]; omega
    · obtain rfl : k = len := by omega
      have HT : Hid (strN ((rucount kind ++ rucount (k : Int)) ++ encS (ls.take k)) = strN (encE kind ls)) := Lib.hid (by
        rw [List.take_of_length_le (by rw [HL.out]; omega)]
        unfold encE
        rw [HL.out, List.append_assoc])
      rw [HT.out]
      go_wp2_with fail
      go_ret
      exact ⟨rfl, HWr.out⟩
end Go.Proofs.Ytlldecklngcklaa.entw
