/- Tariffs: a block's tier; so many blocks spread over tiers. -/
import Derived.Test.YtonacdjaimokeaaTirB
import Derived.Test.YtonacdjaimokeaaTirC
import Derived.Test.YtonacdjaimokeaaTirD
namespace Go.Proofs.Ytonacdjaimokeaa.tirw
open Go.RowKit mem tirm intm
set_option linter.unusedVariables false

/-- lines in memory, and no error -/
def LinesAt (ls : List Ln) (w : World) (e : Ending) (w' : World) : Prop :=
  ∃ a cap, e = .returned (.tuple #[.slice a ls.length cap, .int .i64 0]) ∧ ReadsN w' a ls.length ls ∧ Only (fun _ => False) w w'

/-- within their bounds -/
def inB (p n : Int) : Prop := 0 ≤ p ∧ p ≤ 1099511627776 ∧ 0 ≤ n ∧ n ≤ 1073741824
set_option maxRecDepth 100000 in
set_option maxHeartbeats 2000000 in
theorem split_no (G M B : Int) (a : Option Addr) (len cap : Nat) (ts : List Tr) (p n : Int) (w : World) (h : ReadsT w a len ts) (hc : tchk G M B ts ≠ 0) :
    Calls Try.prog 54 #[.agg #[.int .i64 G, .int .i64 M, .int .i64 B, .slice a len cap], .int .i64 p, .int .i64 n] w fun e w' => e = .returned (.tuple #[.slice none 0 0, .int .i64 1]) ∧ Only (fun _ => False) w w' := by
  have HO : Hid (∀ o, Only (fun _ => False) w (w.alloc o)) := Lib.hid (fun o => (Only.refl _ w).alloc o)
  have HC := Lib.hid (fun w' (ho : Only (fun _ => False) w w') => tcheck_any G M B a len cap ts w' (h.only ho (fun _ _ f => f)))
  have h2 : (tchk G M B ts != 0) = true := by simpa using hc
  clear h hc
  generalize tchk G M B ts = c at *
  go_enter Try.func54, Try.ntmps54
  go_wp2_with fail
  refine (HC.out _ (HO.out _)).mono ?_
  rintro _ w1 ⟨rfl, h3⟩
  have HF := Lib.hid ((HO.out _).trans h3)
  clear h3
  go_wp2_with fail
  go_ret2
  exact ⟨rfl, HF.out⟩
set_option maxRecDepth 100000 in
set_option maxHeartbeats 2000000 in
theorem split_vol (G B : Int) (a : Option Addr) (len cap : Nat) (ts : List Tr) (p n : Int) (w : World) (h : ReadsT w a len ts) (hc : tchk G 2 B ts = 0) (h1 : 0 ≤ p) (h2 : p ≤ 1099511627776) (h3 : 1 ≤ n) (h4 : n ≤ 1073741824) :
    Calls Try.prog 54 #[.agg #[.int .i64 G, .int .i64 2, .int .i64 B, .slice a len cap], .int .i64 p, .int .i64 n] w (LinesAt [⟨idxF (p + n) 0 ts, n, (ts.getD (idxF (p + n) 0 ts).toNat default).p⟩] w) := by
  have HC := Lib.hid (fun w' (ho : Only (fun _ => False) w w') => tcheck_any G 2 B a len cap ts w' (h.only ho (fun _ _ f => f)))
  have H := Lib.hid h
  obtain ⟨hM0, _, hB0, hl0, hts⟩ := (tchk_ok G 2 B ts).1 hc
  rw [hc] at HC
  have HTS := Lib.hid hts
  obtain ⟨w0, hw0⟩ : ∃ w0, w0 = w.alloc (.cells #[.int .i64 G, .int .i64 2, .int .i64 B, .slice a len cap] 24) := ⟨_, rfl⟩
  have HO0 : Hid (Only (fun _ => False) w w0) := Lib.hid (by rw [hw0]; exact (Only.refl _ w).alloc _)
  have HBX : Hid (w0.cell? ⟨w.heap.size, 3, none⟩ = some (.slice a len cap) ∧ w0.cell? ⟨w.heap.size, 1, none⟩ = some (.int .i64 2)) := Lib.hid (by rw [hw0]; exact ⟨alloc_new _ _ _ _ _ _ rfl rfl, alloc_new _ _ _ _ _ _ rfl rfl⟩)
  have hix := idxF_in (p + n) ts 0 0 hts (by intro e; rw [e] at hl0; simp at hl0)
  have HI := Lib.hid (fun w' (ho : Only (fun _ => False) w w') => index_any a len cap ts (p + n) w' (h.only ho (fun _ _ f => f)))
  obtain ⟨j, hj⟩ : ∃ j : Nat, idxF (p + n) 0 ts = (j : Int) := ⟨(idxF (p + n) 0 ts).toNat, by omega⟩
  have hlt : ts.length = len := h.1
  rw [hj] at HI hix ⊢
  have hjl : j < len := by omega
  obtain ⟨b, off, rfl, hcell⟩ := h.2.2.2.resolve_left (by omega)
  obtain ⟨d0, d1⟩ := hcell j hjl
  have hjt : ((j : Int)).toNat = j := by omega
  rw [hjt]
  have HD := Lib.hid d1
  clear h hc hts hcell d0 d1 hj hix hM0 hB0 hl0 hjt
  generalize (ts.getD j default).p = y at *
  go_enter Try.func54, Try.ntmps54
  go_wp2_with fail
  rw [← hw0]
  clear hw0
  refine (HC.out _ HO0.out).mono ?_
  rintro _ w1 ⟨rfl, h3⟩
  have HF := Lib.hid (HO0.out.trans h3)
  have b3 := h3.cell' HBX.out.1 (fun f => f)
  have b1 := h3.cell' HBX.out.2 (fun f => f)
  clear h3
  go_wp2_with fail
  refine (HI.out _ HF.out).mono ?_
  rintro _ w2 ⟨rfl, h5⟩
  have c3 := h5.cell' b3 (fun f => f)
  have HF2 := Lib.hid (HF.out.trans h5)
  have c1 := HF2.out.cell' HD.out (fun f => f)
  clear h5 b3 b1
  go_wp2_with fail
  refine bodyPost_ret (v := .tuple #[.slice (some ⟨w2.heap.size, 0, none⟩) 1 1, .int .i64 0]) (by simp [results, Try.results54, go_sem]) rfl ⟨some ⟨w2.heap.size, 0, none⟩, 1, rfl, ⟨rfl, .inr ⟨w2.heap.size, 0, rfl, fun i hi => ?_⟩⟩, HF2.out.alloc _⟩
  obtain rfl : i = 0 := by simpa using hi
  exact ⟨alloc_new _ _ _ _ _ _ rfl rfl, alloc_new _ _ _ _ _ _ rfl rfl, alloc_new _ _ _ _ _ _ rfl rfl⟩
set_option maxRecDepth 100000 in
set_option maxHeartbeats 2000000 in
theorem split_grad (G B : Int) (a : Option Addr) (len cap : Nat) (ts : List Tr) (p n : Int) (w : World) (h : ReadsT w a len ts) (hc : tchk G 1 B ts = 0) (h1 : 0 ≤ p) (h2 : p ≤ 1099511627776) (h3 : 1 ≤ n) (h4 : n ≤ 1073741824) :
    Calls Try.prog 54 #[.agg #[.int .i64 G, .int .i64 1, .int .i64 B, .slice a len cap], .int .i64 p, .int .i64 n] w (LinesAt (gradF (p + n) 0 p ts) w) := by
  have HC := Lib.hid (fun w' (ho : Only (fun _ => False) w w') => tcheck_any G 1 B a len cap ts w' (h.only ho (fun _ _ f => f)))
  have H := Lib.hid h
  obtain ⟨hM0, _, hB0, hl0, hts⟩ := (tchk_ok G 1 B ts).1 hc
  rw [hc] at HC
  have HTS := Lib.hid hts
  obtain ⟨w0, hw0⟩ : ∃ w0, w0 = w.alloc (.cells #[.int .i64 G, .int .i64 1, .int .i64 B, .slice a len cap] 24) := ⟨_, rfl⟩
  have HO0 : Hid (Only (fun _ => False) w w0) := Lib.hid (by rw [hw0]; exact (Only.refl _ w).alloc _)
  have HBX : Hid (w0.cell? ⟨w.heap.size, 3, none⟩ = some (.slice a len cap) ∧ w0.cell? ⟨w.heap.size, 1, none⟩ = some (.int .i64 1)) := Lib.hid (by rw [hw0]; exact ⟨alloc_new _ _ _ _ _ _ rfl rfl, alloc_new _ _ _ _ _ _ rfl rfl⟩)
  have hlt : ts.length = len := h.1
  have HI := Lib.hid (fun w' (ho : Only (fun _ => False) w w') => grad_any a len cap ts p (p + n) w' (h.only ho (fun _ _ f => f)) (by omega) h1 (by omega) (by omega))
  clear h hc hts hM0 hB0 hl0
  generalize gradF (p + n) 0 p ts = ls at *
  go_enter Try.func54, Try.ntmps54
  go_wp2_with fail
  rw [← hw0]
  clear hw0
  refine (HC.out _ HO0.out).mono ?_
  rintro _ w1 ⟨rfl, h3⟩
  have HF := Lib.hid (HO0.out.trans h3)
  have b3 := h3.cell' HBX.out.1 (fun f => f)
  have b1 := h3.cell' HBX.out.2 (fun f => f)
  clear h3
  go_wp2_with fail
  refine (HI.out _ HF.out).mono ?_
  rintro _ w2 ⟨v, rfl, hv, _, h5⟩
  obtain ⟨av, cv, rfl, hrv, hcv⟩ := own_readsN hv
  have HF2 := Lib.hid (HF.out.trans h5)
  have HRV := Lib.hid hrv
  clear h5 b3 b1 hv hrv
  go_wp2_with fail
  refine bodyPost_ret (v := .tuple #[.slice av ls.length cv, .int .i64 0]) (by simp [results, Try.results54, go_sem]) rfl ⟨av, cv, rfl, HRV.out, HF2.out⟩
end Go.Proofs.Ytonacdjaimokeaa.tirw
