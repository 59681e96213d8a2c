/- The tree: equal lists; the law's example. -/
import Derived.Test.YtfpeimihlihphaaTrM
namespace Go.Proofs.Ytfpeimihlihphaa.tre
open Go.RowKit mem
set_option linter.unusedVariables false

set_option maxRecDepth 100000 in
set_option maxHeartbeats 4000000 in
theorem same_any (a b : Option Addr) (n c d : Nat) (l : List Int) (w : World) (h1 : ReadsI w a n l) (h2 : ReadsI w b n l) :
    Calls Try.prog 25 #[.slice a n c, .slice b n d] w fun e w' => e = .returned (.bool true) ∧ Only (fun _ => False) w w' := by
  have hm := h1.2.1
  unfold maxLen at hm
  have H1 := Lib.hid h1
  have H2 := Lib.hid h2
  clear h1 h2
  go_enter Try.func25, Try.ntmps25
  go_wp2_with fail
  go_loopw [5] (fun i wr => ∃ k : Nat, k ≤ n ∧ i = .int .i64 k ∧ Hid (Only (fun _ => False) w wr)) (fun i _ => n - (intOf i).toNat)
  case atStart => exact ⟨0, by omega, rfl, Lib.hid (Only.refl _ _)⟩
  case round =>
    obtain ⟨k, hk, rfl, HO⟩ := hrel
    by_cases h8 : k < n
    · obtain ⟨b1, off1, rfl, hc1⟩ := H1.out.2.2.2.resolve_left (by omega)
      obtain ⟨b2, off2, rfl, hc2⟩ := H2.out.2.2.2.resolve_left (by omega)
      have e1 := HO.out.cell' (hc1 k h8) (fun f => f)
      have e2 := HO.out.cell' (hc2 k h8) (fun f => f)
      clear hc1 hc2
      generalize l.getD k 0 = x at *
      go_wp2_with fail
      go_region
      all_goals
        go_wp2_with fail
        go_roundw
        case rel => exact ⟨k + 1, by omega, by go_num, Lib.hid HO.out.drew⟩
        case measure => simp [intOf]; omega
    · obtain rfl : k = n := by omega
      go_wp2_with fail
      go_ret
      exact ⟨rfl, HO.out⟩
/-- a tree that the call made: its block is new -/
def TB (b : Nat) (w : World) (p : Nat) (T : List Nd) : Prop := TreeAt w p T ∧ b ≤ p ∧ Tok T
theorem TB.only {b : Nat} {w w' : World} {p : Nat} {T : List Nd} (h : TB b w p T) (ho : Only (fun _ => False) w w') : TB b w' p T := ⟨h.1.only ho (fun f => f), h.2⟩
/-- what a call that changes a tree says -/
def DidB (b p : Nat) (T' : List Nd) (E : Int) (w : World) (e : Ending) (w' : World) : Prop := e = .returned (.int .i64 E) ∧ TB b w' p T' ∧ Only (fun q => q = p) w w'
theorem createB {b p : Nat} {T : List Nd} {w : World} (h : TB b w p T) (ni np nk nl : Int) : Calls Try.prog 16 #[.pointer (some ⟨p, 0, none⟩), .int .i64 ni, .int .i64 np, .int .i64 nk, .int .i64 nl] w (DidB b p (putT T ⟨ni, np, nk, nl, false⟩) (putE T ⟨ni, np, nk, nl, false⟩) w) :=
  (create_any p T ni np nk nl w h.1).mono fun _ _ ⟨h1, h2, h3⟩ => ⟨h1, ⟨h2, h.2.1, h.2.2.put _⟩, h3⟩
theorem putB {b p : Nat} {T : List Nd} {w : World} (h : TB b w p T) (ni np nk nl : Int) (nc : Bool) : Calls Try.prog 20 #[.pointer (some ⟨p, 0, none⟩), .agg #[.int .i64 ni, .int .i64 np, .int .i64 nk, .int .i64 nl, .bool nc]] w (DidB b p (putT T ⟨ni, np, nk, nl, nc⟩) (putE T ⟨ni, np, nk, nl, nc⟩) w) :=
  (put_any p T ni np nk nl nc w h.1).mono fun _ _ ⟨h1, h2, h3⟩ => ⟨h1, ⟨h2, h.2.1, h.2.2.put _⟩, h3⟩
theorem moveB {b p : Nat} {T : List Nd} {w : World} (h : TB b w p T) (id par : Int) : Calls Try.prog 17 #[.pointer (some ⟨p, 0, none⟩), .int .i64 id, .int .i64 par] w (DidB b p (movT T id par) (movE T id par) w) :=
  (move_any p T id par w h.1 h.2.2.kok).mono fun _ _ ⟨h1, h2, h3⟩ => ⟨h1, ⟨h2, h.2.1, h.2.2.move _ _⟩, h3⟩
theorem closeB {b p : Nat} {T : List Nd} {w : World} (h : TB b w p T) (id : Int) : Calls Try.prog 18 #[.pointer (some ⟨p, 0, none⟩), .int .i64 id] w (DidB b p (cloT T id) (cloE T id) w) :=
  (close_any p T id w h.1).mono fun _ _ ⟨h1, h2, h3⟩ => ⟨h1, ⟨h2, h.2.1, h.2.2.close _⟩, h3⟩
theorem limitB {b p : Nat} {T : List Nd} {w : World} (h : TB b w p T) (id lim : Int) : Calls Try.prog 19 #[.pointer (some ⟨p, 0, none⟩), .int .i64 id, .int .i64 lim] w (DidB b p (limT T id lim) (limE T id lim) w) :=
  (setlimit_any p T id lim w h.1).mono fun _ _ ⟨h1, h2, h3⟩ => ⟨h1, ⟨h2, h.2.1, h.2.2.limit _ _⟩, h3⟩
theorem newB (b : Nat) (w : World) (hb : b ≤ w.heap.size) : Calls Try.prog 22 #[] w fun e w' => e = .returned (.pointer (some ⟨w.heap.size, 0, none⟩)) ∧ TB b w' w.heap.size T0 ∧ Only (fun _ => False) w w' :=
  (new_any w).mono fun _ _ ⟨h1, h2, h3⟩ => ⟨h1, ⟨h2, hb, Tok.new⟩, h3⟩
def A1 : Nd := ⟨1, 0, 1, -1, false⟩
def A2 : Nd := ⟨2, 1, 2, 5, false⟩
def A3 : Nd := ⟨3, 2, 3, -1, false⟩
def T1 : List Nd := putT T0 A1
def T2 : List Nd := putT T1 A2
def T3 : List Nd := putT T2 A3
theorem e1 : putE T0 A1 = 0 := by decide +kernel
theorem e2 : putE T1 A2 = 0 := by decide +kernel
theorem e3 : putE T2 A3 = 0 := by decide +kernel
theorem e4 : pathL T3 3 = [1, 2, 3] := by decide +kernel
theorem e5 : cloE T3 2 = 17 := by decide +kernel
theorem e6 : hasB T3 3 = true := by decide +kernel
theorem e7 : gotE T3 3 = 0 := by decide +kernel
theorem three_new {W : World} {g : Nat} (hg : g = W.heap.size) (t : TypeId) : ReadsI (W.alloc (.cells #[.int .i64 1, .int .i64 2, .int .i64 3] t)) (some ⟨g, 0, none⟩) 3 [1, 2, 3] := by
  refine ⟨rfl, by unfold maxLen; omega, fun c hc => by simp at hc; omega, .inr ⟨g, 0, rfl, fun i hi => ?_⟩⟩
  match i, hi with
  | 0, _ => exact alloc_cell hg rfl
  | 1, _ => exact alloc_cell hg rfl
  | 2, _ => exact alloc_cell hg rfl
set_option maxRecDepth 100000 in
set_option maxHeartbeats 4000000 in
theorem trees_any (w : World) : Calls Try.prog 15 #[] w fun e w' => e = .returned (.bool true) ∧ Only (fun _ => False) w w' := by
  go_enter Try.func15, Try.ntmps15
  go_wp2_with fail
  refine (newB w.heap.size w (Nat.le_refl _)).mono ?_
  rintro _ w1 ⟨rfl, ht, ho⟩
  have HT1 := Lib.hid ht
  have HO1 : Hid (Only (fun q => w.heap.size ≤ q) w w1) := Lib.hid (ho.mono (fun _ _ f => f.elim))
  clear ht ho
  go_wp2_with fail
  refine (createB HT1.out 1 0 1 (-1)).mono ?_
  rintro _ w2 ⟨rfl, ht, ho⟩
  rw [show putE T0 ⟨1, 0, 1, -1, false⟩ = 0 from e1]
  have HT2 : Hid (TB w.heap.size w2 w.heap.size T1) := Lib.hid ht
  have HO2 : Hid (Only (fun q => w.heap.size ≤ q) w w2) := Lib.hid (HO1.out.trans (ho.mono (fun _ _ e => by omega)))
  clear ht ho HT1 HO1
  go_wp2_with fail
  refine (createB HT2.out 2 1 2 5).mono ?_
  rintro _ w3 ⟨rfl, ht, ho⟩
  rw [show putE T1 ⟨2, 1, 2, 5, false⟩ = 0 from e2]
  have HT3 : Hid (TB w.heap.size w3 w.heap.size T2) := Lib.hid ht
  have HO3 : Hid (Only (fun q => w.heap.size ≤ q) w w3) := Lib.hid (HO2.out.trans (ho.mono (fun _ _ e => by omega)))
  clear ht ho HT2 HO2
  go_wp2_with fail
  refine (createB HT3.out 3 2 3 (-1)).mono ?_
  rintro _ w4 ⟨rfl, ht, ho⟩
  rw [show putE T2 ⟨3, 2, 3, -1, false⟩ = 0 from e3]
  have HT4 : Hid (TB w.heap.size w4 w.heap.size T3) := Lib.hid ht
  have HO4 : Hid (Only (fun q => w.heap.size ≤ q) w w4) := Lib.hid (HO3.out.trans (ho.mono (fun _ _ e => by omega)))
  clear ht ho HT3 HO3
  go_wp2_with fail
  refine (bigpath_any w.heap.size T3 3 w4 HT4.out.1 HT4.out.2.2.inv).mono ?_
  rintro _ w5 ⟨⟨v, rfl, hr⟩, ho⟩
  rw [e7]
  rw [if_pos e6, e4] at hr
  obtain ⟨a, c, rfl, hr, hb⟩ := hr
  have HT5 := Lib.hid (HT4.out.only ho)
  have HO5 : Hid (Only (fun q => w.heap.size ≤ q) w w5) := Lib.hid (HO4.out.trans (ho.mono (fun _ _ f => f.elim)))
  have HR := Lib.hid (show ReadsI w5 a 3 [1, 2, 3] from hr)
  have hlen : ([1, 2, 3] : List Int).length = 3 := rfl
  rw [hlen]
  clear hr hb ho HT4 HO4 hlen
  have HTA : Hid (TB w.heap.size (w5.alloc (.cells #[.int .i64 1, .int .i64 2, .int .i64 3] 3)) w.heap.size T3) := Lib.hid (HT5.out.only ((Only.refl _ _).alloc _))
  have HRA : Hid (ReadsI (w5.alloc (.cells #[.int .i64 1, .int .i64 2, .int .i64 3] 3)) a 3 [1, 2, 3]) := Lib.hid (HR.out.only ((Only.refl (fun _ => False) _).alloc _) (fun _ _ f => f))
  have HRB : Hid (ReadsI (w5.alloc (.cells #[.int .i64 1, .int .i64 2, .int .i64 3] 3)) (some ⟨w5.heap.size, 0, none⟩) 3 [1, 2, 3]) := Lib.hid (three_new rfl _)
  have HOA : Hid (Only (fun q => w.heap.size ≤ q) w (w5.alloc (.cells #[.int .i64 1, .int .i64 2, .int .i64 3] 3))) := Lib.hid (HO5.out.alloc _)
  clear HT5 HR HO5
  go_wp2_with fail
  refine (same_any _ _ _ _ _ _ _ HRA.out HRB.out).mono ?_
  rintro _ w6 ⟨rfl, ho⟩
  have HT6 := Lib.hid (HTA.out.only ho)
  have HO6 : Hid (Only (fun q => w.heap.size ≤ q) w w6) := Lib.hid (HOA.out.trans (ho.mono (fun _ _ f => f.elim)))
  clear ho HTA HOA HRA HRB
  go_wp2_with fail
  refine (closeB HT6.out 2).mono ?_
  rintro _ w7 ⟨rfl, ht, ho⟩
  rw [e5]
  have HO7 : Hid (Only (fun _ => False) w w7) := Lib.hid ((HO6.out.trans (ho.mono (fun _ _ e => by omega))).mono (fun k hk hs => by omega))
  clear ht ho HT6 HO6
  go_wp2_with fail
  go_ret
  exact ⟨rfl, HO7.out⟩
end Go.Proofs.Ytfpeimihlihphaa.tre
