/- The tree: equal lists; the law's example. -/
import Derived.Test.YtkbaafgaaiekpaaTrM
namespace Go.Proofs.Ytkbaafgaaiekpaa.tre
open Go.RowKit mem
set_option linter.unusedVariables false

/-- a tree that the call made: its block is new -/
def TB (b : Nat) (w : World) (p : Nat) (T : List Nd) : Prop := TreeAt w p T ∧ b ≤ p ∧ Tok T
theorem TB.only {b : Nat} {w w' : World} {p : Nat} {T : List Nd} (h : TB b w p T) (ho : Only (fun _ => False) w w') : TB b w' p T := ⟨h.1.only ho (fun f => f), h.2⟩
/-- what a call that changes a tree says -/
def DidB (b p : Nat) (T' : List Nd) (E : Int) (w : World) (e : Ending) (w' : World) : Prop := e = .returned (.int .i64 E) ∧ TB b w' p T' ∧ Only (fun q => q = p) w w'
theorem createB {b p : Nat} {T : List Nd} {w : World} (h : TB b w p T) (ni np nk nl : Int) : Calls Try.prog 18 #[.pointer (some ⟨p, 0, none⟩), .int .i64 ni, .int .i64 np, .int .i64 nk, .int .i64 nl] w (DidB b p (putT T ⟨ni, np, nk, nl, false⟩) (putE T ⟨ni, np, nk, nl, false⟩) w) :=
  (create_any p T ni np nk nl w h.1).mono fun _ _ ⟨h1, h2, h3⟩ => ⟨h1, ⟨h2, h.2.1, h.2.2.put _⟩, h3⟩
theorem putB {b p : Nat} {T : List Nd} {w : World} (h : TB b w p T) (ni np nk nl : Int) (nc : Bool) : Calls Try.prog 44 #[.pointer (some ⟨p, 0, none⟩), .agg #[.int .i64 ni, .int .i64 np, .int .i64 nk, .int .i64 nl, .bool nc]] w (DidB b p (putT T ⟨ni, np, nk, nl, nc⟩) (putE T ⟨ni, np, nk, nl, nc⟩) w) :=
  (put_any p T ni np nk nl nc w h.1).mono fun _ _ ⟨h1, h2, h3⟩ => ⟨h1, ⟨h2, h.2.1, h.2.2.put _⟩, h3⟩
theorem newB (b : Nat) (w : World) (hb : b ≤ w.heap.size) : Calls Try.prog 17 #[] w fun e w' => e = .returned (.pointer (some ⟨w.heap.size, 0, none⟩)) ∧ TB b w' w.heap.size T0 ∧ Only (fun _ => False) w w' :=
  (new_any w).mono fun _ _ ⟨h1, h2, h3⟩ => ⟨h1, ⟨h2, hb, Tok.new⟩, h3⟩
def A1 : Nd := ⟨1, 0, 1, -1, false⟩
def A2 : Nd := ⟨2, 1, 2, 5, false⟩
def A3 : Nd := ⟨3, 2, 3, -1, false⟩
def T1 : List Nd := putT T0 A1
def T2 : List Nd := putT T1 A2
def T3 : List Nd := putT T2 A3
theorem e1 : putE T0 A1 = 0 := by decide +kernel
theorem e2 : putE T1 A2 = 0 := by decide +kernel
theorem e3 : putE T2 A3 = 0 := by decide +kernel
theorem e4 : pathL T3 3 = [1, 2, 3] := by decide +kernel
theorem e5 : cloE T3 2 = 17 := by decide +kernel
theorem e6 : hasB T3 3 = true := by decide +kernel
theorem e7 : gotE T3 3 = 0 := by decide +kernel
theorem three_new {W : World} {g : Nat} (hg : g = W.heap.size) (t : TypeId) : ReadsI (W.alloc (.cells #[.int .i64 1, .int .i64 2, .int .i64 3] t)) (some ⟨g, 0, none⟩) 3 [1, 2, 3] := by
  refine ⟨rfl, by unfold maxLen; omega, fun c hc => by simp at hc; omega, .inr ⟨g, 0, rfl, fun i hi => ?_⟩⟩
  match i, hi with
  | 0, _ => exact alloc_cell hg rfl
  | 1, _ => exact alloc_cell hg rfl
  | 2, _ => exact alloc_cell hg rfl
end Go.Proofs.Ytkbaafgaaiekpaa.tre
