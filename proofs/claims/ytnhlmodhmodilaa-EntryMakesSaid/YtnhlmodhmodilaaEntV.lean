/- Entries: Read. -/
import Derived.Test.YtnhlmodhmodilaaEntU
namespace Go.Proofs.Ytnhlmodhmodilaa.entw
open Go.RowKit mem entm codm codw
set_option linter.unusedVariables false

def ReadAt (kind : Int) (ls : List Lg) (w : World) (e : Ending) (w' : World) : Prop :=
  ∃ g cap, e = .returned (.tuple #[.agg #[.int .i64 kind, .slice (some ⟨g, 0, none⟩) ls.length cap], .int .i64 0]) ∧ ReadsL w' (some ⟨g, 0, none⟩) ls.length ls ∧ w.heap.size ≤ g ∧ Only (fun _ => False) w w'

/-- a reader over blocks between two sizes -/
def RS (A B p : Nat) (wr : World) (l : List Nat) : Prop := ∃ a len cap, RD wr p a len cap l 0 ∧ (∀ x, a = some x → A ≤ x.block ∧ x.block < B)

theorem rs_uint {A B p : Nat} {wr : World} {n : Int} {r : List Nat} (h : RS A B p wr (rucount n ++ r)) (h0 : 0 ≤ n) (h1 : n ≤ 64) :
    Calls Try.prog 22 #[.pointer (some ⟨p, 0, none⟩), .int .i64 64] wr fun en w' => en = .returned (.int .i64 n) ∧ RS A B p w' r ∧ Only (fun k => k = p) wr w' := by
  obtain ⟨a, len, cap, hr, hx⟩ := h
  have hu := uint_any p a len cap _ 0 64 wr hr
  rw [runt_ru n 64 r h0 h1 (by omega)] at hu
  refine hu.mono ?_
  rintro e w' ⟨rfl, a', len', cap', hr', ho', hl'⟩
  refine ⟨by dsimp only; rw [Int.toNat_of_nonneg h0], ⟨a', len', cap', hr', fun x e => ?_⟩, ho'⟩
  obtain ⟨y, hy, hb⟩ := hl' x e
  rw [← hb]
  exact hx y hy
theorem rs_int {A B p : Nat} {wr : World} {n : Int} {r : List Nat} (h : RS A B p wr (enc (zig n) ++ r)) (h0 : InI n) :
    Calls Try.prog 23 #[.pointer (some ⟨p, 0, none⟩)] wr fun en w' => en = .returned (.int .i64 n) ∧ RS A B p w' r ∧ Only (fun k => k = p) wr w' := by
  obtain ⟨a, len, cap, hr, hx⟩ := h
  have hu := int_any p a len cap _ 0 wr hr
  rw [rint_enc n r h0] at hu
  refine hu.mono ?_
  rintro e w' ⟨rfl, a', len', cap', hr', ho', hl'⟩
  refine ⟨rfl, ⟨a', len', cap', hr', fun x e => ?_⟩, ho'⟩
  obtain ⟨y, hy, hb⟩ := hl' x e
  rw [← hb]
  exact hx y hy
theorem rs_end {A B p : Nat} {wr : World} (h : RS A B p wr []) :
    Calls Try.prog 24 #[.pointer (some ⟨p, 0, none⟩)] wr fun en w' => en = .returned (.int .i64 0) ∧ wr = w' := by
  obtain ⟨a, len, cap, hr, hx⟩ := h
  exact end_any p a len cap [] 0 wr hr
theorem RS.only {A B p : Nat} {wr w' : World} {l : List Nat} {S : Nat → Prop} (h : RS A B p wr l) (ho : Only S wr w') (hp : p < B) (hS : ∀ k, S k → B ≤ k) : RS A B p w' l := by
  obtain ⟨a, len, cap, hr, hx⟩ := h
  exact ⟨a, len, cap, hr.only ho (fun f => by have := hS _ f; omega) (fun x e f => by have := hS _ f; have := (hx x e).2; omega), hx⟩

end Go.Proofs.Ytnhlmodhmodilaa.entw
