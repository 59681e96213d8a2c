/- What a reader answers for what was written. -/
import Derived.Test.YtdeljhkombbncabCodBackM
namespace Go.Proofs.Ytdeljhkombbncab.codw
open Go.RowKit mem codm
set_option linter.unusedVariables false

theorem uint_back (p : Nat) (a : Option Addr) (len cap : Nat) (n : Int) (r : List Nat) (w : World) (h0 : 0 ≤ n) (h1 : n ≤ 9223372036854775807) (h : RD w p a len cap (enc n.toNat ++ r) 0) :
    Calls Try.prog 19 #[.pointer (some ⟨p, 0, none⟩), .int .i64 9223372036854775807] w fun en w' => en = .returned (.int .i64 n) ∧ After p a w w' r 0 := by
  have hc := uint_any p a len cap (enc n.toNat ++ r) 0 9223372036854775807 w h
  rw [runt_back n h0 h1 r] at hc
  have e : ((n.toNat : Nat) : Int) = n := by omega
  simp only [e] at hc
  exact hc

theorem int_back (p : Nat) (a : Option Addr) (len cap : Nat) (n : Int) (r : List Nat) (w : World) (h1 : -9223372036854775808 ≤ n ∧ n ≤ 9223372036854775807) (h : RD w p a len cap (enc (zig n) ++ r) 0) :
    Calls Try.prog 20 #[.pointer (some ⟨p, 0, none⟩)] w fun en w' => en = .returned (.int .i64 n) ∧ After p a w w' r 0 := by
  have hc := int_any p a len cap (enc (zig n) ++ r) 0 w h
  rw [rint_back n h1 r] at hc
  exact hc

theorem flag_back' (p : Nat) (a : Option Addr) (len cap : Nat) (y : Bool) (r : List Nat) (w : World) (h : RD w p a len cap ([if y then 1 else 0] ++ r) 0) :
    Calls Try.prog 21 #[.pointer (some ⟨p, 0, none⟩)] w fun en w' => en = .returned (.bool y) ∧ After p a w w' r 0 := by
  have hc := flag_back p a len cap (if y then 1 else 0) r w h (by split <;> omega)
  cases y
  · exact hc
  · exact hc

/-- a round behind: the memory, the reader, the row -/
theorem back_next {w wr w5 w6 : World} {pr : Nat} {vi : Value} {n : Nat} {xs : List Value} (ho : Only (fun _ => False) w wr) (o1 : Only (fun _ => False) wr w5) (o6 : Only (fun k => k = pr) w5 w6) (hp : w.heap.size ≤ pr)
    (hrow : wr.ownsRow 0 42 4 vi n xs) (hg : ∀ k, vi.ownBlock = some k → k ≠ pr) : Only (fun _ => False) w w6 ∧ w6.ownsRow 0 42 4 vi n xs :=
  ⟨(ho.trans o1).then o6 (fun i hi e => by omega), owns_only o6 (owns_only o1 hrow (fun _ _ f => f)) (fun k hk e => hg k hk e)⟩

theorem text_any' (k n : Int) (y : Bool) (a : Option Addr) (len cap : Nat) (l t : List Nat) (m : Nat) (w : World) (h : Bytes w a len cap l) (ht : l.take 300 = t) (hm : t.length = m) :
    Calls Try.prog 23 #[.agg #[.int .i64 k, .int .i64 n, .bool y, .slice a len cap]] w fun en w' => ∃ g c, en = .returned (.slice (some ⟨g, 0, none⟩) m c) ∧ Reads w' (some ⟨g, 0, none⟩) m t ∧ Only (fun _ => False) w w' := by
  subst ht
  subst hm
  refine (text_any k n y a len cap l w h).mono ?_
  rintro e w' ⟨g, c, he, hG, hO, _⟩
  exact ⟨g, c, he, hG.reads rfl, hO⟩

theorem RD.drew {w : World} {p : Nat} {a : Option Addr} {len cap e : Nat} {l : List Nat} (h : RD w p a len cap l e) : RD w.drew p a len cap l e := h.only (S := fun _ => False) ((Only.refl _ w).drew) (fun f => f) (fun _ _ f => f)
end Go.Proofs.Ytdeljhkombbncab.codw
