/- A writer made since a world: what its calls leave. -/
import Derived.Test.YtfdaokjigjpomaaCodG
import Derived.Test.YtfdaokjigjpomaaCodPart
namespace Go.Proofs.Ytfdaokjigjpomaa.codw
open Go.RowKit mem codm codp
set_option linter.unusedVariables false

/-- a writer made since w: these bytes, no error -/
def Wr (w : World) (p : Nat) (wx : World) (l : List Nat) : Prop := ∃ v, WR wx p v l 0 ∧ Only (fun _ => False) w wx ∧ w.heap.size ≤ p ∧ (∀ k, v.ownBlock = some k → w.heap.size ≤ k)
theorem Wr.only {w wx : World} {p : Nat} {l : List Nat} (h : Wr w p wx l) : Only (fun _ => False) w wx := by obtain ⟨v, h1, h2, h3⟩ := h; exact h2
theorem Wr.quiet {w wx w' : World} {p : Nat} {l : List Nat} (h : Wr w p wx l) (ho : Only (fun _ => False) wx w') : Wr w p w' l := by
  obtain ⟨v, h1, h2, h3, h4⟩ := h
  exact ⟨v, h1.only ho (fun f => f) (fun _ _ f => f), h2.trans ho, h3, h4⟩
theorem Wr.step {w wx w' : World} {p : Nat} {v : Value} {l l' : List Nat} (h2 : Only (fun _ => False) w wx) (h3 : w.heap.size ≤ p) (h4 : ∀ k, v.ownBlock = some k → w.heap.size ≤ k) (ha : WAfter p v wx w' l' 0) : Wr w p w' l' := by
  obtain ⟨v', r1, r2, r3⟩ := ha
  refine ⟨v', r1, h2.then r2 (fun i hi s => ?_), h3, fun k hk => ?_⟩
  · rcases s with s | s
    · omega
    · have := h4 i s; omega
  · rcases r3 k hk with s | s
    · exact h4 k s
    · have := h2.size; omega
/-- the same, with the slice of its bytes named: what else was made since stays -/
def WrV (w : World) (p : Nat) (v : Value) (wx : World) (l : List Nat) : Prop := WR wx p v l 0 ∧ Only (fun _ => False) w wx ∧ w.heap.size ≤ p ∧ (∀ k, v.ownBlock = some k → w.heap.size ≤ k)
/-- a block that isn't the writer's -/
def Apt (p : Nat) (v : Value) (g : Nat) : Prop := g ≠ p ∧ v.ownBlock ≠ some g
def WvAft (w : World) (p : Nat) (v : Value) (wx : World) (l' : List Nat) (e : Ending) (w' : World) : Prop := e = .returned (.tuple #[]) ∧ ∃ v', WrV w p v' w' l' ∧ Only (fun k => k = p ∨ v.ownBlock = some k) wx w' ∧ (∀ g, g < wx.heap.size → Apt p v g → Apt p v' g)
theorem WrV.step {w wx : World} {p : Nat} {v : Value} {l l' : List Nat} {e : Ending} {w' : World} (h : WrV w p v wx l) (he : e = .returned (.tuple #[])) (ha : WAfter p v wx w' l' 0) : WvAft w p v wx l' e w' := by
  obtain ⟨h1, h2, h3, h4⟩ := h
  obtain ⟨v', r1, r2, r3⟩ := ha
  refine ⟨he, v', ⟨r1, h2.then r2 (fun i hi s => ?_), h3, fun k hk => ?_⟩, r2, fun g hg hq => ⟨hq.1, fun e => (r3 g e).elim hq.2 (fun e => by omega)⟩⟩
  · rcases s with s | s
    · omega
    · have := h4 i s; omega
  · rcases r3 k hk with s | s
    · exact h4 k s
    · have := h2.size; omega
theorem WrV.quiet {w wx w' : World} {p : Nat} {v : Value} {l : List Nat} (h : WrV w p v wx l) (ho : Only (fun _ => False) wx w') : WrV w p v w' l := by
  obtain ⟨h1, h2, h3, h4⟩ := h
  exact ⟨h1.only ho (fun f => f) (fun _ _ f => f), h2.trans ho, h3, h4⟩
theorem WrV.new {w wx : World} {p : Nat} {v : Value} {l : List Nat} (h : WrV w p v wx l) {g : Nat} (hg : wx.heap.size ≤ g) : Apt p v g := by
  refine ⟨fun e => by have := h.1.lt; omega, fun e => ?_⟩
  rcases h.1.own.forms with ⟨q, _⟩ | ⟨k, c, q, hk, _⟩
  · rw [q] at e; cases e
  · rw [q] at e
    have : k = g := by simpa [Value.ownBlock] using e
    omega
theorem WvAft.cell {wx w' : World} {p : Nat} {v : Value} (ho : Only (fun k => k = p ∨ v.ownBlock = some k) wx w') {g j : Nat} {u : Value} (hq : Apt p v g) (hc : wx.cell? ⟨g, j, none⟩ = some u) : w'.cell? ⟨g, j, none⟩ = some u := ho.cell' hc (fun s => s.elim hq.1 hq.2)
theorem wv_uint {w wx : World} {p : Nat} {v : Value} {l : List Nat} (h : WrV w p v wx l) (n : Int) (h0 : 0 ≤ n) (hn : n ≤ 9223372036854775807) (hlen : l.length ≤ 100000000) : Calls Try.prog 17 #[.pointer (some ⟨p, 0, none⟩), .int .i64 n] wx (WvAft w p v wx (l ++ enc n.toNat)) :=
  (wuint_any p v l 0 n wx h0 hn h.1 (by omega)).mono fun _ _ ⟨e, ha⟩ => h.step e ha
theorem wr_new (w : World) (t : TypeId) : Wr w w.heap.size (w.alloc (.cells #[.slice none 0 0, .int .i64 0] t)) [] :=
  ⟨_, new_writer w t, (Only.refl _ w).alloc _, Nat.le_refl _, fun k hk => by cases hk⟩
theorem wr_uint {w wx : World} {p : Nat} {l : List Nat} (h : Wr w p wx l) (n : Int) (h0 : 0 ≤ n) (hn : n ≤ 9223372036854775807) (hlen : l.length ≤ 100000000) : Calls Try.prog 17 #[.pointer (some ⟨p, 0, none⟩), .int .i64 n] wx fun e w' => e = .returned (.tuple #[]) ∧ Wr w p w' (l ++ enc n.toNat) := by
  obtain ⟨v, h1, h2, h3, h4⟩ := h
  exact (wuint_any p v l 0 n wx h0 hn h1 (by omega)).mono fun _ _ ⟨e, ha⟩ => ⟨e, Wr.step (l := l) h2 h3 h4 ha⟩
/-- the bytes at the end -/
def Wrote (w : World) (l : List Nat) (e : Ending) (w' : World) : Prop := ∃ a c, e = .returned (.tuple #[.slice a l.length c, .int .i64 0]) ∧ Bytes w' a l.length c l ∧ (∀ y, a = some y → w.heap.size ≤ y.block ∧ y.block < w'.heap.size) ∧ Only (fun _ => False) w w'
theorem wr_bytes {w wx : World} {p : Nat} {l : List Nat} (h : Wr w p wx l) (hlen : l.length ≤ 100000000) : Calls Try.prog 19 #[.pointer (some ⟨p, 0, none⟩)] wx (Wrote w l) := by
  obtain ⟨v, h1, h2, h3, h4⟩ := h
  refine (wbytes_any p v l 0 wx h1 (by omega)).mono ?_
  rintro _ w' ⟨v', rfl, hown, ho, hk⟩
  obtain ⟨a, len, cap, rfl, hb⟩ := bytes_of_own hown
  obtain rfl : l.length = len := hb.1.1
  refine ⟨a, cap, rfl, hb, fun y hy => ?_, h2.trans ho⟩
  subst hy
  have e : (Value.slice (some y) l.length cap).ownBlock = some y.block := rfl
  have := hk _ e
  refine ⟨by have := h2.size; omega, ?_⟩
  rcases hown.forms with ⟨q, _⟩ | ⟨g, c, q, hg, _⟩
  · cases q
  · injection q with q1
    injection q1 with q1
    rw [q1]; exact hg
end Go.Proofs.Ytfdaokjigjpomaa.codw
