/- codec's Reader on states: Uint, Int, Flag, Text, End, of whatever bytes. -/
import Derived.Test.YtfdaokjigjpomaaCodText
import Derived.Test.YtfdaokjigjpomaaCodP
namespace Go.Proofs.Ytfdaokjigjpomaa.codw
open Go.RowKit mem codm codp
set_option linter.unusedVariables false

def IsN (s : Option (List Nat)) (l : List Nat) (e : Nat) : Prop := match s with
  | some x => e = 0 ∧ l = x
  | none => e ≠ 0
/-- a reader in a state; its bytes lie in blocks of B -/
def RS (B : Nat → Prop) (w : World) (p : Nat) (s : Option (List Nat)) : Prop := ∃ a len cap l e, RD w p a len cap l e ∧ By l ∧ (∀ x, a = some x → B x.block) ∧ IsN s l e
theorem RS.only {B S : Nat → Prop} {w w' : World} {p : Nat} {s : Option (List Nat)} (h : RS B w p s) (ho : Only S w w') (hp : ¬ S p) (hB : ∀ q, B q → ¬ S q) : RS B w' p s := by
  obtain ⟨a, len, cap, l, e, h1, h2, h3, h4⟩ := h
  exact ⟨a, len, cap, l, e, h1.only ho hp (fun x hx => hB _ (h3 x hx)), h2, h3, h4⟩
theorem RS.lt {B : Nat → Prop} {w : World} {p : Nat} {s : Option (List Nat)} (h : RS B w p s) : p < w.heap.size := by
  obtain ⟨a, len, cap, l, e, h1, _⟩ := h
  exact World.block_lt_of_cell? w _ h1.c0
theorem RS.sok {B : Nat → Prop} {w : World} {p : Nat} {s : Option (List Nat)} (h : RS B w p s) : SOk s := by
  obtain ⟨a, len, cap, l, e, h1, h2, h3, h4⟩ := h
  intro x hx
  subst hx
  obtain ⟨-, rfl⟩ := h4
  exact h2
def AftG (B : Nat → Prop) (p : Nat) (w : World) (v : Value) (s : Option (List Nat)) (e : Ending) (w' : World) : Prop := e = .returned v ∧ RS B w' p s ∧ Only (fun k => k = p) w w'
theorem After.rs {B : Nat → Prop} {p : Nat} {a : Option Addr} {w w' : World} {l : List Nat} {e : Nat} {s : Option (List Nat)} (h : After p a w w' l e) (ha : ∀ x, a = some x → B x.block) (hb : By l) (hs : IsN s l e) : RS B w' p s ∧ Only (fun k => k = p) w w' := by
  obtain ⟨a', len', cap', h1, h2, h3⟩ := h
  exact ⟨⟨a', len', cap', l, e, h1, hb, fun x hx => by obtain ⟨y, hy, e2⟩ := h3 x hx; rw [← e2]; exact ha y hy, hs⟩, h2⟩
theorem runt_s {l : List Nat} {e : Nat} {s : Option (List Nat)} (most : Int) (hb : By l) (hs : IsN s l e) : (runt l most e).1 = (uS most s).1 ∧ IsN (uS most s).2 (runt l most e).2.1 (runt l most e).2.2 ∧ By (runt l most e).2.1 := by
  cases s with
  | none =>
    have he : e ≠ 0 := hs
    unfold runt
    rw [if_neg he]
    exact ⟨rfl, he, hb⟩
  | some x =>
    obtain ⟨rfl, rfl⟩ := hs
    unfold runt uS pUint dcount
    rw [if_pos rfl]
    dsimp only
    by_cases h0 : (dec 9 l 0 0).2.2 = 0
    · by_cases h1 : most < ((dec 9 l 0 0).1 : Int)
      · rw [if_pos h0, if_pos h1, if_neg (show ¬ ((0, 0, 5) : Nat × Nat × Nat).2.2 = 0 by decide), if_neg (show ¬ ((dec 9 l 0 0).2.2 = 0 ∧ ((dec 9 l 0 0).1 : Int) ≤ most) from fun q => by have := q.2; omega)]
        exact ⟨rfl, by show (5 : Nat) ≠ 0; decide, hb⟩
      · rw [if_pos h0, if_neg h1, if_pos h0, if_pos ⟨h0, by omega⟩]
        exact ⟨rfl, ⟨rfl, rfl⟩, hb.drop _⟩
    · rw [if_neg h0, if_neg h0, if_neg (fun q => h0 q.1)]
      exact ⟨rfl, h0, hb⟩
theorem rint_st {l : List Nat} {e : Nat} {s : Option (List Nat)} (hb : By l) (hs : IsN s l e) : (rint l e).1 = (iS s).1 ∧ IsN (iS s).2 (rint l e).2.1 (rint l e).2.2 ∧ By (rint l e).2.1 := by
  cases s with
  | none =>
    have he : e ≠ 0 := hs
    unfold rint
    rw [if_neg he]
    exact ⟨rfl, he, hb⟩
  | some x =>
    obtain ⟨rfl, rfl⟩ := hs
    unfold rint iS pInt
    rw [if_pos rfl]
    dsimp only
    by_cases h0 : (dec 10 l 0 0).2.2 = 0
    · rw [if_pos h0, if_pos h0]
      exact ⟨rfl, ⟨rfl, rfl⟩, hb.drop _⟩
    · rw [if_neg h0, if_neg h0]
      exact ⟨rfl, h0, hb⟩
theorem guint (B : Nat → Prop) (p : Nat) (most : Int) (s : Option (List Nat)) (w : World) (h : RS B w p s) : Calls Try.prog 25 #[.pointer (some ⟨p, 0, none⟩), .int .i64 most] w (AftG B p w (.int .i64 ((uS most s).1 : Int)) (uS most s).2) := by
  obtain ⟨a, len, cap, l, e, h1, h2, h3, h4⟩ := h
  refine (uint_any p a len cap l e most w h1).mono ?_
  rintro _ w' ⟨rfl, ha⟩
  obtain ⟨e1, e2, e3⟩ := runt_s most h2 h4
  obtain ⟨r1, r2⟩ := ha.rs h3 e3 e2
  exact ⟨by rw [e1], r1, r2⟩
theorem gend (B : Nat → Prop) (p : Nat) (s : Option (List Nat)) (w : World) (h : RS B w p s) : Calls Try.prog 27 #[.pointer (some ⟨p, 0, none⟩)] w fun e w' => (∃ er : Nat, e = .returned (.int .i64 (er : Int)) ∧ (er = 0 ↔ s = some [])) ∧ w = w' := by
  obtain ⟨a, len, cap, l, e, h1, h2, h3, h4⟩ := h
  refine (end_any p a len cap l e w h1).mono ?_
  rintro _ w' ⟨rfl, ha⟩
  refine ⟨⟨rend l e, rfl, ?_⟩, ha⟩
  cases s with
  | none =>
    have he : e ≠ 0 := h4
    unfold rend
    rw [if_neg he]
    exact ⟨fun q => absurd q he, fun q => by cases q⟩
  | some x =>
    obtain ⟨rfl, rfl⟩ := h4
    unfold rend
    rw [if_pos rfl]
    by_cases hl : l = []
    · rw [if_pos hl, hl]; simp
    · rw [if_neg hl]; simp [hl]
theorem stop_no {w : World} {p : Nat} {a : Option Addr} {len cap : Nat} {l : List Nat} {e : Nat} (h : RD w p a len cap l e) (he : e ≠ 0) : Calls Try.prog 41 #[.pointer (some ⟨p, 0, none⟩)] w fun en w' => en = .returned (.bool true) ∧ w = w' := by
  refine (stopped_any p a len cap l e w h).mono ?_
  rintro _ w' ⟨rfl, hw⟩
  exact ⟨by rw [show ((e : Int) != 0) = true by rw [bne_iff_ne]; omega], hw⟩
/-- a text: new memory -/
def TxtG (B : Nat → Prop) (p : Nat) (w : World) (t : List Nat) (s : Option (List Nat)) (e : Ending) (w' : World) : Prop := ∃ v', e = .returned v' ∧ OwnB w' v' t ∧ (∀ k, v'.ownBlock = some k → w.heap.size ≤ k) ∧ RS B w' p s ∧ Only (fun k => k = p) w w'
theorem txt_no {B : Nat → Prop} {p : Nat} {w w' : World} {a : Option Addr} {len cap : Nat} {l : List Nat} {e : Nat} (h : RD w' p a len cap l e) (hb : By l) (ha : ∀ x, a = some x → B x.block) (he : e ≠ 0) (ho : Only (fun k => k = p) w w') : TxtG B p w [] none (.returned (.slice none 0 0)) w' :=
  ⟨_, rfl, OwnB.nil _, (fun k hk => by cases hk), ⟨a, len, cap, l, e, h, hb, ha, he⟩, ho⟩
end Go.Proofs.Ytfdaokjigjpomaa.codw
