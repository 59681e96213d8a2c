/- Sectors that are written and last, as mathematics: what stands where behind it. -/
import Derived.Test.YtcbpgplmphgcgaaDsk4
import Derived.Test.YtcbpgplmphgcgaaDsk3
import Derived.Test.YtcbpgplmphgcgaaSnM
namespace Go.Proofs.Ytcbpgplmphgcgaa.snm
open Go.RowKit mem dskw crcm
set_option linter.unusedVariables false

theorem secs_zero (f : Nat → List Nat) (a : Nat) : secs f a 0 = [] := rfl
theorem secs_succ (f : Nat → List Nat) (a m : Nat) : secs f a (m + 1) = secs f a m ++ f (a + m) := rfl
theorem secs_add (f : Nat → List Nat) (a : Nat) (m : Nat) : ∀ k, secs f a (m + k) = secs f a m ++ secs f (a + m) k := by
  intro k
  induction k with
  | zero => simp [secs_zero]
  | succ k ih => rw [← Nat.add_assoc, secs_succ, ih, secs_succ, List.append_assoc, Nat.add_assoc]
theorem secs_congr {f g : Nat → List Nat} {a : Nat} : ∀ {m : Nat}, (∀ i, a ≤ i → i < a + m → f i = g i) → secs f a m = secs g a m := by
  intro m
  induction m with
  | zero => intro _; rfl
  | succ m ih => intro h; rw [secs_succ, secs_succ, ih (fun i h1 h2 => h i h1 (by omega)), h (a + m) (by omega) (by omega)]
/-- what lasts behind a write of m sectors from f on -/
def putF (L : Nat → List Nat) (f : Nat) (lb : List Nat) (m : Nat) : Nat → List Nat := fun i => if f ≤ i ∧ i < f + m then bsec lb (i - f) else L i
theorem cur_wrC (L : Nat → List Nat) (f : Nat) (lb : List Nat) (m : Nat) : cur L (wrC (fun _ => none) f lb m) = putF L f lb m := by
  funext i
  unfold cur wrC putF
  split <;> rfl
theorem cur_none (L : Nat → List Nat) : cur L (fun _ => none) = L := by funext i; rfl
theorem putF_zero (L : Nat → List Nat) (f : Nat) (lb : List Nat) : putF L f lb 0 = L := by
  funext i
  unfold putF
  rw [if_neg (by omega)]
theorem secs_bsec (L : Nat → List Nat) (f m : Nat) (lb : List Nat) (hl : m * 64 ≤ lb.length) : ∀ k, k ≤ m → secs (putF L f lb m) f k = lb.take (k * 64) := by
  intro k
  induction k with
  | zero => intro _; simp [secs_zero]
  | succ k ih =>
    intro h
    rw [secs_succ, ih (by omega)]
    have e : putF L f lb m (f + k) = bsec lb k := by unfold putF; rw [if_pos (by omega), Nat.add_sub_cancel_left]
    rw [e]
    unfold bsec
    rw [show (k + 1) * 64 = k * 64 + 64 by omega, List.take_add]
theorem secs_put (L : Nat → List Nat) (f m : Nat) (lb : List Nat) (hl : lb.length = m * 64) : secs (putF L f lb m) f m = lb := by
  rw [secs_bsec L f m lb (by omega) m (Nat.le_refl _), List.take_of_length_le (by omega)]
theorem secs_far (L : Nat → List Nat) (f m : Nat) (lb : List Nat) (a k : Nat) (h : a + k ≤ f ∨ f + m ≤ a) : secs (putF L f lb m) a k = secs L a k :=
  secs_congr (fun i h1 h2 => by unfold putF; rw [if_neg (by omega)])
/-- an image's sectors: those behind the head, then the head -/
def bodyF (L : Nat → List Nat) (at_ : Nat) (im : List Nat) : Nat → List Nat := putF L (at_ + 1) (wl im) (nsec im.length)
def saveF (L : Nat → List Nat) (at_ gen : Nat) (im : List Nat) : Nat → List Nat := putF (bodyF L at_ im) at_ (headL gen im) 1
theorem nsec_le {n s : Nat} (h : n ≤ 64 * (s - 1)) (hs : 1 ≤ s) : 1 + nsec n ≤ s := by unfold nsec; omega
theorem slot_save (L : Nat → List Nat) (at_ gen size : Nat) (im : List Nat) (h : 1 + nsec im.length ≤ size) : secs (saveF L at_ gen im) at_ size = headL gen im ++ (im ++ (List.replicate (nsec im.length * 64 - im.length) 0 ++ secs L (at_ + 1 + nsec im.length) (size - 1 - nsec im.length))) := by
  obtain ⟨k, rfl⟩ : ∃ k, size = 1 + (nsec im.length + k) := ⟨size - 1 - nsec im.length, by omega⟩
  rw [secs_add, secs_add]
  unfold saveF
  rw [secs_put _ at_ 1 _ (by rw [head_len])]
  rw [secs_far _ at_ 1 _ _ _ (.inr (by omega)), secs_far _ at_ 1 _ _ _ (.inr (by omega))]
  unfold bodyF
  rw [secs_put _ _ _ _ (wl_len im), secs_far _ _ _ _ _ _ (.inr (by omega))]
  unfold wl
  rw [List.append_assoc, show 1 + (nsec im.length + k) - 1 - nsec im.length = k by omega]
/-- the other slot -/
theorem far_save (L : Nat → List Nat) (at_ gen size : Nat) (im : List Nat) (h : 1 + nsec im.length ≤ size) (a k : Nat) (hf : a + k ≤ at_ ∨ at_ + size ≤ a) : secs (saveF L at_ gen im) a k = secs L a k := by
  unfold saveF
  rw [secs_far _ at_ 1 _ _ _ (by omega)]
  unfold bodyF
  exact secs_far _ _ _ _ _ _ (by omega)
theorem slot_parse (L : Nat → List Nat) (at_ gen size : Nat) (im : List Nat) (h : 1 + nsec im.length ≤ size) (h1 : 1 ≤ gen) (hg : gen < 9223372036854775808) (hl : im.length < 9223372036854775808) : parse (secs (saveF L at_ gen im) at_ size) (gen % 2) = (gen, im) := by
  rw [slot_save L at_ gen size im h]
  exact parse_head h1 hg im _ hl
/-- a slot's generation stands in its first sector -/
theorem gOfB_first {b c : List Nat} (h : b.take 64 = c.take 64) : gOfB b = gOfB c := by
  have e : ∀ x : List Nat, (x.drop 1).take 8 = ((x.take 64).drop 1).take 8 := fun x => by
    rw [List.drop_take, List.take_take, Nat.min_eq_left (by omega)]
  unfold gOfB
  rw [e b, e c, h]
theorem take_secs {f : Nat → List Nat} {a m : Nat} (hf : (f a).length = 64) (hm : 1 ≤ m) : (secs f a m).take 64 = f a := by
  obtain ⟨k, rfl⟩ : ∃ k, m = 1 + k := ⟨m - 1, by omega⟩
  rw [secs_add]
  have e : secs f a 1 = f a := by rw [secs_succ, secs_zero, List.nil_append, Nat.add_zero]
  rw [e, List.take_left' hf]
end Go.Proofs.Ytcbpgplmphgcgaa.snm
