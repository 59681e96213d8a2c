/- Both disks: what they answer is the same; a Sync keeps them the same (mathematics). -/
import Derived.Test.YtodmfljhojdbkaaDdE
namespace Go.Proofs.Ytodmfljhojdbkaa.dskw
open Go.RowKit mem
set_option linter.unusedVariables false

theorem secs_ext {f g : Nat → List Nat} {first : Nat} : ∀ {m : Nat}, (∀ i, first ≤ i → i < first + m → f i = g i) → secs f first m = secs g first m := by
  intro m
  induction m with
  | zero => intro _; rfl
  | succ m ih =>
    intro h
    show secs f first m ++ f (first + m) = secs g first m ++ g (first + m)
    rw [ih (fun i h1 h2 => h i h1 (by omega)), h (first + m) (by omega) (by omega)]
theorem Lkd.read {n : Nat} {L : Nat → List Nat} {C : Nat → Option (List Nat)} {cut : Int} {off : Bool} {La No : Nat → List Nat} {Di : Nat → Bool} {armed : Int} {off2 : Bool} (h : Lkd n L C cut off La No Di armed off2) {f m : Nat} (hf : f + m ≤ n) : secs No f m = secs (cur L C) f m := secs_ext (fun i h1 h2 => h.m i (by omega))
theorem filter_ext {n : Nat} {p q : Nat → Bool} (h : ∀ i, i < n → p i = q i) : (List.range n).filter p = (List.range n).filter q := by
  apply List.filter_congr
  intro x hx
  exact h x (List.mem_range.1 hx)
theorem Lkd.list {n : Nat} {L : Nat → List Nat} {C : Nat → Option (List Nat)} {cut : Int} {off : Bool} {La No : Nat → List Nat} {Di : Nat → Bool} {armed : Int} {off2 : Bool} (h : Lkd n L C cut off La No Di armed off2) : lisD Di n = ints (dirtyL C n) := by
  unfold lisD ints dirtyL
  rw [filter_ext h.d]
theorem Lkd.sync {n : Nat} {L : Nat → List Nat} {C : Nat → Option (List Nat)} {cut : Int} {off : Bool} {La No : Nat → List Nat} {Di : Nat → Bool} {armed : Int} {off2 : Bool} (h : Lkd n L C cut off La No Di armed off2) : Lkd n (cur L C) (fun _ => none) cut off (midA true [] La No Di n) (midM true [] La No Di n) (midD Di n) armed off2 := by
  have hn : ∀ i, i < n → newL true [] La No Di i = cur L C i := fun i hi => by
    have h1 := h.d i hi
    have h2 := h.m i hi
    have h3 := h.l i hi
    unfold newL keepB
    by_cases e : Di i = true
    · rw [if_pos ⟨e, rfl⟩, h2]
    · rw [if_neg (fun x => e x.1), h3]
      unfold cur
      have : C i = none := by
        cases hc : C i with
        | none => rfl
        | some l => rw [hc] at h1; exact absurd h1 e
      rw [this]
      rfl
  refine ⟨fun i hi => ?_, fun i hi => ?_, fun i hi => ?_, h.a, h.o⟩
  · unfold midA; rw [if_pos hi, hn i hi]
  · unfold midM; rw [if_pos hi, hn i hi]; rfl
  · unfold midD; rw [if_pos hi]; rfl
theorem Lkd.cut {n : Nat} {L : Nat → List Nat} {C : Nat → Option (List Nat)} {cut : Int} {off : Bool} {La No : Nat → List Nat} {Di : Nat → Bool} {armed : Int} {off2 : Bool} (h : Lkd n L C cut off La No Di armed off2) (c : Int) : Lkd n L C c off La No Di (max c 0) off2 := ⟨h.l, h.m, h.d, rfl, h.o⟩
theorem chk_off (n : Nat) (f m : Int) : chk n true f m = 12 := by unfold chk; rw [if_pos rfl]
theorem chk_thr (n : Nat) (f m : Int) (hm : 0 ≤ m) : chk n false f m = if thr n f m = true then 0 else 1 := by
  have h1 : chk n false f m = if 0 ≤ f ∧ 0 ≤ m ∧ m ≤ (n : Int) - f then 0 else 1 := by unfold chk; rw [if_neg (by decide)]
  rw [h1]
  by_cases e : 0 ≤ f ∧ 0 ≤ m ∧ m ≤ (n : Int) - f
  · have h2 : thr n f m = true := by unfold thr; simp; omega
    rw [if_pos e, if_pos h2]
  · have h2 : ¬ thr n f m = true := by unfold thr; simp; omega
    rw [if_neg e, if_neg h2]
end Go.Proofs.Ytodmfljhojdbkaa.dskw
