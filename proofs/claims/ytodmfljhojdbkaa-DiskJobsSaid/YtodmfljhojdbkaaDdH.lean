/- Both disks: a Crash keeps them the same (mathematics). -/
import Derived.Test.YtodmfljhojdbkaaDdG
namespace Go.Proofs.Ytodmfljhojdbkaa.dskw
open Go.RowKit mem
set_option linter.unusedVariables false

theorem dirtyL_succ (C : Nat → Option (List Nat)) (k : Nat) : dirtyL C (k + 1) = dirtyL C k ++ (if (C k).isSome = true then [k] else []) := by
  unfold dirtyL
  rw [List.range_succ, List.filter_append]
  congr 1
  by_cases e : (C k).isSome = true
  · rw [if_pos e]; simp [e]
  · rw [if_neg e]; simp [e]
theorem dirtyL_pre (C : Nat → Option (List Nat)) (k : Nat) : ∀ d, ∃ t, dirtyL C (k + d) = dirtyL C k ++ t
  | 0 => ⟨[], by simp⟩
  | d + 1 => by
    obtain ⟨t, h⟩ := dirtyL_pre C k d
    exact ⟨t ++ (if (C (k + d)).isSome = true then [k + d] else []), by
      rw [show k + (d + 1) = (k + d) + 1 by omega, dirtyL_succ, h, List.append_assoc]⟩
def newC (L : Nat → List Nat) (C : Nat → Option (List Nat)) (kl : List Bool) (i : Nat) : List Nat := if (C i).isSome = true ∧ kl.getD (dirtyL C i).length false = true then (C i).getD zeros else L i
theorem crN_pre (L : Nat → List Nat) (C : Nat → Option (List Nat)) (kl : List Bool) (n : Nat) : ∀ k, k ≤ n → ∀ i, crN L C kl (dirtyL C n) (dirtyL C k).length i = if i < k then newC L C kl i else L i
  | 0, _, i => by rw [if_neg (by omega)]; rfl
  | k + 1, hk, i => by
    have ih := crN_pre L C kl n k (by omega)
    by_cases e : (C k).isSome = true
    · have h1 : (dirtyL C (k + 1)).length = (dirtyL C k).length + 1 := by rw [dirtyL_succ, if_pos e]; simp
      have h2 : (dirtyL C n).getD (dirtyL C k).length 0 = k := by
        obtain ⟨t, ht⟩ := dirtyL_pre C (k + 1) (n - (k + 1))
        rw [show n = (k + 1) + (n - (k + 1)) by omega, ht, dirtyL_succ, if_pos e]
        simp [List.getD]
      rw [h1]
      show (if kl.getD (dirtyL C k).length false = true then updL (crN L C kl (dirtyL C n) (dirtyL C k).length) ((dirtyL C n).getD (dirtyL C k).length 0) ((C ((dirtyL C n).getD (dirtyL C k).length 0)).getD zeros) else crN L C kl (dirtyL C n) (dirtyL C k).length) i = _
      rw [h2]
      by_cases f : kl.getD (dirtyL C k).length false = true
      · rw [if_pos f]
        unfold updL
        by_cases g : i = k
        · rw [if_pos g, if_pos (by omega), g]; unfold newC; rw [if_pos ⟨e, f⟩]
        · rw [if_neg g, ih i]
          by_cases g2 : i < k
          · rw [if_pos g2, if_pos (by omega)]
          · rw [if_neg g2, if_neg (by omega)]
      · rw [if_neg f, ih i]
        by_cases g : i = k
        · rw [if_neg (by omega), if_pos (by omega), g]; unfold newC; rw [if_neg (fun x => f x.2)]
        · by_cases g2 : i < k
          · rw [if_pos g2, if_pos (by omega)]
          · rw [if_neg g2, if_neg (by omega)]
    · have h1 : (dirtyL C (k + 1)).length = (dirtyL C k).length := by rw [dirtyL_succ, if_neg e]; simp
      rw [h1, ih i]
      by_cases g : i = k
      · rw [if_neg (by omega), if_pos (by omega), g]; unfold newC; rw [if_neg (fun x => e x.1)]
      · by_cases g2 : i < k
        · rw [if_pos g2, if_pos (by omega)]
        · rw [if_neg g2, if_neg (by omega)]
theorem Lkd.crash {n : Nat} {L : Nat → List Nat} {C : Nat → Option (List Nat)} {cut : Int} {off : Bool} {La No : Nat → List Nat} {Di : Nat → Bool} {armed : Int} {off2 : Bool} (h : Lkd n L C cut off La No Di armed off2) (kl : List Bool) : Lkd n (crL L C kl n) (fun _ => none) 0 false (midA false kl La No Di n) (midM false kl La No Di n) (midD Di n) 0 false := by
  have hn : ∀ i, i < n → newL false kl La No Di i = crL L C kl n i := fun i hi => by
    have h1 := h.d i hi
    have h2 := h.m i hi
    have h3 := h.l i hi
    have h4 : cntD Di i = (dirtyL C i).length := by
      unfold cntD lisD dirtyL
      rw [List.length_map, filter_ext (fun j hj => h.d j (by omega))]
    have h5 := crN_pre L C kl n n (Nat.le_refl _) i
    rw [if_pos hi] at h5
    show newL false kl La No Di i = crN L C kl (dirtyL C n) (dirtyL C n).length i
    rw [h5]
    unfold newL newC
    rw [h1, h4]
    by_cases e : (C i).isSome = true ∧ kl.getD (dirtyL C i).length false = true
    · rw [if_pos e, if_pos (⟨e.1, by unfold keepB; rw [e.2]; rfl⟩), h2]
      unfold cur
      cases hc : C i with
      | none => rw [hc] at e; exact absurd e.1 (by decide)
      | some l => rfl
    · rw [if_neg e, if_neg (fun x => e ⟨x.1, by have := x.2; unfold keepB at this; simpa using this⟩), h3]
  refine ⟨fun i hi => ?_, fun i hi => ?_, fun i hi => ?_, rfl, rfl⟩
  · unfold midA; rw [if_pos hi, hn i hi]
  · unfold midM; rw [if_pos hi, hn i hi]; rfl
  · unfold midD; rw [if_pos hi]; rfl
end Go.Proofs.Ytodmfljhojdbkaa.dskw
