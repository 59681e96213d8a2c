/- Lines: Merge, the program's. -/
import Derived.Test.YtdfghdccbpnohaaTirZ
import Derived.Test.YtdfghdccbpnohaaTirJ
import Derived.Test.YtdfghdccbpnohaaTirMd
import Derived.Test.YtdfghdccbpnohaaStepApp
namespace Go.Proofs.Ytdfghdccbpnohaa.tirw
open Go.RowKit mem tirm intm bigm bigw
set_option linter.unusedVariables false

/-- a slice's block -/
def addrBlock : Option Addr → Option Nat
  | none => none
  | some x => some x.block
/-- a row's sort -/
def SortedOwn (a : Option Addr) (ls : List Ln) (w : World) (e : Ending) (w' : World) : Prop :=
  ∃ ls', e = .returned (.tuple #[]) ∧ ls'.Perm ls ∧ Sorted ls' ∧ ReadsN w' a ls.length ls' ∧ Only (fun k => addrBlock a = some k) w w'
theorem sort_own (a : Option Addr) (cap : Nat) (ls : List Ln) (w : World) (h : OwnN w (.slice a ls.length cap) ls) (hm : ls.length ≤ 1000000) :
    Calls Try.prog 12 #[.slice a ls.length cap, .func (.func 13) #[] #[]] w (SortedOwn a ls w) := by
  by_cases h0 : ls.length = 0
  · have hl : ls = [] := List.eq_nil_of_length_eq_zero h0
    subst hl
    refine (AnyF.slices_SortFunc_none Try.sortLines a cap (.func (.func 13) #[] #[]) w).mono ?_
    rintro _ _ ⟨rfl, rfl⟩
    exact ⟨[], rfl, List.Perm.refl _, List.Pairwise.nil, ⟨rfl, .inl rfl⟩, Only.refl _ _⟩
  · obtain ⟨g, cp, hv, _, hgl, hc1, hc2⟩ := owns_form h (by omega)
    injection hv with hv1 hv2 hv3
    subst hv1
    refine (sort_any g ls.length cap ls w h rfl (by omega)).mono ?_
    rintro _ w' ⟨ls', rfl, h1, h2, h3, h4⟩
    exact ⟨ls', rfl, h1, h2, h3, h4.mono (fun k _ e => by rw [e]; rfl)⟩

/-- a sorted row: the first ones that are alike, and those behind them -/
theorem sorted_split {S : List Ln} (h : Sorted S) (k : Nat) (hk : k < S.length) :
    (∀ y ∈ (S.drop k).take (alkF (S.getD k default) (S.drop k)), lk (S.getD k default) y) ∧ (∀ y ∈ (S.drop k).drop (alkF (S.getD k default) (S.drop k)), ltN (S.getD k default) y) := by
  refine ⟨alkF_all _ _, ?_⟩
  have hs : (S.drop k).Pairwise (fun x y => ¬ ltN y x) := List.Pairwise.sublist (List.drop_sublist k S) h
  have e : S.drop k = S.getD k default :: S.drop (k + 1) := by
    rw [List.drop_eq_getElem_cons hk]
    simp [List.getD, hk]
  generalize S.getD k default = x at *
  generalize S.drop k = D at *
  intro y hy
  have hne := alkF_next x D
  have hd : (D.drop (alkF x D)).Pairwise (fun x y => ¬ ltN y x) := List.Pairwise.sublist (List.drop_sublist _ D) hs
  cases hq : D.drop (alkF x D) with
  | nil => rw [hq] at hy; cases hy
  | cons z r =>
    rw [hq] at hy hd
    have hxz : ltN x z := by
      refine lt_of (hne z r hq) ?_
      subst e
      have hz : z ∈ (x :: S.drop (k + 1)).drop (alkF x (x :: S.drop (k + 1))) := by rw [hq]; exact List.mem_cons_self ..
      have hz2 : z ∈ x :: S.drop (k + 1) := List.mem_of_mem_drop hz
      rcases List.mem_cons.1 hz2 with rfl | hz2
      · exact fun f => lt_not f (lk_refl _)
      · exact (List.pairwise_cons.1 hs).1 z hz2
    rcases List.mem_cons.1 hy with rfl | hy
    · exact hxz
    · have h2 := (List.pairwise_cons.1 hd).1 y hy
      unfold ltN at *
      omega
theorem alkF_pos {S : List Ln} {k : Nat} (hk : k < S.length) : 1 ≤ alkF (S.getD k default) (S.drop k) := by
  have e : S.drop k = S.getD k default :: S.drop (k + 1) := by
    rw [List.drop_eq_getElem_cons hk]
    simp [List.getD, hk]
  rw [e]
  show 1 ≤ if cmpN _ _ = 0 then _ else _
  rw [if_pos ((cmpN_lk _ _).2 (lk_refl _))]
  omega
/-- a round of Merge, as lists -/
theorem merge_round {S M : List Ln} {k : Nat} (h : Sorted S) (hk : k < S.length) (hm : MergeOf (S.take k) M) (hl : ∀ x ∈ S.take k, ∀ y ∈ S.drop k, ltN x y) :
    let x := S.getD k default
    let n := alkF x (S.drop k)
    MergeOf (S.take (k + n)) (M ++ [⟨x.t, sumB ((S.drop k).take n), x.p⟩]) ∧ (∀ a ∈ S.take (k + n), ∀ b ∈ S.drop (k + n), ltN a b) ∧ sumK x S = sumB ((S.drop k).take n) ∧ x ∈ S := by
  intro x n
  obtain ⟨h1, h2⟩ := sorted_split h k hk
  have hx : x ∈ S.drop k := by
    have e : S.drop k = x :: S.drop (k + 1) := by
      show S.drop k = S.getD k default :: _
      rw [List.drop_eq_getElem_cons hk]
      simp [List.getD, hk]
    rw [e]; exact List.mem_cons_self ..
  have hx2 : x ∈ (S.drop k).take n := by
    have e : S.drop k = x :: S.drop (k + 1) := by
      show S.drop k = S.getD k default :: _
      rw [List.drop_eq_getElem_cons hk]
      simp [List.getD, hk]
    have hn : 1 ≤ n := alkF_pos hk
    obtain ⟨m, hm⟩ : ∃ m, n = m + 1 := ⟨n - 1, by omega⟩
    rw [hm, e, List.take_succ_cons]
    exact List.mem_cons_self ..
  have hlx : ∀ a ∈ S.take k, ltN a x := fun a ha => hl a ha x hx
  have ht : S.take (k + n) = S.take k ++ (S.drop k).take n := List.take_add
  have hd : S.drop (k + n) = (S.drop k).drop n := by rw [List.drop_drop]
  have hS : S = S.take k ++ ((S.drop k).take n ++ (S.drop k).drop n) := by rw [List.take_append_drop, List.take_append_drop]
  refine ⟨?_, ?_, ?_, List.mem_of_mem_drop hx⟩
  · rw [ht]
    exact hm.step hlx h1 hx2
  · rw [ht, hd]
    intro a ha b hb
    rcases List.mem_append.1 ha with ha | ha
    · exact lt_trans (hlx a ha) (h2 b hb)
    · exact lk_lt (lk_symm (h1 a ha)) (h2 b hb)
  · conv => lhs; rw [hS]
    exact sum_group hlx h1 h2
end Go.Proofs.Ytdfghdccbpnohaa.tirw
