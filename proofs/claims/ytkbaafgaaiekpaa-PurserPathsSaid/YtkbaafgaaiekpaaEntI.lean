/- Entries: the law's fixed entry. -/
import Derived.Test.YtkbaafgaaiekpaaEntH
namespace Go.Proofs.Ytkbaafgaaiekpaa.entw
open Go.RowKit mem entm
set_option linter.unusedVariables false

theorem ltA_tri {x y : Lg} (h1 : ¬ ltA x y) (h2 : ¬ ltA y x) : x.k = y.k ∧ x.n = y.n ∧ x.g = y.g := by unfold ltA at *; omega
/-- legs of unlike accounts have one order -/
theorem sorted_one {a b : List Lg} (hp : a.Perm b) (ha : Sorted a) (hb : Sorted b) (hd : ∀ x ∈ b, ∀ y ∈ b, x.k = y.k → x.n = y.n → x.g = y.g → x = y) : a = b := by
  refine List.Perm.eq_of_pairwise (le := fun x y => ¬ ltA y x) ?_ ha hb hp
  intro x y hx hy h1 h2
  obtain ⟨e1, e2, e3⟩ := ltA_tri h2 h1
  exact hd x (hp.mem_iff.1 hx) y hy e1 e2 e3

def ent0 : List Lg := [⟨2, 1, 0, 5⟩, ⟨2, 2, 0, 5⟩, ⟨3, 1, 0, -5⟩, ⟨3, 2, 0, -5⟩]
theorem ent0_of {ls : List Lg} (hp : ls.Perm (rawL 2 5 0 [2, 1])) (hs : Sorted ls) : ls = ent0 := by
  have e : (rawL 2 5 0 [2, 1]) = [⟨2, 2, 0, 5⟩, ⟨3, 2, 0, -5⟩, ⟨2, 1, 0, 5⟩, ⟨3, 1, 0, -5⟩] := rfl
  rw [e] at hp
  have hp2 : ls.Perm ent0 := hp.trans (by
    unfold ent0
    refine (List.perm_append_comm (l₁ := ([⟨2, 2, 0, 5⟩, ⟨3, 2, 0, -5⟩] : List Lg)) (l₂ := ([⟨2, 1, 0, 5⟩, ⟨3, 1, 0, -5⟩] : List Lg))).trans ?_
    refine .cons _ ?_
    show List.Perm [_, _, _] [_, _, _]
    exact .swap _ _ _)
  refine sorted_one hp2 hs ?_ ?_
  · unfold Sorted ent0
    simp [ltA]
  · intro x hx y hy
    simp [ent0] at hx hy
    rcases hx with rfl | rfl | rfl | rfl <;> rcases hy with rfl | rfl | rfl | rfl <;> simp

theorem two_reads (w : World) : ReadsI (w.alloc (.cells #[.int .i64 2, .int .i64 1] 3)) (some ⟨w.heap.size, 0, none⟩) 2 [2, 1] := by
  refine ⟨rfl, by unfold maxLen; omega, by simp, .inr ⟨_, 0, rfl, ?_⟩⟩
  intro i hi
  match i, hi with
  | 0, _ => exact alloc_new _ _ _ _ _ _ rfl rfl
  | 1, _ => exact alloc_new _ _ _ _ _ _ rfl rfl

theorem nilI_reads (w : World) (a : Option Addr) : ReadsI w a 0 [] := ⟨rfl, by unfold maxLen; omega, by simp, .inl rfl⟩

theorem mk_cases (kind amount : Int) (path : List Int) : mkNo kind amount path ≠ 0 ∨ (kindB kind = true ∧ amB amount ∧ pathB path = true) := by
  unfold mkNo
  by_cases h1 : kindB kind = false
  · left; rw [if_pos h1]; decide
  · by_cases h2 : ¬ amB amount ∨ pathB path = false
    · left; rw [if_neg h1, if_pos h2]; decide
    · right
      refine ⟨by simpa using h1, ?_, ?_⟩
      · by_cases h3 : amB amount
        · exact h3
        · exact absurd (.inl h3) h2
      · cases h4 : pathB path with
        | true => rfl
        | false => exact absurd (.inr h4) h2

theorem sums_math {kind amount g : Int} {path : List Int} {ls : List Lg} (ha : amB amount) (hp : ls.Perm (rawL kind amount g path)) (hc : chk kind ls = 0) (hr : ∀ l ∈ ls, InI l.a) : sumOf kind ls = amount * path.length ∧ sumOf kind (opp ls) = amount * path.length := by
  obtain ⟨_, _, hok, hz, _⟩ := (chk_ok kind ls).1 hc
  have e1 : posSum ls = amount * path.length := by rw [posSum_perm hp]; exact rawL_pos kind amount g path (by have := ha.1; omega)
  have hc2 : chk kind (opp ls) = 0 := (opp_chk kind ls hr).2 hc
  unfold sumOf
  rw [if_pos hc, if_pos hc2, opp_pos ls (fun l hl => (hok l hl).2), hz, e1]
  exact ⟨rfl, by omega⟩

theorem OwnL.reads {w : World} {g n cap : Nat} {ls : List Lg} (h : OwnL w (.slice (some ⟨g, 0, none⟩) n cap) ls) (hn : n = ls.length) (hm : ls.length ≤ 9223372036854775807) (hb : ∀ l ∈ ls, InL l) : ReadsL w (some ⟨g, 0, none⟩) n ls := by
  have := holds_reads (h.holds hn).1 (by simpa using hm) (fun l hl => hb l (by simpa using hl))
  rw [hn]
  simpa using this
theorem opp_in {ls : List Lg} (h : ∀ l ∈ ls, InL l) : ∀ l ∈ opp ls, InL l := by
  intro l hl
  obtain ⟨m, hm, rfl⟩ := List.mem_map.1 hl
  obtain ⟨h1, h2, h3, h4⟩ := h m hm
  refine ⟨h1, h2, h3, ?_⟩
  show InI (negI m.a)
  unfold InI negI at *
  split <;> omega
end Go.Proofs.Ytkbaafgaaiekpaa.entw
