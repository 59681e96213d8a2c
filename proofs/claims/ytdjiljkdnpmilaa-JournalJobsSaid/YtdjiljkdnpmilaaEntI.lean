/- Entries: the law's fixed entry. -/
import Derived.Test.YtdjiljkdnpmilaaEntH
namespace Go.Proofs.Ytdjiljkdnpmilaa.entw
open Go.RowKit mem entm
set_option linter.unusedVariables false

theorem ltA_tri {x y : Lg} (h1 : ¬ ltA x y) (h2 : ¬ ltA y x) : x.k = y.k ∧ x.n = y.n ∧ x.g = y.g := by unfold ltA at *; omega
/-- legs of unlike accounts have one order -/
theorem sorted_one {a b : List Lg} (hp : a.Perm b) (ha : Sorted a) (hb : Sorted b) (hd : ∀ x ∈ b, ∀ y ∈ b, x.k = y.k → x.n = y.n → x.g = y.g → x = y) : a = b := by
  refine List.Perm.eq_of_pairwise (le := fun x y => ¬ ltA y x) ?_ ha hb hp
  intro x y hx hy h1 h2
  obtain ⟨e1, e2, e3⟩ := ltA_tri h2 h1
  exact hd x (hp.mem_iff.1 hx) y hy e1 e2 e3

def ent0 : List Lg := [⟨2, 1, 0, 5⟩, ⟨2, 2, 0, 5⟩, ⟨3, 1, 0, -5⟩, ⟨3, 2, 0, -5⟩]
theorem ent0_of {ls : List Lg} (hp : ls.Perm (rawL 2 5 0 [2, 1])) (hs : Sorted ls) : ls = ent0 := by
  have e : (rawL 2 5 0 [2, 1]) = [⟨2, 2, 0, 5⟩, ⟨3, 2, 0, -5⟩, ⟨2, 1, 0, 5⟩, ⟨3, 1, 0, -5⟩] := rfl
  rw [e] at hp
  have hp2 : ls.Perm ent0 := hp.trans (by
    unfold ent0
    refine (List.perm_append_comm (l₁ := ([⟨2, 2, 0, 5⟩, ⟨3, 2, 0, -5⟩] : List Lg)) (l₂ := ([⟨2, 1, 0, 5⟩, ⟨3, 1, 0, -5⟩] : List Lg))).trans ?_
    refine .cons _ ?_
    show List.Perm [_, _, _] [_, _, _]
    exact .swap _ _ _)
  refine sorted_one hp2 hs ?_ ?_
  · unfold Sorted ent0
    simp [ltA]
  · intro x hx y hy
    simp [ent0] at hx hy
    rcases hx with rfl | rfl | rfl | rfl <;> rcases hy with rfl | rfl | rfl | rfl <;> simp

theorem two_reads (w : World) : ReadsI (w.alloc (.cells #[.int .i64 2, .int .i64 1] 3)) (some ⟨w.heap.size, 0, none⟩) 2 [2, 1] := by
  refine ⟨rfl, by unfold maxLen; omega, by simp, .inr ⟨_, 0, rfl, ?_⟩⟩
  intro i hi
  match i, hi with
  | 0, _ => exact alloc_new _ _ _ _ _ _ rfl rfl
  | 1, _ => exact alloc_new _ _ _ _ _ _ rfl rfl

set_option maxHeartbeats 1000000 in
theorem ents_any (w : World) : Calls Try.prog 8 #[] w fun e w' => e = .returned (.bool true) ∧ Only (fun _ => False) w w' := by
  have HM := Lib.hid (make_yes 2 5 0 rfl ⟨by omega, by omega⟩ ⟨by omega, by omega⟩ (some ⟨w.heap.size, 0, none⟩) 2 2 [2, 1] (path_yes ⟨by simp, by simp, by simp⟩) _ (two_reads w) (by omega) (by omega))
  have HO : Hid (∀ o, Only (fun _ => False) w (w.alloc o)) := Lib.hid (fun o => (Only.refl _ w).alloc o)
  go_enter Try.func8, Try.ntmps8
  go_wp2_with fail
  refine (HM.out).mono ?_
  rintro e w1 ⟨g, cp, ls, hperm, hsort, hgw, ho, hrd, h⟩
  obtain rfl := ent0_of hperm hsort
  have h2 : e = .returned (.tuple #[.agg #[.int .i64 2, .slice (some ⟨g, 0, none⟩) 4 cp], .int .i64 0]) := by
    rcases h with ⟨_, h⟩ | ⟨h, _⟩
    · exact h
    · exact absurd rfl h
  subst h2
  have HRD := Lib.hid hrd
  obtain ⟨b, off, hbo, hc⟩ := hrd.2.2.2.resolve_left (by show ¬ 4 = 0; omega)
  obtain ⟨rfl, rfl⟩ : g = b ∧ 0 = off := by injection hbo with ha; injection ha with h1 h2; exact ⟨h1, h2⟩
  have HO1 := Lib.hid ((HO.out _).trans ho)
  have hal : ∀ o p v, w1.cell? p = some v → (w1.alloc o).cell? p = some v := fun o p v h => ((Only.refl (fun _ => False) w1).alloc o).cell' h (fun f => f)
  have q0 : ∀ o, (w1.alloc o).cell? ⟨g, 0, none⟩ = some (.int .i64 2) := fun o => hal o _ _ (hc 0 (by show 0 < 4; omega)).1
  have q1 : ∀ o, (w1.alloc o).cell? ⟨g, 1, none⟩ = some (.int .i64 1) := fun o => hal o _ _ (hc 0 (by show 0 < 4; omega)).2.1
  have q2 : ∀ o, (w1.alloc o).cell? ⟨g, 2, none⟩ = some (.int .i64 0) := fun o => hal o _ _ (hc 0 (by show 0 < 4; omega)).2.2.1
  have q3 : ∀ o, (w1.alloc o).cell? ⟨g, 3, none⟩ = some (.int .i64 5) := fun o => hal o _ _ (hc 0 (by show 0 < 4; omega)).2.2.2
  have q4 : ∀ o, (w1.alloc o).cell? ⟨g, 15, none⟩ = some (.int .i64 (-5)) := fun o => hal o _ _ (hc 3 (by show 3 < 4; omega)).2.2.2
  have HS := Lib.hid (fun w' ho => sum_any 2 (some ⟨g, 0, none⟩) 4 cp ent0 w' (hrd.only (S := fun _ => False) ho (fun _ _ f => f)))
  have HSV : Hid (sumOf 2 ent0 = 10) := Lib.hid rfl
  rw [HSV.out] at HS
  clear hc hrd ho hgw h hperm hsort hbo hal
  go_wp2_with fail
  refine (HS.out _ ((Only.refl _ _).alloc _)).mono ?_
  rintro _ w2 ⟨rfl, ho2⟩
  have HO2 := Lib.hid ((HO1.out.alloc _).trans ho2)
  clear ho2 q0 q1 q2 q3 q4
  go_wp2_with fail
  go_ret
  exact ⟨rfl, HO2.out⟩

theorem nilI_reads (w : World) (a : Option Addr) : ReadsI w a 0 [] := ⟨rfl, by unfold maxLen; omega, by simp, .inl rfl⟩

theorem mk_cases (kind amount : Int) (path : List Int) : mkNo kind amount path ≠ 0 ∨ (kindB kind = true ∧ amB amount ∧ pathB path = true) := by
  unfold mkNo
  by_cases h1 : kindB kind = false
  · left; rw [if_pos h1]; decide
  · by_cases h2 : ¬ amB amount ∨ pathB path = false
    · left; rw [if_neg h1, if_pos h2]; decide
    · right
      refine ⟨by simpa using h1, ?_, ?_⟩
      · by_cases h3 : amB amount
        · exact h3
        · exact absurd (.inl h3) h2
      · cases h4 : pathB path with
        | true => rfl
        | false => exact absurd (.inr h4) h2

/-- nothing made: its Sum is nought -/
theorem sum_none (w : World) : Calls Try.prog 32 #[.agg #[.int .i64 0, .slice none 0 0]] w fun e w' => e = .returned (.int .i64 0) ∧ Only (fun _ => False) w w' :=
  sum_any 0 none 0 0 [] w (ReadsL.nil _ _)

theorem sums_math {kind amount g : Int} {path : List Int} {ls : List Lg} (ha : amB amount) (hp : ls.Perm (rawL kind amount g path)) (hc : chk kind ls = 0) (hr : ∀ l ∈ ls, InI l.a) : sumOf kind ls = amount * path.length ∧ sumOf kind (opp ls) = amount * path.length := by
  obtain ⟨_, _, hok, hz, _⟩ := (chk_ok kind ls).1 hc
  have e1 : posSum ls = amount * path.length := by rw [posSum_perm hp]; exact rawL_pos kind amount g path (by have := ha.1; omega)
  have hc2 : chk kind (opp ls) = 0 := (opp_chk kind ls hr).2 hc
  unfold sumOf
  rw [if_pos hc, if_pos hc2, opp_pos ls (fun l hl => (hok l hl).2), hz, e1]
  exact ⟨rfl, by omega⟩

theorem OwnL.reads {w : World} {g n cap : Nat} {ls : List Lg} (h : OwnL w (.slice (some ⟨g, 0, none⟩) n cap) ls) (hn : n = ls.length) (hm : ls.length ≤ 9223372036854775807) (hb : ∀ l ∈ ls, InL l) : ReadsL w (some ⟨g, 0, none⟩) n ls := by
  have := holds_reads (h.holds hn).1 (by simpa using hm) (fun l hl => hb l (by simpa using hl))
  rw [hn]
  simpa using this
theorem opp_in {ls : List Lg} (h : ∀ l ∈ ls, InL l) : ∀ l ∈ opp ls, InL l := by
  intro l hl
  obtain ⟨m, hm, rfl⟩ := List.mem_map.1 hl
  obtain ⟨h1, h2, h3, h4⟩ := h m hm
  refine ⟨h1, h2, h3, ?_⟩
  show InI (negI m.a)
  unfold InI negI at *
  split <;> omega
end Go.Proofs.Ytdjiljkdnpmilaa.entw
