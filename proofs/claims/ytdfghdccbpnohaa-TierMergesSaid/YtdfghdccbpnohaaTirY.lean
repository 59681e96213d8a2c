/- Lines: those of both in one row (slices.Grow, slices.Concat); how many are alike. -/
import Derived.Test.YtdfghdccbpnohaaTirK
import Derived.Test.YtdfghdccbpnohaaLnsA
import Derived.Deep.RegionHeld3
namespace Go.Proofs.Ytdfghdccbpnohaa.tirw
open Go.RowKit mem tirm intm
set_option linter.unusedVariables false

/-- a new row of lines -/
def NewN (ls : List Ln) (w : World) (e : Ending) (w' : World) : Prop :=
  ∃ v, e = .returned v ∧ OwnN w' v ls ∧ (∀ q, v.ownBlock = some q → w.heap.size ≤ q) ∧ Only (fun _ => False) w w'

theorem grow_any (n : Nat) (w : World) (hn : n ≤ 1000000) : Calls Try.prog 19 #[.slice none 0 0, .int .i64 n] w (NewN [] w) := by
  by_cases h0 : n = 0
  · subst h0
    refine (Any8.slices_Grow_room Try.growLines none 0 0 0 w (by omega) (by omega) (by omega) (by omega)).mono ?_
    rintro _ _ ⟨rfl, rfl⟩
    exact ⟨_, rfl, OwnN.nil _, (fun q e => by cases e), Only.refl _ _⟩
  · obtain ⟨i0, hi, hz0, hz1, hz2⟩ := info_parts info_line
    refine (Any8.slices_Grow_grow Try.growLines i0 _ hi hz0 (by rw [hz1]; omega) none 0 0 n [] w (by omega) (by omega) (by rw [hz2]; omega) (by omega) (by simp) (fun _ => rfl) (fun _ e => by cases e)).mono ?_
    rintro _ _ ⟨rfl, rfl⟩
    refine ⟨_, rfl, ⟨rfl, .inr ⟨w.heap.size, _, _, rfl, Nat.zero_le _, heap_alloc_new w.drew _, Nat.zero_le _, grownCap_le_maxLen w _ _ _ (by unfold maxLen; omega), ?_, ?_⟩⟩, fun q e => ?_, ((Only.refl _ w).drew).alloc _⟩
    · have hge := grownCap_ge w (0 + n) 0 32
      simp only [Array.size_append, List.size_toArray, List.length_nil, size_zeroCells]
      show 0 + (0 + n - 0) * 3 + (grownCap w (0 + n) 0 32 - (0 + n)) * 3 = grownCap w (0 + n) 0 32 * 3
      omega
    · simp [lvn]
    · have : w.heap.size = q := by simpa [Value.ownBlock] using e
      omega

set_option maxRecDepth 100000 in
set_option maxHeartbeats 1000000 in
theorem concat_any (b : Nat) (a1 a2 : Option Addr) (n1 n2 c1 c2 : Nat) (la lb : List Ln) (w : World) (h1 : ReadsN w a1 n1 la) (h2 : ReadsN w a2 n2 lb) (hn1 : n1 ≤ 100000) (hn2 : n2 ≤ 100000)
    (d0 : w.cell? ⟨b, 0, none⟩ = some (.slice a1 n1 c1)) (d1 : w.cell? ⟨b, 1, none⟩ = some (.slice a2 n2 c2)) :
    Calls Try.prog 11 #[.slice (some ⟨b, 0, none⟩) 2 2] w (NewN (la ++ lb) w) := by
  have H1 := Lib.hid h1
  have H2 := Lib.hid h2
  have HL : Hid (la.length = n1 ∧ lb.length = n2) := Lib.hid ⟨h1.1, h2.1⟩
  have HG := Lib.hid (fun (n : Nat) (hn : n ≤ 1000000) => grow_any n w hn)
  clear h1 h2
  go_enter Try.func11, Try.ntmps11
  go_wp2_with fail
  go_loop [3, 11] (fun sz i => ∃ k s : Nat, i = .int .i64 k ∧ sz = .int .i64 s ∧ ((k = 0 ∧ s = 0) ∨ (k = 1 ∧ s = n1) ∨ (k = 2 ∧ s = n1 + n2))) (fun _ i => 2 - (intOf i).toNat)
  case atStart => exact ⟨0, 0, rfl, rfl, .inl ⟨rfl, rfl⟩⟩
  case round =>
    obtain ⟨k, s, rfl, rfl, hk⟩ := hrel
    rcases hk with ⟨rfl, rfl⟩ | ⟨rfl, rfl⟩ | ⟨rfl, rfl⟩
    · go_wp2_with fail
      go_round
      case rel => exact ⟨1, n1, rfl, by simp, .inr (.inl ⟨rfl, rfl⟩)⟩
      case measure => simp [intOf]
    · go_wp2_with fail
      go_round
      case rel => exact ⟨2, s + n2, rfl, by go_num, .inr (.inr ⟨rfl, rfl⟩)⟩
      case measure => simp [intOf]
    · go_wp2_with fail
      refine (HG.out (n1 + n2) (by omega)).mono ?_
      rintro _ w1 ⟨v, rfl, hv, hbk, ho⟩
      have HV := Lib.hid hv
      have HBK := Lib.hid hbk
      have HO := Lib.hid ho
      clear hv hbk ho
      go_wp2_with fail
      go_loopw [6, 27] (fun vv i wr => ∃ (k : Nat) (ls : List Ln), i = .int .i64 k ∧ ((k = 0 ∧ ls = []) ∨ (k = 1 ∧ ls = la) ∨ (k = 2 ∧ ls = la ++ lb)) ∧ Hid (OwnN wr vv ls) ∧ Hid (∀ q, vv.ownBlock = some q → w.heap.size ≤ q) ∧ Hid (Only (fun _ => False) w wr)) (fun _ i _ => 2 - (intOf i).toNat)
      case atStart => exact ⟨0, [], rfl, .inl ⟨rfl, rfl⟩, HV, HBK, HO⟩
      case round =>
        clear HV HBK HO
        obtain ⟨k, ls, rfl, hk, HV, HBK, HO⟩ := hrel
        have e0 := HO.out.cell' d0 (fun f => f)
        have e1 := HO.out.cell' d1 (fun f => f)
        rcases hk with ⟨rfl, rfl⟩ | ⟨rfl, rfl⟩ | ⟨rfl, rfl⟩
        · have HR := Lib.hid (H1.out.only HO.out (fun _ _ f => f))
          go_wp2_with (at_builtin; refine append_lines rfl _ _ rfl _ _ rfl HV.out a1 n1 c1 la rfl HR.out (by simp; omega) ?_)
          intro v2 w2 hown hgrow hkk
          have HB2 : Hid (∀ q, v2.ownBlock = some q → w.heap.size ≤ q) := Lib.hid (fun q hq => by
            rcases hkk q hq with e | e
            · exact HBK.out q e
            · have := HO.out.size; omega)
          have HO2 : Hid (Only (fun _ => False) w w2) := Lib.hid (HO.out.then (Only.of_grown hgrow) (fun q hq e => by have := HBK.out q e; omega))
          have HV2 := Lib.hid hown
          clear hown hgrow hkk
          go_wp2_with fail
          go_roundw
          case rel => exact ⟨1, _, rfl, .inr (.inl ⟨rfl, rfl⟩), HV2, HB2, HO2⟩
          case measure => simp [intOf]
        · have HR := Lib.hid (H2.out.only HO.out (fun _ _ f => f))
          have hll := HL.out.1
          go_wp2_with (at_builtin; refine append_lines rfl _ _ rfl _ _ rfl HV.out a2 n2 c2 lb rfl HR.out (by omega) ?_)
          intro v2 w2 hown hgrow hkk
          have HB2 : Hid (∀ q, v2.ownBlock = some q → w.heap.size ≤ q) := Lib.hid (fun q hq => by
            rcases hkk q hq with e | e
            · exact HBK.out q e
            · have := HO.out.size; omega)
          have HO2 : Hid (Only (fun _ => False) w w2) := Lib.hid (HO.out.then (Only.of_grown hgrow) (fun q hq e => by have := HBK.out q e; omega))
          have HV2 := Lib.hid hown
          clear hown hgrow hkk
          go_wp2_with fail
          go_roundw
          case rel => exact ⟨2, _, rfl, .inr (.inr ⟨rfl, rfl⟩), HV2, HB2, HO2⟩
          case measure => simp [intOf]
        · go_wp2_with fail
          go_ret
          exact ⟨_, rfl, HV.out, HBK.out, HO.out⟩

/-- how many from the first one on are like it -/
def alkF (x : Ln) : List Ln → Nat
  | [] => 0
  | y :: r => if cmpN x y = 0 then 1 + alkF x r else 0
theorem alkF_le (x : Ln) : ∀ ls : List Ln, alkF x ls ≤ ls.length := by
  intro ls
  induction ls with
  | nil => exact Nat.le_refl _
  | cons y r ih =>
    show (if cmpN x y = 0 then 1 + alkF x r else 0) ≤ r.length + 1
    split <;> omega
theorem alkF_all (x : Ln) : ∀ ls : List Ln, ∀ y ∈ ls.take (alkF x ls), lk x y := by
  intro ls
  induction ls with
  | nil => intro y h; simp at h
  | cons z r ih =>
    intro y h
    have e : alkF x (z :: r) = if cmpN x z = 0 then 1 + alkF x r else 0 := rfl
    rw [e] at h
    by_cases hc : cmpN x z = 0
    · rw [if_pos hc, Nat.add_comm, List.take_succ_cons] at h
      rcases List.mem_cons.1 h with rfl | h
      · exact (cmpN_lk _ _).1 hc
      · exact ih y h
    · rw [if_neg hc] at h; simp at h
theorem alkF_next (x : Ln) : ∀ ls : List Ln, ∀ y r, ls.drop (alkF x ls) = y :: r → ¬ lk x y := by
  intro ls
  induction ls with
  | nil => intro y r h; simp at h
  | cons z s ih =>
    intro y r h
    have e : alkF x (z :: s) = if cmpN x z = 0 then 1 + alkF x s else 0 := rfl
    rw [e] at h
    by_cases hc : cmpN x z = 0
    · rw [if_pos hc, Nat.add_comm, List.drop_succ_cons] at h
      exact ih y r h
    · rw [if_neg hc, List.drop_zero] at h
      injection h with h1 h2
      subst h1
      exact fun f => hc ((cmpN_lk _ _).2 f)
theorem alkF_step {x : Ln} {ls : List Ln} {k : Nat} (h : k < ls.length) : alkF x (ls.drop k) = if cmpN x (ls.getD k default) = 0 then 1 + alkF x (ls.drop (k + 1)) else 0 := by
  have e : ls.drop k = ls.getD k default :: ls.drop (k + 1) := by
    rw [List.drop_eq_getElem_cons h]
    simp [List.getD, h]
  rw [e]
  rfl
end Go.Proofs.Ytdfghdccbpnohaa.tirw
