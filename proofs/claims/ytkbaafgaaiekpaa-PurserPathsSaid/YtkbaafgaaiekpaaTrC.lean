/- The tree: Put, Create, New. -/
import Derived.Test.YtkbaafgaaiekpaaTrB
import Derived.Test.YtkbaafgaaiekpaaHeldL
import Derived.Deep.CutRange
import Derived.Deep.CutBlock
namespace Go.Proofs.Ytkbaafgaaiekpaa.tre
open Go.RowKit mem
set_option linter.unusedVariables false

def Room5 (w : World) (b o : Nat) : Prop := (∃ u, w.cell? ⟨b, o, none⟩ = some u) ∧ (∃ u, w.cell? ⟨b, o + 1, none⟩ = some u) ∧ (∃ u, w.cell? ⟨b, o + 2, none⟩ = some u) ∧ (∃ u, w.cell? ⟨b, o + 3, none⟩ = some u) ∧ (∃ u, w.cell? ⟨b, o + 4, none⟩ = some u) ∧
  w.frozen? ⟨b, o, none⟩ = false ∧ w.frozen? ⟨b, o + 1, none⟩ = false ∧ w.frozen? ⟨b, o + 2, none⟩ = false ∧ w.frozen? ⟨b, o + 3, none⟩ = false ∧ w.frozen? ⟨b, o + 4, none⟩ = false
theorem TreeAt.room {w : World} {p : Nat} {T : List Nd} (h : TreeAt w p T) (k : Nat) (hk : k < 33) : Room5 w p (k * 5) := by
  obtain ⟨h0, h1, h2, h3, h4⟩ := h.2.1 k hk
  exact ⟨⟨_, h0⟩, ⟨_, h1⟩, ⟨_, h2⟩, ⟨_, h3⟩, ⟨_, h4⟩, h.2.2 _ (by omega), h.2.2 _ (by omega), h.2.2 _ (by omega), h.2.2 _ (by omega), h.2.2 _ (by omega)⟩
def putE (T : List Nd) (n : Nd) : Int :=
  if ¬ (1 ≤ n.id ∧ n.id ≤ 32) then 1 else if ¬ (-1 ≤ n.lim ∧ n.lim ≤ 9007199254740992) then 1 else if ¬ (1 ≤ n.kind ∧ n.kind ≤ 3) then 21
  else if ¬ (n.par = 0 ↔ n.kind = 1) then 21 else if hasB T n.id = true then 8 else if n.kind = 1 then 0
  else if takE T n.par n.kind = 16 ∧ n.cl = true then 0 else takE T n.par n.kind
def putT (T : List Nd) (n : Nd) : List Nd := if putE T n = 0 then T.set n.id.toNat n else T
set_option maxHeartbeats 4000000 in
theorem put_any (p : Nat) (T : List Nd) (ni np nk nl : Int) (nc : Bool) (w : World) (h : TreeAt w p T) : Calls Try.prog 44 #[.pointer (some ⟨p, 0, none⟩), .agg #[.int .i64 ni, .int .i64 np, .int .i64 nk, .int .i64 nl, .bool nc]] w (Did p (putT T ⟨ni, np, nk, nl, nc⟩) (putE T ⟨ni, np, nk, nl, nc⟩) w) := by
  have HT := Lib.hid h
  obtain ⟨e0, e1, e2, e3, e4, ho9⟩ := node_box 79 (.int .i64 ni) (.int .i64 np) (.int .i64 nk) (.int .i64 nl) (.bool nc) (Only.refl (fun _ => False) w)
  have HO9 := Lib.hid ho9
  clear h ho9
  by_cases hi : 1 ≤ ni ∧ ni ≤ 32
  · obtain ⟨i1, i2⟩ := hi
    by_cases hl : -1 ≤ nl ∧ nl ≤ 9007199254740992
    · obtain ⟨l1, l2⟩ := hl
      by_cases hkd : 1 ≤ nk ∧ nk ≤ 3
      · obtain ⟨k1, k2⟩ := hkd
        have hw1 : ∀ {α : Type} (a b c : α), (if ¬ (1 ≤ ni ∧ ni ≤ 32) then a else if ¬ (-1 ≤ nl ∧ nl ≤ 9007199254740992) then a else if ¬ (1 ≤ nk ∧ nk ≤ 3) then b else c) = c := fun a b c => by rw [if_neg (fun q => q ⟨i1, i2⟩), if_neg (fun q => q ⟨l1, l2⟩), if_neg (fun q => q ⟨k1, k2⟩)]
        have hbase : putE T ⟨ni, np, nk, nl, nc⟩ = if ¬ (np = 0 ↔ nk = 1) then 21 else if hasB T ni = true then 8 else if nk = 1 then 0 else if takE T np nk = 16 ∧ nc = true then 0 else takE T np nk := hw1 _ _ _
        clear hw1
        have HBA := Lib.hid hbase
        clear hbase
        by_cases hm : np = 0 ↔ nk = 1
        · obtain ⟨k, rfl⟩ : ∃ k : Nat, ni = k := ⟨ni.toNat, by omega⟩
          have hk : k < 33 := by omega
          have hk2 : (k : Int) < 33 := by omega
          by_cases hb : hasB T (k : Int) = true
          · have HB := Lib.hid hb
            by_cases hn1 : nk = 1
            · subst hn1
              obtain rfl := hm.2 rfl
              clear hm hb
              have hE : putE T ⟨k, 0, 1, nl, nc⟩ = 8 := by unfold putE; exact HBA.out.trans (by rw [if_neg (by simp), if_pos HB.out])
              have hT : putT T ⟨k, 0, 1, nl, nc⟩ = T := by unfold putT; rw [hE]; rfl
              rw [hE, hT]
              clear hE hT
              go_enter Try.func44, Try.ntmps44
              go_wp2_with fail
              refine (isid_yes _ _ i1 i2).mono ?_
              rintro _ _ ⟨rfl, rfl⟩
              go_wp2_with fail
              refine (islimit_yes _ _ l1 l2).mono ?_
              rintro _ _ ⟨rfl, rfl⟩
              go_wp2_with fail
              refine (iskind_yes _ _ k1 k2).mono ?_
              rintro _ _ ⟨rfl, rfl⟩
              go_wp2_with fail
              refine (has_any p T (k : Int) _ (HT.out.only HO9.out (fun f => f))).mono ?_
              rintro _ _ ⟨rfl, rfl⟩
              rw [HB.out]
              go_wp2_with fail
              go_ret
              exact ⟨rfl, HT.out.only HO9.out (fun f => f), Only.p p HO9.out⟩
            · have hn0 : np ≠ 0 := fun e => hn1 (hm.1 e)
              have q1 : (np == 0) = false := by simpa using hn0
              have q2 : (nk == 1) = false := by simpa using hn1
              have HM := Lib.hid hm
              clear hm hn1 hn0 hb
              have hE : putE T ⟨k, np, nk, nl, nc⟩ = 8 := by unfold putE; exact HBA.out.trans (by rw [if_neg (fun q => q HM.out), if_pos HB.out])
              have hT : putT T ⟨k, np, nk, nl, nc⟩ = T := by unfold putT; rw [hE]; rfl
              rw [hE, hT]
              clear hE hT
              go_enter Try.func44, Try.ntmps44
              go_wp2_with fail
              refine (isid_yes _ _ i1 i2).mono ?_
              rintro _ _ ⟨rfl, rfl⟩
              go_wp2_with fail
              refine (islimit_yes _ _ l1 l2).mono ?_
              rintro _ _ ⟨rfl, rfl⟩
              go_wp2_with fail
              refine (iskind_yes _ _ k1 k2).mono ?_
              rintro _ _ ⟨rfl, rfl⟩
              go_wp2_with fail
              refine (has_any p T (k : Int) _ (HT.out.only HO9.out (fun f => f))).mono ?_
              rintro _ _ ⟨rfl, rfl⟩
              rw [HB.out]
              go_wp2_with fail
              go_ret
              exact ⟨rfl, HT.out.only HO9.out (fun f => f), Only.p p HO9.out⟩
          · have HB : Hid (hasB T (k : Int) = false) := Lib.hid (by simpa using hb)
            by_cases hn1 : nk = 1
            · subst hn1
              obtain rfl := hm.2 rfl
              clear hm hb
              have hE : putE T ⟨k, 0, 1, nl, nc⟩ = 0 := by unfold putE; exact HBA.out.trans (by rw [if_neg (by simp), if_neg (by rw [HB.out]; simp), if_pos rfl])
              have hT : putT T ⟨k, 0, 1, nl, nc⟩ = T.set k ⟨k, 0, 1, nl, nc⟩ := by unfold putT; rw [hE, if_pos rfl, Int.toNat_natCast]
              rw [hE, hT]
              clear hE hT
              have HST : Hid (∀ w1, Only (fun _ => False) w w1 → TreeAt (put5 w1 p (k * 5) (.int .i64 k) (.int .i64 0) (.int .i64 1) (.int .i64 nl) (.bool nc)) p (T.set k ⟨k, 0, 1, nl, nc⟩)) := Lib.hid (fun w1 ho => (HT.out.only ho (fun f => f)).put k ⟨k, 0, 1, nl, nc⟩ hk)
              have HCL : Hid (∀ w1, Only (fun _ => False) w w1 → Room5 w1 p (k * 5)) := Lib.hid (fun w1 ho => (HT.out.only ho (fun f => f)).room k hk)
              go_enter Try.func44, Try.ntmps44
              go_wp2_with fail
              refine (isid_yes _ _ i1 i2).mono ?_
              rintro _ _ ⟨rfl, rfl⟩
              go_wp2_with fail
              refine (islimit_yes _ _ l1 l2).mono ?_
              rintro _ _ ⟨rfl, rfl⟩
              go_wp2_with fail
              refine (iskind_yes _ _ k1 k2).mono ?_
              rintro _ _ ⟨rfl, rfl⟩
              go_wp2_with fail
              refine (has_any p T (k : Int) _ (HT.out.only HO9.out (fun f => f))).mono ?_
              rintro _ _ ⟨rfl, rfl⟩
              rw [HB.out]
              go_upto_region 11 with fail
              obtain ⟨w2, hw2⟩ : ∃ x, x = w.alloc (.cells #[.int .i64 k, .int .i64 0, .int .i64 1, .int .i64 nl, .bool nc] 79) := ⟨_, rfl⟩
              rw [← hw2] at e0 e1 e2 e3 e4 HO9 ⊢
              clear hw2
              have h9 := HO9.out
              clear HO9
              refine wp_region_noPanic ?_
              refine late.region (fun w' => ∀ q, w'.cell? q = w2.cell? q) (fun j => [7].contains j) (by kernel_rfl) (fun q => by simp) (fun hHeld => ?_)
              obtain ⟨u0, hu0⟩ : ∃ x, x = w2.drew := ⟨_, rfl⟩
              rw [← hu0] at hHeld ⊢
              have hou : Only (fun _ => False) w u0 := by rw [hu0]; exact h9.drew
              obtain ⟨⟨u9, d0⟩, ⟨u1, d1⟩, ⟨u2, d2⟩, ⟨u3, d3⟩, ⟨u4, d4⟩, f0, f1, f2, f3, f4⟩ := HCL.out _ hou
              have HW9 := Lib.hid (HST.out _ hou)
              have HW8 := Lib.hid ((Only.p p hou).trans (put5_only _ p (k * 5) (.int .i64 k) (.int .i64 0) (.int .i64 1) (.int .i64 nl) (.bool nc)))
              unfold put5 at HW9 HW8
              clear HST HCL hou hu0 h9
              refine late.take (i := 0) [4, 5, 6, 7] (v := ?_) rfl (by kernel_rfl) (by kernel_rfl) (by kernel_rfl) (by kernel_rfl) (fun _ _ _ h => h) (Or.inl ⟨by rfl, ?_⟩) (by assumption) ?_
              rotate_left 1
              · intro w' hSw
                try dsimp only at hSw
                go_simp
                try with_reducible rfl
              try simp only [List.getElem_toArray, List.getElem_cons_zero, Act.put, List.setIfInBounds_toArray, List.set_cons_zero, List.set_cons_succ]
              refine late.take (i := 1) [2, 6, 7] (v := ?_) rfl (by kernel_rfl) (by kernel_rfl) (by kernel_rfl) (by kernel_rfl) (fun _ _ _ h => h) (Or.inl ⟨by rfl, ?_⟩) (by assumption) ?_
              rotate_left 1
              · intro w' hSw
                try dsimp only at hSw
                go_simp
                try with_reducible rfl
              try simp only [List.getElem_toArray, List.getElem_cons_zero, List.getElem_cons_succ, Act.put, List.setIfInBounds_toArray, List.set_cons_zero, List.set_cons_succ]
              refine late.take (i := 2) [6, 7] (v := ?_) rfl (by kernel_rfl) (by kernel_rfl) (by kernel_rfl) (by kernel_rfl) (fun _ _ _ h => h) (Or.inl ⟨by rfl, ?_⟩) (by assumption) ?_
              rotate_left 1
              · intro w' hSw
                try dsimp only at hSw
                go_simp
                try with_reducible rfl
              try simp only [List.getElem_toArray, List.getElem_cons_zero, List.getElem_cons_succ, Act.put, List.setIfInBounds_toArray, List.set_cons_zero, List.set_cons_succ]
              refine late.take (i := 3) [6, 7] (v := ?_) rfl (by kernel_rfl) (by kernel_rfl) (by kernel_rfl) (by kernel_rfl) (fun _ _ _ h => h) (Or.inl ⟨by rfl, ?_⟩) (by assumption) ?_
              rotate_left 1
              · intro w' hSw
                try dsimp only at hSw
                go_simp
                try with_reducible rfl
              try simp only [List.getElem_toArray, List.getElem_cons_zero, List.getElem_cons_succ, Act.put, List.setIfInBounds_toArray, List.set_cons_zero, List.set_cons_succ]
              refine late.take (i := 4) [5, 6, 7] (v := ?_) rfl (by kernel_rfl) (by kernel_rfl) (by kernel_rfl) (by kernel_rfl) (fun _ _ _ h => h) (Or.inl ⟨by rfl, ?_⟩) (by assumption) ?_
              rotate_left 1
              · intro w' hSw
                try dsimp only at hSw
                go_simp
                try with_reducible rfl
              try simp only [List.getElem_toArray, List.getElem_cons_zero, List.getElem_cons_succ, Act.put, List.setIfInBounds_toArray, List.set_cons_zero, List.set_cons_succ]
              refine late.take (i := 5) [6, 7] (v := ?_) rfl (by kernel_rfl) (by kernel_rfl) (by kernel_rfl) (by kernel_rfl) (fun _ _ _ h => h) (Or.inl ⟨by rfl, ?_⟩) (by assumption) ?_
              rotate_left 1
              · intro w' hSw
                try dsimp only at hSw
                go_simp
                try with_reducible rfl
              try simp only [List.getElem_toArray, List.getElem_cons_zero, List.getElem_cons_succ, Act.put, List.setIfInBounds_toArray, List.set_cons_zero, List.set_cons_succ]
              refine late.take (i := 6) [7] (v := ?_) rfl (by kernel_rfl) (by kernel_rfl) (by kernel_rfl) (by kernel_rfl) (fun _ _ _ h => h) (Or.inl ⟨by rfl, ?_⟩) (by assumption) ?_
              rotate_left 1
              · intro w' hSw
                try dsimp only at hSw
                go_simp
                try with_reducible rfl
              try simp only [List.getElem_toArray, List.getElem_cons_zero, List.getElem_cons_succ, Act.put, List.setIfInBounds_toArray, List.set_cons_zero, List.set_cons_succ]
              refine late.ready (rs := [7]) (by kernel_rfl) (by simp) ?_
              refine late.Each.cons rfl (fun K hK => ?_) late.Each.nil
              clear hHeld
              try simp only [List.getElem_toArray, List.getElem_cons_zero, List.getElem_cons_succ]
              go_simp
              refine hK.out _ _ (fun h => by cases h) (fun _ => ?_)
              clear hK K
              try simp only [List.getElem_toArray, List.getElem_cons_zero, List.getElem_cons_succ, Act.put, List.setIfInBounds_toArray, List.set_cons_zero, List.set_cons_succ]
              refine late.done (by kernel_rfl) ?_ _
              refine NoPanic.normal ?_
              go_wp2_with fail
              go_ret
              exact ⟨rfl, HW9.out, HW8.out⟩
            · have hn0 : np ≠ 0 := fun e => hn1 (hm.1 e)
              have q1 : (np == 0) = false := by simpa using hn0
              have q2 : (nk == 1) = false := by simpa using hn1
              have q3 : (nk != 1) = true := by simpa using hn1
              have HTK : Hid (∀ w1, TreeAt w1 p T → _) := Lib.hid (fun w1 h => takes_any p T np nk w1 h (by omega))
              have hbase : putE T ⟨k, np, nk, nl, nc⟩ = if takE T np nk = 16 ∧ nc = true then 0 else takE T np nk := HBA.out.trans (by rw [if_neg (fun q => q hm), if_neg (by rw [HB.out]; simp), if_neg hn1])
              clear hm hn1 hn0 hb HBA
              have HBA := Lib.hid hbase
              clear hbase
              generalize takE T np nk = te at *
              by_cases ht0 : te = 0
              · subst ht0
                have hE : putE T ⟨k, np, nk, nl, nc⟩ = 0 := by unfold putE; exact HBA.out.trans (by rw [if_neg (by simp)])
                have hT : putT T ⟨k, np, nk, nl, nc⟩ = T.set k ⟨k, np, nk, nl, nc⟩ := by unfold putT; rw [hE, if_pos rfl, Int.toNat_natCast]
                rw [hE, hT]
                clear hE hT
                have HST : Hid (∀ w1, Only (fun _ => False) w w1 → TreeAt (put5 w1 p (k * 5) (.int .i64 k) (.int .i64 np) (.int .i64 nk) (.int .i64 nl) (.bool nc)) p (T.set k ⟨k, np, nk, nl, nc⟩)) := Lib.hid (fun w1 ho => (HT.out.only ho (fun f => f)).put k ⟨k, np, nk, nl, nc⟩ hk)
                have HCL : Hid (∀ w1, Only (fun _ => False) w w1 → Room5 w1 p (k * 5)) := Lib.hid (fun w1 ho => (HT.out.only ho (fun f => f)).room k hk)
                go_enter Try.func44, Try.ntmps44
                go_wp2_with fail
                refine (isid_yes _ _ i1 i2).mono ?_
                rintro _ _ ⟨rfl, rfl⟩
                go_wp2_with fail
                refine (islimit_yes _ _ l1 l2).mono ?_
                rintro _ _ ⟨rfl, rfl⟩
                go_wp2_with fail
                refine (iskind_yes _ _ k1 k2).mono ?_
                rintro _ _ ⟨rfl, rfl⟩
                go_wp2_with fail
                refine (has_any p T (k : Int) _ (HT.out.only HO9.out (fun f => f))).mono ?_
                rintro _ _ ⟨rfl, rfl⟩
                rw [HB.out]
                go_wp2_with fail
                refine (HTK.out _ (HT.out.only HO9.out (fun f => f))).mono ?_
                rintro _ w2 ⟨rfl, ho2⟩
                replace e0 := ho2.cell' e0 (fun f => f)
                replace e1 := ho2.cell' e1 (fun f => f)
                replace e2 := ho2.cell' e2 (fun f => f)
                replace e3 := ho2.cell' e3 (fun f => f)
                replace e4 := ho2.cell' e4 (fun f => f)
                have HO10 := Lib.hid (HO9.out.trans ho2)
                clear ho2 HTK
                go_upto_region 11 with fail
                have h9 := HO10.out
                clear HO9
                refine wp_region_noPanic ?_
                refine late.region (fun w' => ∀ q, w'.cell? q = w2.cell? q) (fun j => [7].contains j) (by kernel_rfl) (fun q => by simp) (fun hHeld => ?_)
                obtain ⟨u0, hu0⟩ : ∃ x, x = w2.drew := ⟨_, rfl⟩
                rw [← hu0] at hHeld ⊢
                have hou : Only (fun _ => False) w u0 := by rw [hu0]; exact h9.drew
                obtain ⟨⟨u9, d0⟩, ⟨u1, d1⟩, ⟨u2, d2⟩, ⟨u3, d3⟩, ⟨u4, d4⟩, f0, f1, f2, f3, f4⟩ := HCL.out _ hou
                have HW9 := Lib.hid (HST.out _ hou)
                have HW8 := Lib.hid ((Only.p p hou).trans (put5_only _ p (k * 5) (.int .i64 k) (.int .i64 np) (.int .i64 nk) (.int .i64 nl) (.bool nc)))
                unfold put5 at HW9 HW8
                clear HST HCL hou hu0 h9
                refine late.take (i := 0) [4, 5, 6, 7] (v := ?_) rfl (by kernel_rfl) (by kernel_rfl) (by kernel_rfl) (by kernel_rfl) (fun _ _ _ h => h) (Or.inl ⟨by rfl, ?_⟩) (by assumption) ?_
                rotate_left 1
                · intro w' hSw
                  try dsimp only at hSw
                  go_simp
                  try with_reducible rfl
                try simp only [List.getElem_toArray, List.getElem_cons_zero, Act.put, List.setIfInBounds_toArray, List.set_cons_zero, List.set_cons_succ]
                refine late.take (i := 1) [2, 6, 7] (v := ?_) rfl (by kernel_rfl) (by kernel_rfl) (by kernel_rfl) (by kernel_rfl) (fun _ _ _ h => h) (Or.inl ⟨by rfl, ?_⟩) (by assumption) ?_
                rotate_left 1
                · intro w' hSw
                  try dsimp only at hSw
                  go_simp
                  try with_reducible rfl
                try simp only [List.getElem_toArray, List.getElem_cons_zero, List.getElem_cons_succ, Act.put, List.setIfInBounds_toArray, List.set_cons_zero, List.set_cons_succ]
                refine late.take (i := 2) [6, 7] (v := ?_) rfl (by kernel_rfl) (by kernel_rfl) (by kernel_rfl) (by kernel_rfl) (fun _ _ _ h => h) (Or.inl ⟨by rfl, ?_⟩) (by assumption) ?_
                rotate_left 1
                · intro w' hSw
                  try dsimp only at hSw
                  go_simp
                  try with_reducible rfl
                try simp only [List.getElem_toArray, List.getElem_cons_zero, List.getElem_cons_succ, Act.put, List.setIfInBounds_toArray, List.set_cons_zero, List.set_cons_succ]
                refine late.take (i := 3) [6, 7] (v := ?_) rfl (by kernel_rfl) (by kernel_rfl) (by kernel_rfl) (by kernel_rfl) (fun _ _ _ h => h) (Or.inl ⟨by rfl, ?_⟩) (by assumption) ?_
                rotate_left 1
                · intro w' hSw
                  try dsimp only at hSw
                  go_simp
                  try with_reducible rfl
                try simp only [List.getElem_toArray, List.getElem_cons_zero, List.getElem_cons_succ, Act.put, List.setIfInBounds_toArray, List.set_cons_zero, List.set_cons_succ]
                refine late.take (i := 4) [5, 6, 7] (v := ?_) rfl (by kernel_rfl) (by kernel_rfl) (by kernel_rfl) (by kernel_rfl) (fun _ _ _ h => h) (Or.inl ⟨by rfl, ?_⟩) (by assumption) ?_
                rotate_left 1
                · intro w' hSw
                  try dsimp only at hSw
                  go_simp
                  try with_reducible rfl
                try simp only [List.getElem_toArray, List.getElem_cons_zero, List.getElem_cons_succ, Act.put, List.setIfInBounds_toArray, List.set_cons_zero, List.set_cons_succ]
                refine late.take (i := 5) [6, 7] (v := ?_) rfl (by kernel_rfl) (by kernel_rfl) (by kernel_rfl) (by kernel_rfl) (fun _ _ _ h => h) (Or.inl ⟨by rfl, ?_⟩) (by assumption) ?_
                rotate_left 1
                · intro w' hSw
                  try dsimp only at hSw
                  go_simp
                  try with_reducible rfl
                try simp only [List.getElem_toArray, List.getElem_cons_zero, List.getElem_cons_succ, Act.put, List.setIfInBounds_toArray, List.set_cons_zero, List.set_cons_succ]
                refine late.take (i := 6) [7] (v := ?_) rfl (by kernel_rfl) (by kernel_rfl) (by kernel_rfl) (by kernel_rfl) (fun _ _ _ h => h) (Or.inl ⟨by rfl, ?_⟩) (by assumption) ?_
                rotate_left 1
                · intro w' hSw
                  try dsimp only at hSw
                  go_simp
                  try with_reducible rfl
                try simp only [List.getElem_toArray, List.getElem_cons_zero, List.getElem_cons_succ, Act.put, List.setIfInBounds_toArray, List.set_cons_zero, List.set_cons_succ]
                refine late.ready (rs := [7]) (by kernel_rfl) (by simp) ?_
                refine late.Each.cons rfl (fun K hK => ?_) late.Each.nil
                clear hHeld
                try simp only [List.getElem_toArray, List.getElem_cons_zero, List.getElem_cons_succ]
                go_simp
                refine hK.out _ _ (fun h => by cases h) (fun _ => ?_)
                clear hK K
                try simp only [List.getElem_toArray, List.getElem_cons_zero, List.getElem_cons_succ, Act.put, List.setIfInBounds_toArray, List.set_cons_zero, List.set_cons_succ]
                refine late.done (by kernel_rfl) ?_ _
                refine NoPanic.normal ?_
                go_wp2_with fail
                go_ret
                exact ⟨rfl, HW9.out, HW8.out⟩
              · have q4 : (te != 0) = true := by simpa using ht0
                by_cases ht1 : te = 16
                · subst ht1
                  cases nc
                  · have hE : putE T ⟨k, np, nk, nl, false⟩ = 16 := by unfold putE; exact HBA.out.trans (by rw [if_neg (by simp)])
                    have hT : putT T ⟨k, np, nk, nl, false⟩ = T := by unfold putT; rw [hE]; rfl
                    rw [hE, hT]
                    clear hE hT
                    go_enter Try.func44, Try.ntmps44
                    go_wp2_with fail
                    refine (isid_yes _ _ i1 i2).mono ?_
                    rintro _ _ ⟨rfl, rfl⟩
                    go_wp2_with fail
                    refine (islimit_yes _ _ l1 l2).mono ?_
                    rintro _ _ ⟨rfl, rfl⟩
                    go_wp2_with fail
                    refine (iskind_yes _ _ k1 k2).mono ?_
                    rintro _ _ ⟨rfl, rfl⟩
                    go_wp2_with fail
                    refine (has_any p T (k : Int) _ (HT.out.only HO9.out (fun f => f))).mono ?_
                    rintro _ _ ⟨rfl, rfl⟩
                    rw [HB.out]
                    go_wp2_with fail
                    refine (HTK.out _ (HT.out.only HO9.out (fun f => f))).mono ?_
                    rintro _ w2 ⟨rfl, ho2⟩
                    replace e4 := ho2.cell' e4 (fun f => f)
                    have HO10 := Lib.hid (HO9.out.trans ho2)
                    clear ho2 HTK
                    go_wp2_with fail
                    go_ret
                    exact ⟨rfl, HT.out.only HO10.out (fun f => f), Only.p p HO10.out⟩

                  · have hE : putE T ⟨k, np, nk, nl, true⟩ = 0 := by unfold putE; exact HBA.out.trans (by rw [if_pos ⟨rfl, rfl⟩])
                    have hT : putT T ⟨k, np, nk, nl, true⟩ = T.set k ⟨k, np, nk, nl, true⟩ := by unfold putT; rw [hE, if_pos rfl, Int.toNat_natCast]
                    rw [hE, hT]
                    clear hE hT
                    have HST : Hid (∀ w1, Only (fun _ => False) w w1 → TreeAt (put5 w1 p (k * 5) (.int .i64 k) (.int .i64 np) (.int .i64 nk) (.int .i64 nl) (.bool true)) p (T.set k ⟨k, np, nk, nl, true⟩)) := Lib.hid (fun w1 ho => (HT.out.only ho (fun f => f)).put k ⟨k, np, nk, nl, true⟩ hk)
                    have HCL : Hid (∀ w1, Only (fun _ => False) w w1 → Room5 w1 p (k * 5)) := Lib.hid (fun w1 ho => (HT.out.only ho (fun f => f)).room k hk)
                    go_enter Try.func44, Try.ntmps44
                    go_wp2_with fail
                    refine (isid_yes _ _ i1 i2).mono ?_
                    rintro _ _ ⟨rfl, rfl⟩
                    go_wp2_with fail
                    refine (islimit_yes _ _ l1 l2).mono ?_
                    rintro _ _ ⟨rfl, rfl⟩
                    go_wp2_with fail
                    refine (iskind_yes _ _ k1 k2).mono ?_
                    rintro _ _ ⟨rfl, rfl⟩
                    go_wp2_with fail
                    refine (has_any p T (k : Int) _ (HT.out.only HO9.out (fun f => f))).mono ?_
                    rintro _ _ ⟨rfl, rfl⟩
                    rw [HB.out]
                    go_wp2_with fail
                    refine (HTK.out _ (HT.out.only HO9.out (fun f => f))).mono ?_
                    rintro _ w2 ⟨rfl, ho2⟩
                    replace e0 := ho2.cell' e0 (fun f => f)
                    replace e1 := ho2.cell' e1 (fun f => f)
                    replace e2 := ho2.cell' e2 (fun f => f)
                    replace e3 := ho2.cell' e3 (fun f => f)
                    replace e4 := ho2.cell' e4 (fun f => f)
                    have HO10 := Lib.hid (HO9.out.trans ho2)
                    clear ho2 HTK
                    go_upto_region 11 with fail
                    have h9 := HO10.out
                    clear HO9
                    refine wp_region_noPanic ?_
                    refine late.region (fun w' => ∀ q, w'.cell? q = w2.cell? q) (fun j => [7].contains j) (by kernel_rfl) (fun q => by simp) (fun hHeld => ?_)
                    obtain ⟨u0, hu0⟩ : ∃ x, x = w2.drew := ⟨_, rfl⟩
                    rw [← hu0] at hHeld ⊢
                    have hou : Only (fun _ => False) w u0 := by rw [hu0]; exact h9.drew
                    obtain ⟨⟨u9, d0⟩, ⟨u1, d1⟩, ⟨u2, d2⟩, ⟨u3, d3⟩, ⟨u4, d4⟩, f0, f1, f2, f3, f4⟩ := HCL.out _ hou
                    have HW9 := Lib.hid (HST.out _ hou)
                    have HW8 := Lib.hid ((Only.p p hou).trans (put5_only _ p (k * 5) (.int .i64 k) (.int .i64 np) (.int .i64 nk) (.int .i64 nl) (.bool true)))
                    unfold put5 at HW9 HW8
                    clear HST HCL hou hu0 h9
                    refine late.take (i := 0) [4, 5, 6, 7] (v := ?_) rfl (by kernel_rfl) (by kernel_rfl) (by kernel_rfl) (by kernel_rfl) (fun _ _ _ h => h) (Or.inl ⟨by rfl, ?_⟩) (by assumption) ?_
                    rotate_left 1
                    · intro w' hSw
                      try dsimp only at hSw
                      go_simp
                      try with_reducible rfl
                    try simp only [List.getElem_toArray, List.getElem_cons_zero, Act.put, List.setIfInBounds_toArray, List.set_cons_zero, List.set_cons_succ]
                    refine late.take (i := 1) [2, 6, 7] (v := ?_) rfl (by kernel_rfl) (by kernel_rfl) (by kernel_rfl) (by kernel_rfl) (fun _ _ _ h => h) (Or.inl ⟨by rfl, ?_⟩) (by assumption) ?_
                    rotate_left 1
                    · intro w' hSw
                      try dsimp only at hSw
                      go_simp
                      try with_reducible rfl
                    try simp only [List.getElem_toArray, List.getElem_cons_zero, List.getElem_cons_succ, Act.put, List.setIfInBounds_toArray, List.set_cons_zero, List.set_cons_succ]
                    refine late.take (i := 2) [6, 7] (v := ?_) rfl (by kernel_rfl) (by kernel_rfl) (by kernel_rfl) (by kernel_rfl) (fun _ _ _ h => h) (Or.inl ⟨by rfl, ?_⟩) (by assumption) ?_
                    rotate_left 1
                    · intro w' hSw
                      try dsimp only at hSw
                      go_simp
                      try with_reducible rfl
                    try simp only [List.getElem_toArray, List.getElem_cons_zero, List.getElem_cons_succ, Act.put, List.setIfInBounds_toArray, List.set_cons_zero, List.set_cons_succ]
                    refine late.take (i := 3) [6, 7] (v := ?_) rfl (by kernel_rfl) (by kernel_rfl) (by kernel_rfl) (by kernel_rfl) (fun _ _ _ h => h) (Or.inl ⟨by rfl, ?_⟩) (by assumption) ?_
                    rotate_left 1
                    · intro w' hSw
                      try dsimp only at hSw
                      go_simp
                      try with_reducible rfl
                    try simp only [List.getElem_toArray, List.getElem_cons_zero, List.getElem_cons_succ, Act.put, List.setIfInBounds_toArray, List.set_cons_zero, List.set_cons_succ]
                    refine late.take (i := 4) [5, 6, 7] (v := ?_) rfl (by kernel_rfl) (by kernel_rfl) (by kernel_rfl) (by kernel_rfl) (fun _ _ _ h => h) (Or.inl ⟨by rfl, ?_⟩) (by assumption) ?_
                    rotate_left 1
                    · intro w' hSw
                      try dsimp only at hSw
                      go_simp
                      try with_reducible rfl
                    try simp only [List.getElem_toArray, List.getElem_cons_zero, List.getElem_cons_succ, Act.put, List.setIfInBounds_toArray, List.set_cons_zero, List.set_cons_succ]
                    refine late.take (i := 5) [6, 7] (v := ?_) rfl (by kernel_rfl) (by kernel_rfl) (by kernel_rfl) (by kernel_rfl) (fun _ _ _ h => h) (Or.inl ⟨by rfl, ?_⟩) (by assumption) ?_
                    rotate_left 1
                    · intro w' hSw
                      try dsimp only at hSw
                      go_simp
                      try with_reducible rfl
                    try simp only [List.getElem_toArray, List.getElem_cons_zero, List.getElem_cons_succ, Act.put, List.setIfInBounds_toArray, List.set_cons_zero, List.set_cons_succ]
                    refine late.take (i := 6) [7] (v := ?_) rfl (by kernel_rfl) (by kernel_rfl) (by kernel_rfl) (by kernel_rfl) (fun _ _ _ h => h) (Or.inl ⟨by rfl, ?_⟩) (by assumption) ?_
                    rotate_left 1
                    · intro w' hSw
                      try dsimp only at hSw
                      go_simp
                      try with_reducible rfl
                    try simp only [List.getElem_toArray, List.getElem_cons_zero, List.getElem_cons_succ, Act.put, List.setIfInBounds_toArray, List.set_cons_zero, List.set_cons_succ]
                    refine late.ready (rs := [7]) (by kernel_rfl) (by simp) ?_
                    refine late.Each.cons rfl (fun K hK => ?_) late.Each.nil
                    clear hHeld
                    try simp only [List.getElem_toArray, List.getElem_cons_zero, List.getElem_cons_succ]
                    go_simp
                    refine hK.out _ _ (fun h => by cases h) (fun _ => ?_)
                    clear hK K
                    try simp only [List.getElem_toArray, List.getElem_cons_zero, List.getElem_cons_succ, Act.put, List.setIfInBounds_toArray, List.set_cons_zero, List.set_cons_succ]
                    refine late.done (by kernel_rfl) ?_ _
                    refine NoPanic.normal ?_
                    go_wp2_with fail
                    go_ret
                    exact ⟨rfl, HW9.out, HW8.out⟩

                · have q5 : (te == 16) = false := by simpa using ht1
                  have HE0 := Lib.hid (show te ≠ 0 from ht0)
                  have HE1 := Lib.hid (show te ≠ 16 from ht1)
                  clear ht0 ht1
                  have hE : putE T ⟨k, np, nk, nl, nc⟩ = te := by unfold putE; exact HBA.out.trans (by rw [if_neg (fun q => HE1.out q.1)])
                  have hT : putT T ⟨k, np, nk, nl, nc⟩ = T := by unfold putT; rw [hE, if_neg HE0.out]
                  rw [hE, hT]
                  clear hE hT
                  go_enter Try.func44, Try.ntmps44
                  go_wp2_with fail
                  refine (isid_yes _ _ i1 i2).mono ?_
                  rintro _ _ ⟨rfl, rfl⟩
                  go_wp2_with fail
                  refine (islimit_yes _ _ l1 l2).mono ?_
                  rintro _ _ ⟨rfl, rfl⟩
                  go_wp2_with fail
                  refine (iskind_yes _ _ k1 k2).mono ?_
                  rintro _ _ ⟨rfl, rfl⟩
                  go_wp2_with fail
                  refine (has_any p T (k : Int) _ (HT.out.only HO9.out (fun f => f))).mono ?_
                  rintro _ _ ⟨rfl, rfl⟩
                  rw [HB.out]
                  go_wp2_with fail
                  refine (HTK.out _ (HT.out.only HO9.out (fun f => f))).mono ?_
                  rintro _ w2 ⟨rfl, ho2⟩
                  replace e4 := ho2.cell' e4 (fun f => f)
                  have HO10 := Lib.hid (HO9.out.trans ho2)
                  clear ho2 HTK
                  go_wp2_with fail
                  go_ret
                  exact ⟨rfl, HT.out.only HO10.out (fun f => f), Only.p p HO10.out⟩
        · have hm1 := hm
          have HM := Lib.hid hm
          by_cases hn1 : nk = 1
          · subst hn1
            have hn0 : np ≠ 0 := fun e => hm1 ⟨fun _ => rfl, fun _ => e⟩
            have q1 : (np == 0) = false := by simpa using hn0
            clear hm hm1 hn0
            have hE : putE T ⟨ni, np, 1, nl, nc⟩ = 21 := by unfold putE; exact HBA.out.trans (by rw [if_pos HM.out])
            have hT : putT T ⟨ni, np, 1, nl, nc⟩ = T := by unfold putT; rw [hE]; rfl
            rw [hE, hT]
            clear hE hT
            go_enter Try.func44, Try.ntmps44
            go_wp2_with fail
            refine (isid_yes _ _ i1 i2).mono ?_
            rintro _ _ ⟨rfl, rfl⟩
            go_wp2_with fail
            refine (islimit_yes _ _ l1 l2).mono ?_
            rintro _ _ ⟨rfl, rfl⟩
            go_wp2_with fail
            refine (iskind_yes _ _ k1 k2).mono ?_
            rintro _ _ ⟨rfl, rfl⟩
            go_wp2_with fail
            go_ret
            exact ⟨rfl, HT.out.only HO9.out (fun f => f), Only.p p HO9.out⟩
          · by_cases hn0 : np = 0
            · subst hn0
              have q2 : (nk == 1) = false := by simpa using hn1
              clear hm hm1 hn1
              have hE : putE T ⟨ni, 0, nk, nl, nc⟩ = 21 := by unfold putE; exact HBA.out.trans (by rw [if_pos HM.out])
              have hT : putT T ⟨ni, 0, nk, nl, nc⟩ = T := by unfold putT; rw [hE]; rfl
              rw [hE, hT]
              clear hE hT
              go_enter Try.func44, Try.ntmps44
              go_wp2_with fail
              refine (isid_yes _ _ i1 i2).mono ?_
              rintro _ _ ⟨rfl, rfl⟩
              go_wp2_with fail
              refine (islimit_yes _ _ l1 l2).mono ?_
              rintro _ _ ⟨rfl, rfl⟩
              go_wp2_with fail
              refine (iskind_yes _ _ k1 k2).mono ?_
              rintro _ _ ⟨rfl, rfl⟩
              go_wp2_with fail
              go_ret
              exact ⟨rfl, HT.out.only HO9.out (fun f => f), Only.p p HO9.out⟩
            · exact absurd (iff_of_false hn0 hn1) hm
      · have HKD := Lib.hid hkd
        clear hkd
        have hE : putE T ⟨ni, np, nk, nl, nc⟩ = 21 := by unfold putE; dsimp only; rw [if_neg (fun q => q ⟨i1, i2⟩), if_neg (fun q => q ⟨l1, l2⟩), if_pos HKD.out]
        have hT : putT T ⟨ni, np, nk, nl, nc⟩ = T := by unfold putT; rw [hE]; rfl
        rw [hE, hT]
        clear hE hT
        go_enter Try.func44, Try.ntmps44
        go_wp2_with fail
        refine (isid_yes _ _ i1 i2).mono ?_
        rintro _ _ ⟨rfl, rfl⟩
        go_wp2_with fail
        refine (islimit_yes _ _ l1 l2).mono ?_
        rintro _ _ ⟨rfl, rfl⟩
        go_wp2_with fail
        refine (iskind_no _ _ HKD.out).mono ?_
        rintro _ _ ⟨rfl, rfl⟩
        go_wp2_with fail
        go_ret
        exact ⟨rfl, HT.out.only HO9.out (fun f => f), Only.p p HO9.out⟩
    · have HL := Lib.hid hl
      clear hl
      have hE : putE T ⟨ni, np, nk, nl, nc⟩ = 1 := by unfold putE; dsimp only; rw [if_neg (fun q => q ⟨i1, i2⟩), if_pos HL.out]
      have hT : putT T ⟨ni, np, nk, nl, nc⟩ = T := by unfold putT; rw [hE]; rfl
      rw [hE, hT]
      clear hE hT
      go_enter Try.func44, Try.ntmps44
      go_wp2_with fail
      refine (isid_yes _ _ i1 i2).mono ?_
      rintro _ _ ⟨rfl, rfl⟩
      go_wp2_with fail
      refine (islimit_no _ _ HL.out).mono ?_
      rintro _ _ ⟨rfl, rfl⟩
      go_wp2_with fail
      go_ret
      exact ⟨rfl, HT.out.only HO9.out (fun f => f), Only.p p HO9.out⟩
  · have HI := Lib.hid hi
    clear hi
    have hE : putE T ⟨ni, np, nk, nl, nc⟩ = 1 := by unfold putE; dsimp only; rw [if_pos HI.out]
    have hT : putT T ⟨ni, np, nk, nl, nc⟩ = T := by unfold putT; rw [hE]; rfl
    rw [hE, hT]
    clear hE hT
    go_enter Try.func44, Try.ntmps44
    go_wp2_with fail
    refine (isid_no _ _ HI.out).mono ?_
    rintro _ _ ⟨rfl, rfl⟩
    go_wp2_with fail
    go_ret
    exact ⟨rfl, HT.out.only HO9.out (fun f => f), Only.p p HO9.out⟩

theorem create_any (p : Nat) (T : List Nd) (ni np nk nl : Int) (w : World) (h : TreeAt w p T) : Calls Try.prog 18 #[.pointer (some ⟨p, 0, none⟩), .int .i64 ni, .int .i64 np, .int .i64 nk, .int .i64 nl] w (Did p (putT T ⟨ni, np, nk, nl, false⟩) (putE T ⟨ni, np, nk, nl, false⟩) w) := by
  have HP := Lib.hid (put_any p T ni np nk nl false w h)
  clear h
  generalize putT T ⟨ni, np, nk, nl, false⟩ = T' at *
  generalize putE T ⟨ni, np, nk, nl, false⟩ = E at *
  go_enter Try.func18, Try.ntmps18
  go_wp2_with fail
  refine HP.out.mono ?_
  rintro _ w1 ⟨rfl, h2, h3⟩
  have H2 := Lib.hid h2
  have H3 := Lib.hid h3
  clear h2 h3
  go_wp2_with fail
  go_ret
  exact ⟨rfl, H2.out, H3.out⟩
end Go.Proofs.Ytkbaafgaaiekpaa.tre
