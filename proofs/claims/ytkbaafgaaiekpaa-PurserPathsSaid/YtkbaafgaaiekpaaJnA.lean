/- The journal in memory; New, Period, Len, Close, Balance. -/
import Derived.Test.YtkbaafgaaiekpaaAccN
import Derived.Test.YtkbaafgaaiekpaaEntPm
import Derived.Test.YtkbaafgaaiekpaaHeldL
namespace Go.Proofs.Ytkbaafgaaiekpaa.jnw
open Go.RowKit mem accm accn entw
set_option linter.unusedVariables false

theorem run_index_row (l : List Int) (k : Nat) (hl : l.length = 32) (hk : k < 32) (w : World) : (Instr.index 94 (sec l) (.int .i64 (k : Int))).run Try.prog w = .ok (.int .i64 (l.getD k 0)) w := by
  have h1 : (0 : Int) ≤ k ∧ (k : Int) < (32 : Nat) := by omega
  have e3 : (iv l)[k]? = some (Value.int .i64 (l.getD k 0)) := by simp [iv, List.getD, hl, hk]
  generalize l.getD k 0 = n at *
  simp [Instr.index, run_underlying Try.underlying94, asIntOf, hk, part, go_sem, sec, e3]

/-- block q's map, or none -/
def MapN (w : World) (m : Option Nat) (n : Nat) (C : Ac → Option (List Int)) : Prop := match m with
  | none => ∀ a, C a = none
  | some b => MapA w b n C
theorem MapN.only {S : Nat → Prop} {w w' : World} {m : Option Nat} {n : Nat} {C : Ac → Option (List Int)} (h : MapN w m n C) (ho : Only S w w') (hs : ∀ b, m = some b → ¬ S b) : MapN w' m n C := by
  cases m with
  | none => exact h
  | some b => exact MapA.only h ho (hs b rfl)
theorem MapN.look {w : World} {m : Option Nat} {n : Nat} {C : Ac → Option (List Int)} (h : MapN w m n C) {a : Ac} (ha : InA a) : (Instr.lookup 75 (.map m) (acc a) false).run Try.prog w = .ok (sec ((C a).getD noughts)) w := by
  cases m with
  | none => rw [h a]; exact look_none w ha
  | some b => exact MapA.look h ha
theorem MapN.row {w : World} {m : Option Nat} {n : Nat} {C : Ac → Option (List Int)} (h : MapN w m n C) (a : Ac) : Row ((C a).getD noughts) := by
  cases m with
  | none => rw [h a]; exact row_noughts
  | some b => exact MapA.row h a

/-- the journal's own cells: its row of entries, its open period, its map -/
structure JnC (w : World) (p : Nat) (v : Value) (op : Nat) (m : Option Nat) : Prop where
  c0 : w.cell? ⟨p, 0, none⟩ = some v
  c1 : w.cell? ⟨p, 1, none⟩ = some (.int .i64 (op : Int))
  c2 : w.cell? ⟨p, 2, none⟩ = some (.map m)
  f0 : w.frozen? ⟨p, 0, none⟩ = false
  f1 : w.frozen? ⟨p, 1, none⟩ = false
  f2 : w.frozen? ⟨p, 2, none⟩ = false
  le : op < 32
theorem JnC.only {S : Nat → Prop} {w w' : World} {p op : Nat} {v : Value} {m : Option Nat} (h : JnC w p v op m) (ho : Only S w w') (hs : ¬ S p) : JnC w' p v op m := by
  have hlt := World.block_lt_of_cell? w _ h.c0
  exact ⟨ho.cell' h.c0 hs, ho.cell' h.c1 hs, ho.cell' h.c2 hs, (ho.frozen (p := ⟨p, 0, none⟩) hlt hs).trans h.f0, (ho.frozen (p := ⟨p, 1, none⟩) hlt hs).trans h.f1, (ho.frozen (p := ⟨p, 2, none⟩) hlt hs).trans h.f2, h.le⟩

theorem new_any (w : World) : Calls Try.prog 25 #[] w fun e w' => e = .returned (.pointer (some ⟨w.heap.size, 0, none⟩)) ∧ JnC w' w.heap.size (.slice none 0 0) 0 none ∧ Only (fun _ => False) w w' := by
  have H : Hid (JnC (w.alloc (.cells #[.slice none 0 0, .int .i64 0, .map none] 77)) w.heap.size (.slice none 0 0) 0 none) := Lib.hid
    ⟨alloc_new _ _ _ _ _ _ rfl rfl, alloc_new _ _ _ _ _ _ rfl rfl, alloc_new _ _ _ _ _ _ rfl rfl, alloc_froz _ _ _ _ _ rfl, alloc_froz _ _ _ _ _ rfl, alloc_froz _ _ _ _ _ rfl, by omega⟩
  have HO : Hid (Only (fun _ => False) w (w.alloc (.cells #[.slice none 0 0, .int .i64 0, .map none] 77))) := Lib.hid ((Only.refl _ w).alloc _)
  go_enter Try.func25, Try.ntmps25
  go_wp2_with fail
  go_ret
  exact ⟨rfl, H.out, HO.out⟩
theorem period_any (p op : Nat) (v : Value) (m : Option Nat) (w : World) (h : JnC w p v op m) : Calls Try.prog 12 #[.pointer (some ⟨p, 0, none⟩)] w fun e w' => e = .returned (.int .i64 (op : Int)) ∧ w' = w := by
  have c1 := h.c1
  clear h
  go_enter Try.func12, Try.ntmps12
  go_wp2_with fail
  go_ret
  exact ⟨rfl, rfl⟩
theorem len_any (p op : Nat) (a : Option Addr) (n c : Nat) (m : Option Nat) (w : World) (h : JnC w p (.slice a n c) op m) : Calls Try.prog 56 #[.pointer (some ⟨p, 0, none⟩)] w fun e w' => e = .returned (.int .i64 (n : Int)) ∧ w' = w := by
  have c0 := h.c0
  clear h
  go_enter Try.func56, Try.ntmps56
  go_wp2_with fail
  go_ret
  exact ⟨rfl, rfl⟩
theorem close_full (p op : Nat) (v : Value) (m : Option Nat) (w : World) (h : JnC w p v op m) (ho : 31 ≤ op) : Calls Try.prog 35 #[.pointer (some ⟨p, 0, none⟩)] w fun e w' => e = .returned (.tuple #[.int .i64 0, .int .i64 10]) ∧ w' = w := by
  have c1 := h.c1
  have h31 := h.le
  obtain rfl : op = 31 := by omega
  clear h h31
  go_enter Try.func35, Try.ntmps35
  go_wp2_with fail
  go_ret2
  exact ⟨rfl, rfl⟩
theorem close_yes (p op : Nat) (v : Value) (m : Option Nat) (w : World) (h : JnC w p v op m) (ho : op < 31) : Calls Try.prog 35 #[.pointer (some ⟨p, 0, none⟩)] w fun e w' => e = .returned (.tuple #[.int .i64 ((op + 1 : Nat) : Int), .int .i64 0]) ∧ JnC w' p v (op + 1) m ∧ Only (fun q => q = p) w w' := by
  have c1 := h.c1
  have f1 := h.f1
  have hb : ¬ (32 : Int) ≤ (op : Int) + 1 := by omega
  have hw : wrap64 ((op : Int) + 1) = (op : Int) + 1 := by unfold wrap64; omega
  have hc : ((op + 1 : Nat) : Int) = (op : Int) + 1 := by omega
  have H : Hid (JnC (w.setCell ⟨p, 1, none⟩ (.int .i64 ((op : Int) + 1))) p v (op + 1) m) := Lib.hid (by
    rw [← hc]
    exact ⟨by rw [cell_other (fun e => by injection e with _ e; omega)]; exact h.c0, cell_same h.c1, by rw [cell_other (fun e => by injection e with _ e; omega)]; exact h.c2, by rw [frozen_set]; exact h.f0, by rw [frozen_set]; exact h.f1, by rw [frozen_set]; exact h.f2, by omega⟩)
  have HO : Hid (Only (fun q => q = p) w (w.setCell ⟨p, 1, none⟩ (.int .i64 ((op : Int) + 1)))) := Lib.hid (Only.set (fun q => q = p) w p 1 _ rfl)
  have hn : (w.setCell ⟨p, 1, none⟩ (.int .i64 ((op : Int) + 1))).cell? ⟨p, 1, none⟩ = some (.int .i64 ((op : Int) + 1)) := cell_same c1
  rw [hc]
  clear h hc
  go_enter Try.func35, Try.ntmps35
  go_wp2_with fail
  go_ret2
  exact ⟨rfl, H.out, HO.out⟩
theorem take_sum (l : List Int) (k : Nat) (h : k < l.length) : (l.take (k + 1)).sum = (l.take k).sum + l.getD k 0 := by
  have : l.getD k 0 = l[k] := by simp [List.getD, h]
  rw [this, List.take_succ_eq_append_getElem h, List.sum_append]
  simp
theorem wrap_add (a b : Int) : wrap64 (wrap64 a + b) = wrap64 (a + b) := by unfold wrap64; omega

set_option maxHeartbeats 2000000 in
theorem bal_any (p op : Nat) (v : Value) (m : Option Nat) (nn : Nat) (C : Ac → Option (List Int)) (k n g : Int) (ha : InA ⟨k, n, g⟩) (w : World) (h : JnC w p v op m) (hm : MapN w m nn C) :
    Calls Try.prog 23 #[.pointer (some ⟨p, 0, none⟩), .agg #[.int .i64 k, .int .i64 n, .int .i64 g]] w fun e w' => e = .returned (.int .i64 (wrap64 (((C ⟨k, n, g⟩).getD noughts).sum))) ∧ Only (fun _ => False) w w' := by
  have hl := (hm.row ⟨k, n, g⟩)
  obtain ⟨w1, hw1⟩ : ∃ x, x = w.alloc (.cells #[.int .i64 k, .int .i64 n, .int .i64 g] 55) := ⟨_, rfl⟩
  obtain ⟨q, hq⟩ : ∃ x, x = w.heap.size := ⟨_, rfl⟩
  have ho1 : Only (fun _ => False) w w1 := by rw [hw1]; exact (Only.refl _ w).alloc _
  have HF : Hid (∀ w', Only (fun _ => False) w1 w' → w'.cell? ⟨p, 2, none⟩ = some (.map m) ∧ w'.cell? ⟨q, 0, none⟩ = some (.int .i64 k) ∧ w'.cell? ⟨q, 1, none⟩ = some (.int .i64 n) ∧ w'.cell? ⟨q, 2, none⟩ = some (.int .i64 g)) := Lib.hid (fun w' ho =>
    ⟨(ho1.trans ho).cell' h.c2 (fun f => f), ho.cell' (by rw [hw1]; exact alloc_new _ _ _ _ _ _ hq rfl) (fun f => f), ho.cell' (by rw [hw1]; exact alloc_new _ _ _ _ _ _ hq rfl) (fun f => f), ho.cell' (by rw [hw1]; exact alloc_new _ _ _ _ _ _ hq rfl) (fun f => f)⟩)
  have HLK : Hid (∀ w', Only (fun _ => False) w1 w' → (Instr.lookup 75 (.map m) (.agg #[.int .i64 k, .int .i64 n, .int .i64 g]) false).run Try.prog w' = .ok (sec ((C ⟨k, n, g⟩).getD noughts)) w') := Lib.hid (fun w' ho => by
    have h := (hm.only (ho1.trans ho) (fun _ _ f => f)).look ha
    unfold acc accm.accV at h
    exact h)
  have HO1 := Lib.hid ho1
  generalize (C ⟨k, n, g⟩).getD noughts = l at *
  have HL := Lib.hid hl.1
  clear h hm hl ha ho1
  go_enter Try.func23, Try.ntmps23
  go_upto_region 4 with fail
  simp only [← hw1, ← hq]
  clear hw1 hq
  refine wp_region_noPanic ?_
  refine late.region (fun w' => w'.cell? ⟨p, 2, none⟩ = some (.map m) ∧ w'.cell? ⟨q, 0, none⟩ = some (.int .i64 k) ∧ w'.cell? ⟨q, 1, none⟩ = some (.int .i64 n) ∧ w'.cell? ⟨q, 2, none⟩ = some (.int .i64 g)) (fun j => [].contains j) (by kernel_rfl) (HF.out _ (Only.refl _ _).drew) (fun hHeld => ?_)
  obtain ⟨z0, hz0⟩ : ∃ x, x = w1.drew := ⟨_, rfl⟩
  rw [← hz0] at hHeld ⊢
  have hot : Hid (Only (fun _ => False) w1 z0) := Lib.hid (by rw [hz0]; exact (Only.refl _ _).drew)
  clear hz0
  refine late.take (i := 0) [1, 2, 3, 5] (v := ?_) rfl (by kernel_rfl) (by kernel_rfl) (by kernel_rfl) (by kernel_rfl) (fun _ _ _ h => h) (Or.inl ⟨by rfl, ?_⟩) (by assumption) ?_
  rotate_left 1
  · intro w' hSw
    try dsimp only at hSw
    go_simp
    try with_reducible rfl
  try simp only [List.getElem_toArray, List.getElem_cons_zero, Act.put, List.setIfInBounds_toArray, List.set_cons_zero, List.set_cons_succ]
  refine late.take (i := 1) [2, 3, 5] (v := ?_) rfl (by kernel_rfl) (by kernel_rfl) (by kernel_rfl) (by kernel_rfl) (fun _ _ _ h => h) (Or.inl ⟨by rfl, ?_⟩) (by assumption) ?_
  rotate_left 1
  · intro w' hSw
    try dsimp only at hSw
    go_simp
    try with_reducible rfl
  try simp only [List.getElem_toArray, List.getElem_cons_zero, List.getElem_cons_succ, Act.put, List.setIfInBounds_toArray, List.set_cons_zero, List.set_cons_succ]
  refine late.take (i := 2) [3, 5] (v := ?_) rfl (by kernel_rfl) (by kernel_rfl) (by kernel_rfl) (by kernel_rfl) (fun _ _ _ h => h) (Or.inl ⟨by rfl, ?_⟩) (by assumption) ?_
  rotate_left 1
  · intro w' hSw
    try dsimp only at hSw
    go_simp
    try with_reducible rfl
  try simp only [List.getElem_toArray, List.getElem_cons_zero, List.getElem_cons_succ, Act.put, List.setIfInBounds_toArray, List.set_cons_zero, List.set_cons_succ]
  refine late.take (i := 3) [5] (v := ?_) rfl (by kernel_rfl) (by kernel_rfl) (by kernel_rfl) (by kernel_rfl) (fun _ _ _ h => h) (Or.inl ⟨by rfl, ?_⟩) (by assumption) ?_
  rotate_left 1
  · intro w' hSw
    try dsimp only at hSw
    go_simp
    try with_reducible rfl
  try simp only [List.getElem_toArray, List.getElem_cons_zero, List.getElem_cons_succ, Act.put, List.setIfInBounds_toArray, List.set_cons_zero, List.set_cons_succ]
  refine late.take (i := 4) [5] (v := ?_) rfl (by kernel_rfl) (by kernel_rfl) (by kernel_rfl) (by kernel_rfl) (fun _ _ _ h => h) (Or.inl ⟨by rfl, ?_⟩) (by assumption) ?_
  rotate_left 1
  · intro w' hSw
    try dsimp only at hSw
    go_simp
    try with_reducible rfl
  try simp only [List.getElem_toArray, List.getElem_cons_zero, List.getElem_cons_succ, Act.put, List.setIfInBounds_toArray, List.set_cons_zero, List.set_cons_succ]
  refine late.take (i := 6) [] (v := ?_) rfl (by kernel_rfl) (by kernel_rfl) (by kernel_rfl) (by kernel_rfl) (fun _ _ _ h => h) (Or.inl ⟨by rfl, ?_⟩) (by assumption) ?_
  rotate_left 1
  · intro w' hSw
    try dsimp only at hSw
    go_simp
    try with_reducible rfl
  try simp only [List.getElem_toArray, List.getElem_cons_zero, List.getElem_cons_succ, Act.put, List.setIfInBounds_toArray, List.set_cons_zero, List.set_cons_succ]
  refine late.ready (rs := [5]) (by kernel_rfl) (by simp) ?_
  refine late.Each.cons rfl (fun K hK => ?_) late.Each.nil
  have hlk := HLK.out z0 hot.out
  try simp only [List.getElem_toArray, List.getElem_cons_zero, List.getElem_cons_succ]
  go_simp
  refine hK.out _ _ (fun _ => HF.out _ hot.out) (fun hHeld1 => ?_)
  replace hHeld1 := hHeld1 rfl
  clear hK K
  clear hlk
  try simp only [List.getElem_toArray, List.getElem_cons_zero, List.getElem_cons_succ, Act.put, List.setIfInBounds_toArray, List.set_cons_zero, List.set_cons_succ]
  refine late.done (by kernel_rfl) ?_ _
  refine NoPanic.normal ?_
  have HO2 := Lib.hid (HO1.out.trans hot.out)
  clear hHeld hot HF HLK HO1
  go_wp2_with fail
  have HIX : Hid (∀ (j : Nat) w, j < 32 → _) := Lib.hid (fun j w hj => run_index_row l j HL.out hj w)
  go_loopw [16, 5] (fun i s wr => ∃ j : Nat, j ≤ 32 ∧ i = .int .i64 j ∧ s = .int .i64 (wrap64 (l.take j).sum) ∧ Hid (wr = z0)) (fun i _ _ => 32 - (intOf i).toNat)
  case atStart => exact ⟨0, by omega, rfl, by simp [wrap64], Lib.hid (by first | trivial | rfl)⟩
  case round =>
    obtain ⟨j, hj, rfl, rfl, HW⟩ := hrel
    obtain rfl := HW.out
    by_cases h8 : j < 32
    · have hix := HIX.out j wr h8
      have hs := take_sum l j (by rw [HL.out]; exact h8)
      have hjj : (j : Int) < 32 := by omega
      have hw := wrap_add (l.take j).sum (l.getD j 0)
      rw [← hs] at hw
      clear hs
      obtain ⟨s1, hs1⟩ : ∃ x, x = (l.take (j + 1)).sum := ⟨_, rfl⟩
      rw [← hs1] at hw
      have HS1 := Lib.hid hs1
      clear hs1
      generalize (l.take j).sum = s0 at *
      generalize l.getD j 0 = y at *
      go_wp2_with fail
      go_roundw
      case rel => exact ⟨j + 1, by omega, by go_num, by first | rw [HS1.out] | rw [hw, HS1.out], Lib.hid (by first | trivial | rfl)⟩
      case measure => (simp [intOf]; omega)
    · have hge : ¬ (j : Int) < 32 := by omega
      obtain rfl : j = 32 := by omega
      rw [List.take_of_length_le (by rw [HL.out]; omega)]
      go_wp2_with fail
      go_ret
      exact ⟨rfl, HO2.out⟩
end Go.Proofs.Ytkbaafgaaiekpaa.jnw
