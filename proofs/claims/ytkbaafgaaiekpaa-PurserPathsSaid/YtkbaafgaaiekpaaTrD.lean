/- The tree: New; a node out of a copy of all. -/
import Derived.Test.YtkbaafgaaiekpaaTrC
import Derived.ChangeKeysEq
namespace Go.Proofs.Ytkbaafgaaiekpaa.tre
open Go.RowKit mem
set_option linter.unusedVariables false

theorem nv_drop : ∀ (l : List Nd) (k : Nat), (nv l).drop (k * 5) = nv (l.drop k) := by
  intro l
  induction l with
  | nil => intro k; simp [nv]
  | cons x r ih =>
    intro k
    cases k with
    | zero => simp [nv]
    | succ k =>
      have e : (k + 1) * 5 = k * 5 + 5 := by omega
      rw [e, List.drop_succ_cons, nv_cons, ← ih k]
      rfl
theorem nv_part (T : List Nd) (k : Nat) (hk : k < T.length) : (nv T).toArray.extract (k * 5) (k * 5 + 5) = (encN (T.getD k default)).toArray := by
  rw [List.extract_toArray, List.extract_eq_take_drop, nv_drop, List.drop_eq_getElem_cons hk, nv_cons]
  have e : T.getD k default = T[k] := by simp [List.getD, hk]
  rw [e, show k * 5 + 5 - k * 5 = (encN T[k]).length by show k * 5 + 5 - k * 5 = 5; omega]
  rw [List.take_left']
  rfl
theorem isagg_nd (w : World) : (isAgg 79).run Try.prog w = .ok true w := by
  simp [isAgg, run_underlying Try.underlying79, go_sem]
theorem info_nd : (Try.prog.info? 79).map (·.size) = some 5 := by kernel_rfl
theorem size_nd (w : World) : (sizeOf 79).run Try.prog w = .ok 5 w := by
  obtain ⟨i, hi, hs⟩ := Option.map_eq_some_iff.1 info_nd
  rw [run_sizeOf w hi]
  unfold Program.cellsOf
  rw [hi, Option.map_some, Option.getD_some, hs]
theorem run_index_nd (T : List Nd) (k : Nat) (hT : T.length = 33) (hk : k < 33) (w : World) : (Instr.index 80 (.agg (nv T).toArray) (.int .i64 (k : Int))).run Try.prog w = .ok (aggN (T.getD k default)) w := by
  have h1 : (0 : Int) ≤ k ∧ (k : Int) < (33 : Nat) := by omega
  have e : List.take 5 (List.drop (k * 5) (nv T)) = encN (T.getD k default) := by
    have := congrArg Array.toList (nv_part T k (by omega))
    rw [List.extract_toArray, List.extract_eq_take_drop, show k * 5 + 5 - k * 5 = 5 by omega] at this
    exact this
  generalize T.getD k default = n at *
  simp [Instr.index, run_underlying Try.underlying80, asIntOf, hk, part, go_sem, e, aggN, encN]
theorem zero_cells : Try.zeroCells82.toList = nv (List.replicate 33 default) := by kernel_rfl
set_option maxRecDepth 100000 in
theorem new_any (w : World) : Calls Try.prog 17 #[] w fun e w' => e = .returned (.pointer (some ⟨w.heap.size, 0, none⟩)) ∧ TreeAt w' w.heap.size (List.replicate 33 default) ∧ Only (fun _ => False) w w' := by
  have H : Hid (TreeAt (w.alloc (.cells Try.zeroCells82 82)) w.heap.size (List.replicate 33 default)) := Lib.hid (by
    refine ⟨by simp, fun k hk => NdAt.iff.2 fun c hc => ?_, fun j hj => alloc_froz _ _ _ _ _ rfl⟩
    rw [Go.Joins.cell_of_block (cs := Try.zeroCells82) (t := 82) (fr := (0, 0)) (by rw [heap_alloc, if_pos rfl])]
    rw [← nv_get _ k c (by simpa using hk) hc, ← zero_cells, Array.getElem?_toList])
  have HO : Hid (∀ o, Only (fun _ => False) w (w.alloc o)) := Lib.hid (fun o => (Only.refl _ _).alloc o)
  go_enter Try.func17, Try.ntmps17
  go_wp2_with fail
  go_ret
  exact ⟨rfl, H.out, HO.out _⟩
theorem info_all : (Try.prog.info? 80).map (·.size) = some 165 := by kernel_rfl
theorem TreeAt.range {w : World} {p : Nat} {T : List Nd} (h : TreeAt w p T) : w.rangeAt p 0 (nv T) := by
  intro j v hv
  have hj : j < 165 := by
    rcases Nat.lt_or_ge j (nv T).length with h' | h'
    · rw [nv_length, h.1] at h'; omega
    · rw [List.getElem?_eq_none h'] at hv; cases hv
  have e : j = j / 5 * 5 + j % 5 := by omega
  rw [Nat.zero_add, e, NdAt.iff.1 (h.2.1 (j / 5) (by omega)) (j % 5) (by omega), ← nv_get T (j / 5) (j % 5) (by rw [h.1]; omega) (by omega), ← e]
  exact hv
/-- is an open node under this one? -/
def busyB (T : List Nd) (id : Int) : Bool := T.any fun n => decide (n.par = id) && !n.cl
def cloE (T : List Nd) (id : Int) : Int := if hasB T id = false then 7 else if (got T id).cl = true then 16 else if busyB T id = true then 17 else 0
def cloT (T : List Nd) (id : Int) : List Nd := if cloE T id = 0 then T.set id.toNat { got T id with cl := true } else T
theorem any_step (T : List Nd) (id : Int) (k : Nat) (hk : k < T.length) : (T.drop k).any (fun n => decide (n.par = id) && !n.cl) = (decide ((T.getD k default).par = id) && !(T.getD k default).cl || (T.drop (k + 1)).any (fun n => decide (n.par = id) && !n.cl)) := by
  rw [List.drop_eq_getElem_cons hk, List.any_cons]
  simp [List.getD, hk]
end Go.Proofs.Ytkbaafgaaiekpaa.tre
