/- What DiskTears and DiskLasts need besides. -/
import Derived.Test.YtodmfljhojdbkaaDskB
import Derived.Test.YtodmfljhojdbkaaDskS
namespace Go.Proofs.Ytodmfljhojdbkaa.dskw
open Go.RowKit mem Go.Maps
set_option linter.unusedVariables false

theorem or_one (y : Nat) (h : y < 256) : ∃ Y : Nat, Y < 256 ∧ bits .or .u8 (y : Int) 1 = (Y : Int) := by
  have : ∀ y : Nat, y < 256 → 0 ≤ bits .or .u8 (y : Int) 1 ∧ bits .or .u8 (y : Int) 1 < 256 := by decide +kernel
  obtain ⟨h1, h2⟩ := this y h
  exact ⟨(bits .or .u8 (y : Int) 1).toNat, by omega, by omega⟩

/-- sectors of one byte -/
def many (Y j : Nat) : List Nat := List.replicate (j * 64) Y
theorem many_len (Y j : Nat) : (many Y j).length = j * 64 := List.length_replicate
theorem many_succ (Y j : Nat) : many Y j ++ List.replicate 64 Y = many Y (j + 1) := by
  unfold many
  rw [List.replicate_append_replicate]; congr 1; omega
theorem many_sec {Y m j : Nat} (hj : j < m) : bsec (many Y m) j = List.replicate 64 Y := by
  unfold bsec many
  rw [List.drop_replicate, List.take_replicate]
  congr 1
  omega

theorem crN_all (L : Nat → List Nat) (C : Nat → Option (List Nat)) (kl : List Bool) (ds : List Nat) : ∀ k, k ≤ ds.length → (∀ j, j < k → kl.getD j false = true) → ∀ i, crN L C kl ds k i = if i ∈ ds.take k then (C i).getD zeros else L i := by
  intro k
  induction k with
  | zero => intro _ _ i; rw [List.take_zero, if_neg (by simp)]; rfl
  | succ k ih =>
    intro hk h i
    have hlt : k < ds.length := by omega
    have hd : ds.getD k 0 = ds[k] := by rw [List.getD_eq_getElem?_getD, List.getElem?_eq_getElem hlt]; rfl
    have hmem : i ∈ ds.take (k + 1) ↔ i ∈ ds.take k ∨ i = ds[k] := by
      rw [List.take_succ_eq_append_getElem hlt, List.mem_append, List.mem_singleton]
    have hstep : crN L C kl ds (k + 1) = updL (crN L C kl ds k) (ds.getD k 0) ((C (ds.getD k 0)).getD zeros) := if_pos (h k (by omega))
    rw [hstep, hd]
    unfold updL
    by_cases e : i = ds[k]
    · rw [if_pos e, if_pos (hmem.2 (.inr e)), e]
    · rw [if_neg e, ih (by omega) (fun j hj => h j (by omega)) i]
      by_cases e2 : i ∈ ds.take k
      · rw [if_pos e2, if_pos (hmem.2 (.inl e2))]
      · rw [if_neg e2, if_neg (fun h => (hmem.1 h).elim e2 e)]

/-- where all are kept, all that is in the cache lasts -/
theorem crL_all {L : Nat → List Nat} {C : Nat → Option (List Nat)} {kl : List Bool} {n : Nat} (hb : ∀ i, (C i).isSome = true → i < n) (h : ∀ j, j < (dirtyL C n).length → kl.getD j false = true) (i : Nat) : crL L C kl n i = cur L C i := by
  unfold crL
  rw [crN_all L C kl _ _ (Nat.le_refl _) h i, List.take_length]
  by_cases e : (C i).isSome = true
  · rw [if_pos ((dirty_mem hb i).2 e)]
    obtain ⟨l, hl⟩ := Option.isSome_iff_exists.1 e
    unfold cur
    rw [hl]; rfl
  · rw [if_neg (fun hm => e ((dirty_mem hb i).1 hm))]
    unfold cur
    cases hc : C i with
    | none => rfl
    | some l => rw [hc] at e; exact absurd rfl e

/-- the cache behind a torn write -/
def tearC (Y m K : Nat) : Nat → Option (List Nat) := wrC (fun _ => none) 1 (many Y m) K
theorem tear_some (Y m K i : Nat) : (tearC Y m K i).isSome = decide (1 ≤ i ∧ i < 1 + K) := by
  unfold tearC wrC
  by_cases h : 1 ≤ i ∧ i < 1 + K
  · rw [if_pos h, decide_eq_true h]; rfl
  · rw [if_neg h, decide_eq_false h]; rfl
theorem tear_len (Y m K : Nat) (hK : K ≤ 6) : (dirtyL (tearC Y m K) 8).length = K := by
  have e : dirtyL (tearC Y m K) 8 = (List.range 8).filter (fun i => decide (1 ≤ i ∧ i < 1 + K)) := by
    unfold dirtyL
    congr 1
    funext i
    exact tear_some Y m K i
  rw [e]
  have : ∀ K, K < 7 → ((List.range 8).filter (fun i => decide (1 ≤ i ∧ i < 1 + K))).length = K := by decide
  exact this K (by omega)
theorem tear_cur {Y m K i : Nat} (hK : K ≤ m) (hi : i < m) : cur (fun _ => zeros) (tearC Y m K) (1 + i) = if i < K then List.replicate 64 Y else zeros := by
  unfold cur tearC wrC
  by_cases h : i < K
  · rw [if_pos h, if_pos ⟨by omega, by omega⟩, show 1 + i - 1 = i by omega, many_sec hi]; rfl
  · rw [if_neg h, if_neg (by omega)]; rfl

theorem kmod (a m : Int) (h1 : 1 ≤ m) (h2 : m ≤ 297) : ∃ K : Nat, wrap64 ((IntKind.u64.wrap a).tmod m) = K ∧ (K : Int) < m := by
  have h0 := wrap_u64_nonneg a
  rw [Int.tmod_eq_emod_of_nonneg h0]
  have h3 := Int.emod_nonneg (IntKind.u64.wrap a) (by omega : m ≠ 0)
  have h4 := Int.emod_lt_of_pos (IntKind.u64.wrap a) (by omega : 0 < m)
  generalize IntKind.u64.wrap a % m = q at *
  refine ⟨q.toNat, ?_, by omega⟩
  rw [IntWalk.wrap64_in _ (by omega)]
  omega
theorem one_more (A : Nat) (h : A < 300) : wrap64 (1 + (A : Int)) = ((A + 1 : Nat) : Int) := by rw [IntWalk.wrap64_in _ (by omega)]; omega

theorem tear_wr {K N : Nat} (h1 : 1 ≤ K) (h2 : K ≤ N) : wrK (K : Int) N = K ∧ wrOff (K : Int) N = true ∧ wrE (K : Int) N = 12 ∧ cutJ (K : Int) K = 0 := by
  have h : 0 < (K : Int) ∧ (K : Int) ≤ (N : Int) := by omega
  have hw : wrOff (K : Int) N = true := by unfold wrOff; exact decide_eq_true h
  refine ⟨by unfold wrK; rw [if_pos h]; omega, hw, by unfold wrE; rw [hw]; rfl, by unfold cutJ; rw [if_pos h.1]; omega⟩

/-- eight bools: k of them are set -/
def FillB (w : World) (g k : Nat) : Prop := ∃ cur : Array Value, w.heap[g]? = some (.cells cur 4 (0, 0)) ∧ cur.size = 8 ∧ ∀ j, j < 8 → cur[j]? = some (.bool (decide (j < k)))
theorem FillB.cell {w : World} {g k : Nat} (h : FillB w g k) {j : Nat} (hj : j < 8) : (w.cell? ⟨g, j, none⟩).isSome = true ∧ w.frozen? ⟨g, j, none⟩ = false := by
  obtain ⟨cur, h1, h2, h3⟩ := h
  refine ⟨by rw [Go.Joins.cell_of_block h1, h3 j hj]; rfl, by simp [World.frozen?, h1]⟩
theorem FillB.step {w : World} {g k : Nat} (h : FillB w g k) (hk : k < 8) : FillB (w.setCell ⟨g, k, none⟩ (.bool true)) g (k + 1) := by
  obtain ⟨cur, h1, h2, h3⟩ := h
  refine ⟨_, heap_set _ h1, by simp [h2], fun j hj => ?_⟩
  by_cases e : j = k
  · subst e
    rw [Array.getElem?_setIfInBounds_self_of_lt (by omega), decide_eq_true (by omega)]
  · rw [Array.getElem?_setIfInBounds_ne (fun e2 => e e2.symm), h3 j hj]
    by_cases h4 : j < k
    · rw [decide_eq_true h4, decide_eq_true (by omega)]
    · rw [decide_eq_false h4, decide_eq_false (by omega)]
theorem FillB.bools {w : World} {g : Nat} (h : FillB w g 8) : Bools w (some ⟨g, 0, none⟩) 8 (List.replicate 8 true) := by
  obtain ⟨cur, h1, h2, h3⟩ := h
  refine ⟨List.length_replicate, by omega, .inr ⟨g, 0, rfl, fun j hj => ?_⟩⟩
  rw [Go.Joins.cell_of_block h1, Nat.zero_add, h3 j hj, decide_eq_true hj, List.getD_eq_getElem?_getD, List.getElem?_replicate, if_pos hj]
  rfl
theorem info_bool : (Try.prog.info? 4).map (fun i => (i.zero, i.size, i.bytes)) = some (some (.bool false), 1, 1) := by kernel_rfl
theorem make_8 (w : World) : ∃ cs : Array Value, (Instr.makeSlice 31 (.int .i64 8) (.int .i64 8)).run Try.prog w = .ok (.slice (some ⟨w.heap.size, 0, none⟩) 8 8) (w.alloc (.cells cs 4)) ∧ FillB (w.alloc (.cells cs 4)) w.heap.size 0 := by
  obtain ⟨i, hi, hz0, hz1, hz2⟩ := info_parts info_bool
  have hr := run_make (P := Try.prog) w 31 4 i (.bool false) Try.underlying31 hi hz0 .i64 .i64 8 8 (by omega) (Int.le_refl _) (by rw [hz2]; omega) (by omega)
  refine ⟨_, hr, _, by rw [heap_alloc, if_pos rfl], ?_, fun j hj => ?_⟩
  · simp [madeCells, hz1]
  · have e : Int.toNat 8 * i.size = 8 := by rw [hz1]; rfl
    rw [e]
    unfold madeCells
    rw [Array.getElem?_eq_getElem (by simp; omega)]
    have e2 : (Value.bool false).cells = #[Value.bool false] := rfl
    simp [e2, Nat.mod_one]
theorem cells_any {w : World} {v : Value} {l : List Nat} (h : OwnB w v l) {w' : World} (hr : w.grownBy w' v.ownBlock) {w2 : World} (ho : Only (fun _ => False) w2 w) (hk : ∀ k, v.ownBlock = some k → w2.heap.size ≤ k) : Only (fun _ => False) w2 w' :=
  ho.then (Only.of_grown hr) (fun k hlt e => by have := hk k e; omega)
theorem app_gen {w w2 : World} {v v2 : Value} {l r : List Nat} (h : OwnB w v l) (hr : ∀ c ∈ r, c < 256) (hown : w2.ownsRow 0 5 1 v2 (l.length + r.length) (bv l ++ bv r)) (hm : (l ++ r).length ≤ maxLen) : OwnB w2 v2 (l ++ r) := by
  refine ⟨by rw [bv_append, List.length_append]; exact hown, fun c hc => ?_, hm⟩
  rcases List.mem_append.1 hc with h1 | h1
  · exact h.2.1 c h1
  · exact hr c h1

end Go.Proofs.Ytodmfljhojdbkaa.dskw
