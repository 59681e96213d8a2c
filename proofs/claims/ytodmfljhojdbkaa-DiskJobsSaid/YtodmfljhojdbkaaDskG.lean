/- What comes in opened: a slice of bools, a slice of jobs. -/
import Derived.Test.YtodmfljhojdbkaaDsk9
import Derived.Deep.Slices
import Derived.OpenShut
import Derived.ChangeOld
namespace Go.Proofs.Ytodmfljhojdbkaa.dskw
open Go.RowKit mem
open Go.ChangeShapes Go.WideShapes Go.ChangeAt
set_option linter.unusedVariables false

/-- is it the value true? -/
def isT : Option Value → Bool
  | some (.bool y) => y
  | _ => false

section
variable {H : Type} {enc : TypeId × Value → H} {w : World} {base : Nat}

theorem bools_open {fuel : Nat} {ao : Option Addr} {len cap : Nat} {x : DataW H × List MemPlace} (h : DataW.trod enc Try.prog w base (fun _ => true) true fuel 31 [.slice ao len cap] = some x) : ∃ kl, Bools w ao len kl := by
  rcases Go.Deep.open_slice Try.underlying31 h with ⟨hcs, _⟩ | ⟨a, len2, cap2, m, n, D, Pl, hcs, hb, hl, hm, hmm, hx, hi⟩
  · simp at hcs
    obtain ⟨rfl, rfl, rfl⟩ := hcs
    exact ⟨[], rfl, by omega, .inl rfl⟩
  · simp at hcs
    obtain ⟨rfl, rfl, rfl⟩ := hcs
    unfold maxLen at hm
    simp at hmm
    have hC : Try.prog.cellsOf 4 = 1 := by kernel_rfl
    rw [hC] at hi
    have key : ∀ i, i < len → ∃ y, w.cell? (a.add i) = some (.bool y) := by
      intro i hil
      obtain ⟨cs', hc, ht'⟩ := hi i (by omega)
      obtain ⟨y, hy, _⟩ := DataW.trod_bool Try.underlying4 ht'
      obtain ⟨_, hcl, hat⟩ := World.cells?_some hc
      subst hy
      have := hat 0 (by simp)
      rw [Nat.mul_one, Addr.add_zero'] at this
      exact ⟨y, by simpa using this⟩
    by_cases h0 : len = 0
    · exact ⟨[], by rw [h0]; rfl, by omega, .inl h0⟩
    · obtain ⟨b, off, spot⟩ := a
      obtain ⟨y0, d0⟩ := key 0 (by omega)
      have hspot : spot = none := by simpa [Addr.add] using World.cell?_spot d0
      subst hspot
      refine ⟨(List.range len).map (fun i => isT (w.cell? ⟨b, off + i, none⟩)), by simp, by omega, .inr ⟨b, off, rfl, fun j hj => ?_⟩⟩
      obtain ⟨y, hy⟩ := key j hj
      rw [add_none] at hy
      have e : ((List.range len).map (fun i => isT (w.cell? ⟨b, off + i, none⟩))).getD j false = isT (w.cell? ⟨b, off + j, none⟩) := by
        rw [List.getD_eq_getElem?_getD, List.getElem?_map, List.getElem?_range hj]; rfl
      rw [e, hy]; rfl

/-- where a job writes, and what -/
def JobsW (w : World) (a : Option Addr) (len : Nat) : Prop :=
  len ≤ 9223372036854775807 ∧ (len = 0 ∨ ∃ b off, a = some ⟨b, off, none⟩ ∧ ∀ i, i < len → ∃ (z : Int) (y : Nat), y < 256 ∧ w.cell? ⟨b, off + i * 6 + 1, none⟩ = some (.int .i64 z) ∧ w.cell? ⟨b, off + i * 6 + 3, none⟩ = some (.int .u8 (y : Int)))
theorem JobsW.only {S : Nat → Prop} {w w' : World} {a : Option Addr} {len : Nat} (h : JobsW w a len) (ho : Only S w w') (hs : ∀ x, a = some x → ¬ S x.block) : JobsW w' a len := by
  obtain ⟨h1, h2⟩ := h
  refine ⟨h1, ?_⟩
  rcases h2 with h0 | ⟨b, o, ha, hc⟩
  · exact .inl h0
  · refine .inr ⟨b, o, ha, fun i hi => ?_⟩
    obtain ⟨z, y, hy, d1, d3⟩ := hc i hi
    exact ⟨z, y, hy, ho.cell' d1 (show ¬ S b from hs _ ha), ho.cell' d3 (show ¬ S b from hs _ ha)⟩

set_option maxRecDepth 100000 in
theorem jobs_open {fuel : Nat} {ao : Option Addr} {len cap : Nat} {x : DataW H × List MemPlace} (h : DataW.trod enc Try.prog w base (fun _ => true) true fuel 22 [.slice ao len cap] = some x) : JobsW w ao len := by
  rcases Go.Deep.open_slice Try.underlying22 h with ⟨hcs, _⟩ | ⟨a, len2, cap2, m, n, D, Pl, hcs, hb, hl, hm, hmm, hx, hi⟩
  · simp at hcs; exact ⟨by omega, .inl hcs.2.1⟩
  · simp at hcs
    obtain ⟨rfl, rfl, rfl⟩ := hcs
    unfold maxLen at hm
    refine ⟨by omega, ?_⟩
    simp at hmm
    have hC : Try.prog.cellsOf 33 = 6 := by kernel_rfl
    rw [hC] at hi
    have key : ∀ i, i < len → ∃ (z : Int) (y : Nat), (∃ u, w.cell? ((a.add (i * 6)).add 0) = some u) ∧ y < 256 ∧ w.cell? ((a.add (i * 6)).add 1) = some (.int .i64 z) ∧ w.cell? ((a.add (i * 6)).add 3) = some (.int .u8 (y : Int)) := by
      intro i hil
      obtain ⟨cs', hc, ht'⟩ := hi i (by omega)
      obtain ⟨ys, n', _, _, hlen, hyl, hf⟩ := DataW.trod_struct Try.underlying33 ht'
      obtain ⟨_, hcl, hat⟩ := World.cells?_some hc
      match cs', ys, hcl, hyl, hat, hf with
      | [c0, c1, c2, c3, c4, c5], [y0, y1, y2, y3, y4, y5], _, _, hat, hf =>
        have f1 := hf 1 _ rfl
        have f3 := hf 3 _ rfl
        have o3 : Try.prog.cellsOf 3 = 1 := by kernel_rfl
        have o5 : Try.prog.cellsOf 5 = 1 := by kernel_rfl
        simp [o3] at f1
        simp [o5] at f3
        obtain ⟨k, hk, _⟩ := DataW.trod_int Try.underlying3 f1
        obtain ⟨n, hn, _, hw⟩ := DataW.trod_int Try.underlying5 f3
        simp at hk hn
        subst hk hn
        obtain ⟨g1, g2⟩ := byte_of_wf hw
        obtain ⟨y, rfl⟩ := Int.eq_ofNat_of_zero_le g1
        exact ⟨k, y, ⟨c0, by simpa using hat 0 (by omega)⟩, by omega, by simpa using hat 1 (by omega), by simpa using hat 3 (by omega)⟩
    by_cases h0 : len = 0
    · exact .inl h0
    · obtain ⟨b, off, spot⟩ := a
      obtain ⟨z, y, ⟨u, d0⟩, _⟩ := key 0 (by omega)
      have hspot : spot = none := by simpa [Addr.add] using World.cell?_spot d0
      subst hspot
      refine .inr ⟨b, off, rfl, fun i hil => ?_⟩
      obtain ⟨z, y, _, hy, d1, d3⟩ := key i hil
      rw [add_none, add_none] at d1 d3
      exact ⟨z, y, hy, d1, d3⟩
end

/-- behind a crash each sector is as it lasted, or as in the cache -/
theorem crN_or (L : Nat → List Nat) (C : Nat → Option (List Nat)) (kl : List Bool) (ds : List Nat) (hds : ∀ i ∈ ds, (C i).isSome = true) : ∀ k, k ≤ ds.length → ∀ i, crN L C kl ds k i = L i ∨ ∃ l, C i = some l ∧ crN L C kl ds k i = l := by
  intro k
  induction k with
  | zero => intro _ i; exact .inl rfl
  | succ k ih =>
    intro hk i
    have hlt : k < ds.length := by omega
    have hd : ds.getD k 0 = ds[k] := by rw [List.getD_eq_getElem?_getD, List.getElem?_eq_getElem hlt]; rfl
    by_cases hb : kl.getD k false = true
    · have hstep : crN L C kl ds (k + 1) = updL (crN L C kl ds k) (ds.getD k 0) ((C (ds.getD k 0)).getD zeros) := if_pos hb
      rw [hstep, hd]
      by_cases e : i = ds[k]
      · subst e
        obtain ⟨l, hl⟩ := Option.isSome_iff_exists.1 (hds _ (List.getElem_mem hlt))
        refine .inr ⟨l, hl, ?_⟩
        unfold updL
        rw [if_pos rfl, hl]; rfl
      · have : updL (crN L C kl ds k) ds[k] ((C ds[k]).getD zeros) i = crN L C kl ds k i := by unfold updL; rw [if_neg e]
        rw [this]
        exact ih (by omega) i
    · have hstep : crN L C kl ds (k + 1) = crN L C kl ds k := if_neg hb
      rw [hstep]
      exact ih (by omega) i
theorem crL_or {L : Nat → List Nat} {C : Nat → Option (List Nat)} {kl : List Bool} {n : Nat} (hb : ∀ i, (C i).isSome = true → i < n) (i : Nat) : crL L C kl n i = L i ∨ ∃ l, C i = some l ∧ crL L C kl n i = l :=
  crN_or L C kl _ (fun i hi => (dirty_mem hb i).1 hi) _ (Nat.le_refl _) i
end Go.Proofs.Ytodmfljhojdbkaa.dskw
