/- The document's numbers in parts: what add answers. -/
import Derived.Test.YthflglejhhebeaaBigW
namespace Go.Proofs.Ythflglejhhebeaa.bigw
open Go.RowKit mem bigm
set_option linter.unusedVariables false

theorem off_ne {b i j : Nat} (h : i ≠ j) : (⟨b, i, none⟩ : Addr) ≠ ⟨b, j, none⟩ := fun e => h (by injection e)

/-- the first i parts of one number, the others of another -/
def mix (N n i j : Nat) : Nat := if j < i then limb N j else limb n j

theorem frozen_new (w : World) (C : Array Value) (t : TypeId) (g j : Nat) (hg : g = w.heap.size) : (w.alloc (.cells C t)).frozen? ⟨g, j, none⟩ = false := by subst hg; simp

theorem cell_new (w : World) (A : Nat → Nat) (s : Bool) (t : TypeId) (g : Nat) (hg : g = w.heap.size) (j : Nat) : (w.alloc (.cells (bigC A s) t)).cell? ⟨g, j, none⟩ = (bigC A s)[j]? := by
  subst hg
  rw [Go.Joins.cell_of_block (cs := bigC A s) (t := t) (fr := (0, 0)) (by rw [heap_alloc, if_pos rfl])]

/-- three numbers boxed, one behind the other -/
def boxes (w : World) (A B C : Nat → Nat) (s t u : Bool) (ty : TypeId) : World := ((w.alloc (.cells (bigC A s) ty)).alloc (.cells (bigC B t) ty)).alloc (.cells (bigC C u) ty)

theorem boxes_one (w : World) (A B C : Nat → Nat) (s t u : Bool) (ty : TypeId) (j : Nat) (v : Value) (h : (bigC A s)[j]? = some v) : (boxes w A B C s t u ty).cell? ⟨w.heap.size, j, none⟩ = some v ∧ (boxes w A B C s t u ty).frozen? ⟨w.heap.size, j, none⟩ = false := by
  have h1 := cell_new w A s ty _ rfl j
  rw [h] at h1
  have o : Only (fun _ => False) (w.alloc (.cells (bigC A s) ty)) (boxes w A B C s t u ty) := ((Only.refl _ _).alloc _).alloc _
  exact ⟨o.cell' h1 (fun f => f), (o.frozen (p := ⟨w.heap.size, j, none⟩) (by rw [size_alloc]; exact Nat.lt_succ_self _) (fun f => f)).trans (frozen_new w _ ty _ j rfl)⟩
theorem boxes_two (w : World) (A B C : Nat → Nat) (s t u : Bool) (ty : TypeId) (j : Nat) (v : Value) (h : (bigC B t)[j]? = some v) : (boxes w A B C s t u ty).cell? ⟨w.heap.size + 1, j, none⟩ = some v := by
  have h1 := cell_new (w.alloc (.cells (bigC A s) ty)) B t ty (w.heap.size + 1) (by rw [size_alloc]) j
  rw [h] at h1
  exact ((Only.refl (fun _ => False) _).alloc _).cell' h1 (fun f => f)
theorem boxes_three (w : World) (A B C : Nat → Nat) (s t u : Bool) (ty : TypeId) (j : Nat) (v : Value) (h : (bigC C u)[j]? = some v) : (boxes w A B C s t u ty).cell? ⟨w.heap.size + 1 + 1, j, none⟩ = some v ∧ (boxes w A B C s t u ty).frozen? ⟨w.heap.size + 1 + 1, j, none⟩ = false := by
  have h1 := cell_new ((w.alloc (.cells (bigC A s) ty)).alloc (.cells (bigC B t) ty)) C u ty (w.heap.size + 1 + 1) (by rw [size_alloc, size_alloc]) j
  rw [h] at h1
  exact ⟨h1, frozen_new _ _ ty _ j (by rw [size_alloc, size_alloc])⟩
theorem boxes_size (w : World) (A B C : Nat → Nat) (s t u : Bool) (ty : TypeId) : (boxes w A B C s t u ty).heap.size = w.heap.size + 3 := by
  unfold boxes; rw [size_alloc, size_alloc, size_alloc]
theorem boxes_only (w : World) (A B C : Nat → Nat) (s t u : Bool) (ty : TypeId) : Only (fun _ => False) w (boxes w A B C s t u ty) := (((Only.refl _ _).alloc _).alloc _).alloc _

set_option maxRecDepth 100000 in
set_option maxHeartbeats 4000000 in
theorem add_any (n m : Nat) (s t : Bool) (w : World) :
    Calls Try.prog 78 #[big (limb n) s, big (limb m) t] w fun e w' => e = .returned (big (limb (n + m)) s) ∧ Only (fun _ => False) w w' := by
  have B1 := Lib.hid (boxes_one w (limb n) (limb m) (fun _ => 0) s t false 125)
  have B2 := Lib.hid (boxes_two w (limb n) (limb m) (fun _ => 0) s t false 125)
  have B3 := Lib.hid (boxes_three w (limb n) (limb m) (fun _ => 0) s t false 125)
  have BS := Lib.hid (boxes_size w (limb n) (limb m) (fun _ => 0) s t false 125)
  have BO := Lib.hid (boxes_only w (limb n) (limb m) (fun _ => 0) s t false 125)
  
  unfold big
  go_enter Try.func78, Try.ntmps78
  go_wp2_with fail
  go_loopw [5, 6] (fun o x wr => ∃ i : Nat, i ≤ 10 ∧ x = .int .i64 (i : Int) ∧ o = .int .u64 (over n m i : Int) ∧ Hid (∀ j, j < 10 → wr.cell? ⟨w.heap.size, j, none⟩ = some (.int .u64 (mix (n + m) n i j : Int))) ∧
    Hid (wr.cell? ⟨w.heap.size, 10, none⟩ = some (.bool s)) ∧ Hid (Only (fun k => k = w.heap.size) (boxes w (limb n) (limb m) (fun _ => 0) s t false 125) wr) ∧ Hid (∀ j, j < 10 → wr.frozen? ⟨w.heap.size, j, none⟩ = false)) (fun _ x _ => 10 - (intOf x).toNat)
  case atStart => exact ⟨0, by omega, rfl, by rw [over_zero]; rfl, Lib.hid (fun j hj => by unfold mix; rw [if_neg (by omega)]; exact (B1.out j _ (bigC_get _ _ j hj)).1), Lib.hid (B1.out 10 _ rfl).1, Lib.hid (Only.refl _ _), Lib.hid (fun j hj => (B1.out j _ (bigC_get _ _ j hj)).2)⟩
  case round =>
    obtain ⟨i, hi, rfl, rfl, HA, HS, HO, HF⟩ := hrel
    by_cases hi10 : i < 10
    · have x1 := HA.out i hi10
      have hmx : mix (n + m) n i i = limb n i := by unfold mix; rw [if_neg (by omega)]
      rw [hmx] at x1
      clear hmx
      have x2 := HO.out.cell' (B2.out i _ (bigC_get _ _ i hi10)) (by show ¬ w.heap.size + 1 = w.heap.size; omega)
      have xf := HF.out i hi10
      have hst := add_step n m i
      have hov := over_le n m i
      have l1 := limb_lt n i
      have l2 := limb_lt m i
      obtain ⟨a, ha⟩ : ∃ a, limb n i = a := ⟨_, rfl⟩
      obtain ⟨b, hb⟩ : ∃ b, limb m i = b := ⟨_, rfl⟩
      obtain ⟨o, ho⟩ : ∃ o, over n m i = o := ⟨_, rfl⟩
      rw [ha, hb, ho] at hst
      rw [ha] at l1 x1
      rw [hb] at l2 x2
      rw [ho] at hov ⊢
      have HST := Lib.hid hst
      have HOV : Hid (((a : Int) + (b : Int) + (o : Int)) / 4294967296 = (over n m (i + 1) : Int)) := Lib.hid (by rw [← hst.2]; omega)
      have hand := and_low ((a : Int) + (b : Int) + (o : Int)) (by omega) (by omega)
      have hlo : ((a : Int) + (b : Int) + (o : Int)) % 4294967296 = (limb (n + m) i : Int) := by rw [← hst.1]; omega
      rw [hlo] at hand
      clear hst hlo ha hb ho

      go_wp2_with fail
      go_region
      all_goals
        skip
        go_wp2_with fail
        have HN : Hid (∀ j, j < 10 → (wr.setCell ⟨w.heap.size, i, none⟩ (.int .u64 (limb (n + m) i : Int))).cell? ⟨w.heap.size, j, none⟩ = some (.int .u64 (mix (n + m) n (i + 1) j : Int))) := Lib.hid (fun j hj => by
          by_cases hji : j = i
          · subst hji
            rw [cell_same x1]; unfold mix; rw [if_pos (by omega)]
          · rw [cell_other (off_ne (by omega)), HA.out j hj]
            unfold mix
            by_cases hlt : j < i
            · rw [if_pos hlt, if_pos (by omega)]
            · rw [if_neg hlt, if_neg (by omega)])
        go_roundw
        case rel => exact ⟨i + 1, by omega, by go_num, by rw [HOV.out], HN, Lib.hid (by show (wr.setCell ⟨w.heap.size, i, none⟩ _).cell? _ = _; rw [cell_other (off_ne (by omega))]; exact HS.out), Lib.hid ((HO.out.setCell (p := ⟨w.heap.size, i, none⟩) (.inl rfl) _).drew), Lib.hid (fun j hj => by show (wr.setCell ⟨w.heap.size, i, none⟩ _).frozen? _ = _; rw [frozen_set]; exact HF.out j hj)⟩
        case measure => simp [intOf]; omega
    · obtain rfl : i = 10 := by omega
      have hmx : ∀ j, j < 10 → mix (n + m) n 10 j = limb (n + m) j := fun j hj => by unfold mix; rw [if_pos hj]
      have a0 := HA.out 0 (by omega)
      rw [hmx 0 (by omega)] at a0
      have a1 := HA.out 1 (by omega)
      rw [hmx 1 (by omega)] at a1
      have a2 := HA.out 2 (by omega)
      rw [hmx 2 (by omega)] at a2
      have a3 := HA.out 3 (by omega)
      rw [hmx 3 (by omega)] at a3
      have a4 := HA.out 4 (by omega)
      rw [hmx 4 (by omega)] at a4
      have a5 := HA.out 5 (by omega)
      rw [hmx 5 (by omega)] at a5
      have a6 := HA.out 6 (by omega)
      rw [hmx 6 (by omega)] at a6
      have a7 := HA.out 7 (by omega)
      rw [hmx 7 (by omega)] at a7
      have a8 := HA.out 8 (by omega)
      rw [hmx 8 (by omega)] at a8
      have a9 := HA.out 9 (by omega)
      rw [hmx 9 (by omega)] at a9
      have r0 := HO.out.cell' (B3.out 0 _ rfl).1 (by show ¬ w.heap.size + 1 + 1 = w.heap.size; omega)
      have z0 := (HO.out.frozen (p := ⟨w.heap.size + 1 + 1, 0, none⟩) (by have := BS.out; show w.heap.size + 1 + 1 < _; omega) (by show ¬ w.heap.size + 1 + 1 = w.heap.size; omega)).trans (B3.out 0 _ rfl).2
      have r1 := HO.out.cell' (B3.out 1 _ rfl).1 (by show ¬ w.heap.size + 1 + 1 = w.heap.size; omega)
      have z1 := (HO.out.frozen (p := ⟨w.heap.size + 1 + 1, 1, none⟩) (by have := BS.out; show w.heap.size + 1 + 1 < _; omega) (by show ¬ w.heap.size + 1 + 1 = w.heap.size; omega)).trans (B3.out 1 _ rfl).2
      have r2 := HO.out.cell' (B3.out 2 _ rfl).1 (by show ¬ w.heap.size + 1 + 1 = w.heap.size; omega)
      have z2 := (HO.out.frozen (p := ⟨w.heap.size + 1 + 1, 2, none⟩) (by have := BS.out; show w.heap.size + 1 + 1 < _; omega) (by show ¬ w.heap.size + 1 + 1 = w.heap.size; omega)).trans (B3.out 2 _ rfl).2
      have r3 := HO.out.cell' (B3.out 3 _ rfl).1 (by show ¬ w.heap.size + 1 + 1 = w.heap.size; omega)
      have z3 := (HO.out.frozen (p := ⟨w.heap.size + 1 + 1, 3, none⟩) (by have := BS.out; show w.heap.size + 1 + 1 < _; omega) (by show ¬ w.heap.size + 1 + 1 = w.heap.size; omega)).trans (B3.out 3 _ rfl).2
      have r4 := HO.out.cell' (B3.out 4 _ rfl).1 (by show ¬ w.heap.size + 1 + 1 = w.heap.size; omega)
      have z4 := (HO.out.frozen (p := ⟨w.heap.size + 1 + 1, 4, none⟩) (by have := BS.out; show w.heap.size + 1 + 1 < _; omega) (by show ¬ w.heap.size + 1 + 1 = w.heap.size; omega)).trans (B3.out 4 _ rfl).2
      have r5 := HO.out.cell' (B3.out 5 _ rfl).1 (by show ¬ w.heap.size + 1 + 1 = w.heap.size; omega)
      have z5 := (HO.out.frozen (p := ⟨w.heap.size + 1 + 1, 5, none⟩) (by have := BS.out; show w.heap.size + 1 + 1 < _; omega) (by show ¬ w.heap.size + 1 + 1 = w.heap.size; omega)).trans (B3.out 5 _ rfl).2
      have r6 := HO.out.cell' (B3.out 6 _ rfl).1 (by show ¬ w.heap.size + 1 + 1 = w.heap.size; omega)
      have z6 := (HO.out.frozen (p := ⟨w.heap.size + 1 + 1, 6, none⟩) (by have := BS.out; show w.heap.size + 1 + 1 < _; omega) (by show ¬ w.heap.size + 1 + 1 = w.heap.size; omega)).trans (B3.out 6 _ rfl).2
      have r7 := HO.out.cell' (B3.out 7 _ rfl).1 (by show ¬ w.heap.size + 1 + 1 = w.heap.size; omega)
      have z7 := (HO.out.frozen (p := ⟨w.heap.size + 1 + 1, 7, none⟩) (by have := BS.out; show w.heap.size + 1 + 1 < _; omega) (by show ¬ w.heap.size + 1 + 1 = w.heap.size; omega)).trans (B3.out 7 _ rfl).2
      have r8 := HO.out.cell' (B3.out 8 _ rfl).1 (by show ¬ w.heap.size + 1 + 1 = w.heap.size; omega)
      have z8 := (HO.out.frozen (p := ⟨w.heap.size + 1 + 1, 8, none⟩) (by have := BS.out; show w.heap.size + 1 + 1 < _; omega) (by show ¬ w.heap.size + 1 + 1 = w.heap.size; omega)).trans (B3.out 8 _ rfl).2
      have r9 := HO.out.cell' (B3.out 9 _ rfl).1 (by show ¬ w.heap.size + 1 + 1 = w.heap.size; omega)
      have z9 := (HO.out.frozen (p := ⟨w.heap.size + 1 + 1, 9, none⟩) (by have := BS.out; show w.heap.size + 1 + 1 < _; omega) (by show ¬ w.heap.size + 1 + 1 = w.heap.size; omega)).trans (B3.out 9 _ rfl).2
      have r10 := HO.out.cell' (B3.out 10 _ rfl).1 (by show ¬ w.heap.size + 1 + 1 = w.heap.size; omega)
      have z10 := (HO.out.frozen (p := ⟨w.heap.size + 1 + 1, 10, none⟩) (by have := BS.out; show w.heap.size + 1 + 1 < _; omega) (by show ¬ w.heap.size + 1 + 1 = w.heap.size; omega)).trans (B3.out 10 _ rfl).2
      have a10 := HS.out
      clear hmx
      have OW := Lib.hid (BO.out.then HO.out (fun i hi e => by omega))
      go_wp2
      refine bodyPost_ret (v := .agg #[.int .u64 (limb (n + m) 0 : Int), .int .u64 (limb (n + m) 1 : Int), .int .u64 (limb (n + m) 2 : Int), .int .u64 (limb (n + m) 3 : Int), .int .u64 (limb (n + m) 4 : Int), .int .u64 (limb (n + m) 5 : Int), .int .u64 (limb (n + m) 6 : Int), .int .u64 (limb (n + m) 7 : Int), .int .u64 (limb (n + m) 8 : Int), .int .u64 (limb (n + m) 9 : Int), .bool s]) (by simp [results, Try.results78, go_sem, r0, r1, r2, r3, r4, r5, r6, r7, r8, r9, r10]) rfl ⟨rfl, ?_⟩
      repeat (refine Only.setCell ?_ (.inr (by show w.heap.size ≤ w.heap.size + 1 + 1; omega)) _)
      exact OW.out
set_option maxRecDepth 100000 in
set_option maxHeartbeats 4000000 in
theorem sub_any (n m : Nat) (s t : Bool) (hmn : m ≤ n) (w : World) :
    Calls Try.prog 80 #[big (limb n) s, big (limb m) t] w fun e w' => e = .returned (big (limb (n - m)) s) ∧ Only (fun _ => False) w w' := by
  have B1 := Lib.hid (boxes_one w (limb n) (limb m) (fun _ => 0) s t false 125)
  have B2 := Lib.hid (boxes_two w (limb n) (limb m) (fun _ => 0) s t false 125)
  have B3 := Lib.hid (boxes_three w (limb n) (limb m) (fun _ => 0) s t false 125)
  have BS := Lib.hid (boxes_size w (limb n) (limb m) (fun _ => 0) s t false 125)
  have BO := Lib.hid (boxes_only w (limb n) (limb m) (fun _ => 0) s t false 125)
  have HMN := Lib.hid hmn
  clear hmn
  unfold big
  go_enter Try.func80, Try.ntmps80
  go_wp2_with fail
  go_loopw [5, 6] (fun o x wr => ∃ i : Nat, i ≤ 10 ∧ x = .int .i64 (i : Int) ∧ o = .int .u64 (under n m i : Int) ∧ Hid (∀ j, j < 10 → wr.cell? ⟨w.heap.size, j, none⟩ = some (.int .u64 (mix (n - m) n i j : Int))) ∧
    Hid (wr.cell? ⟨w.heap.size, 10, none⟩ = some (.bool s)) ∧ Hid (Only (fun k => k = w.heap.size) (boxes w (limb n) (limb m) (fun _ => 0) s t false 125) wr) ∧ Hid (∀ j, j < 10 → wr.frozen? ⟨w.heap.size, j, none⟩ = false)) (fun _ x _ => 10 - (intOf x).toNat)
  case atStart => exact ⟨0, by omega, rfl, by rw [under_zero]; rfl, Lib.hid (fun j hj => by unfold mix; rw [if_neg (by omega)]; exact (B1.out j _ (bigC_get _ _ j hj)).1), Lib.hid (B1.out 10 _ rfl).1, Lib.hid (Only.refl _ _), Lib.hid (fun j hj => (B1.out j _ (bigC_get _ _ j hj)).2)⟩
  case round =>
    obtain ⟨i, hi, rfl, rfl, HA, HS, HO, HF⟩ := hrel
    by_cases hi10 : i < 10
    · have x1 := HA.out i hi10
      have hmx : mix (n - m) n i i = limb n i := by unfold mix; rw [if_neg (by omega)]
      rw [hmx] at x1
      clear hmx
      have x2 := HO.out.cell' (B2.out i _ (bigC_get _ _ i hi10)) (by show ¬ w.heap.size + 1 = w.heap.size; omega)
      have xf := HF.out i hi10
      have hst := sub_step HMN.out i
      have hov := under_le n m i
      have hov2 := under_le n m (i + 1)
      have l1 := limb_lt n i
      have l2 := limb_lt m i
      have l3 := limb_lt (n - m) i
      obtain ⟨a, ha⟩ : ∃ a, limb n i = a := ⟨_, rfl⟩
      obtain ⟨b, hb⟩ : ∃ b, limb m i = b := ⟨_, rfl⟩
      obtain ⟨o, ho⟩ : ∃ o, under n m i = o := ⟨_, rfl⟩
      rw [ha, hb, ho] at hst
      rw [ha] at l1 x1
      rw [hb] at l2 x2
      rw [ho] at hov ⊢
      have HOV : Hid ((1 : Int) - ((a : Int) + 4294967296 - (b : Int) - (o : Int)) / 4294967296 = (under n m (i + 1) : Int)) := Lib.hid (by omega)
      have hand := and_low ((a : Int) + 4294967296 - (b : Int) - (o : Int)) (by omega) (by omega)
      have hlo : ((a : Int) + 4294967296 - (b : Int) - (o : Int)) % 4294967296 = (limb (n - m) i : Int) := by omega
      rw [hlo] at hand
      clear hst hlo ha hb ho hov2 l3

      go_wp2_with fail
      go_region
      all_goals
        skip
        go_wp2_with fail
        have HN : Hid (∀ j, j < 10 → (wr.setCell ⟨w.heap.size, i, none⟩ (.int .u64 (limb (n - m) i : Int))).cell? ⟨w.heap.size, j, none⟩ = some (.int .u64 (mix (n - m) n (i + 1) j : Int))) := Lib.hid (fun j hj => by
          by_cases hji : j = i
          · subst hji
            rw [cell_same x1]; unfold mix; rw [if_pos (by omega)]
          · rw [cell_other (off_ne (by omega)), HA.out j hj]
            unfold mix
            by_cases hlt : j < i
            · rw [if_pos hlt, if_pos (by omega)]
            · rw [if_neg hlt, if_neg (by omega)])
        go_roundw
        case rel => exact ⟨i + 1, by omega, by go_num, by rw [HOV.out], HN, Lib.hid (by show (wr.setCell ⟨w.heap.size, i, none⟩ _).cell? _ = _; rw [cell_other (off_ne (by omega))]; exact HS.out), Lib.hid ((HO.out.setCell (p := ⟨w.heap.size, i, none⟩) (.inl rfl) _).drew), Lib.hid (fun j hj => by show (wr.setCell ⟨w.heap.size, i, none⟩ _).frozen? _ = _; rw [frozen_set]; exact HF.out j hj)⟩
        case measure => simp [intOf]; omega
    · obtain rfl : i = 10 := by omega
      have hmx : ∀ j, j < 10 → mix (n - m) n 10 j = limb (n - m) j := fun j hj => by unfold mix; rw [if_pos hj]
      have a0 := HA.out 0 (by omega)
      rw [hmx 0 (by omega)] at a0
      have a1 := HA.out 1 (by omega)
      rw [hmx 1 (by omega)] at a1
      have a2 := HA.out 2 (by omega)
      rw [hmx 2 (by omega)] at a2
      have a3 := HA.out 3 (by omega)
      rw [hmx 3 (by omega)] at a3
      have a4 := HA.out 4 (by omega)
      rw [hmx 4 (by omega)] at a4
      have a5 := HA.out 5 (by omega)
      rw [hmx 5 (by omega)] at a5
      have a6 := HA.out 6 (by omega)
      rw [hmx 6 (by omega)] at a6
      have a7 := HA.out 7 (by omega)
      rw [hmx 7 (by omega)] at a7
      have a8 := HA.out 8 (by omega)
      rw [hmx 8 (by omega)] at a8
      have a9 := HA.out 9 (by omega)
      rw [hmx 9 (by omega)] at a9
      have r0 := HO.out.cell' (B3.out 0 _ rfl).1 (by show ¬ w.heap.size + 1 + 1 = w.heap.size; omega)
      have z0 := (HO.out.frozen (p := ⟨w.heap.size + 1 + 1, 0, none⟩) (by have := BS.out; show w.heap.size + 1 + 1 < _; omega) (by show ¬ w.heap.size + 1 + 1 = w.heap.size; omega)).trans (B3.out 0 _ rfl).2
      have r1 := HO.out.cell' (B3.out 1 _ rfl).1 (by show ¬ w.heap.size + 1 + 1 = w.heap.size; omega)
      have z1 := (HO.out.frozen (p := ⟨w.heap.size + 1 + 1, 1, none⟩) (by have := BS.out; show w.heap.size + 1 + 1 < _; omega) (by show ¬ w.heap.size + 1 + 1 = w.heap.size; omega)).trans (B3.out 1 _ rfl).2
      have r2 := HO.out.cell' (B3.out 2 _ rfl).1 (by show ¬ w.heap.size + 1 + 1 = w.heap.size; omega)
      have z2 := (HO.out.frozen (p := ⟨w.heap.size + 1 + 1, 2, none⟩) (by have := BS.out; show w.heap.size + 1 + 1 < _; omega) (by show ¬ w.heap.size + 1 + 1 = w.heap.size; omega)).trans (B3.out 2 _ rfl).2
      have r3 := HO.out.cell' (B3.out 3 _ rfl).1 (by show ¬ w.heap.size + 1 + 1 = w.heap.size; omega)
      have z3 := (HO.out.frozen (p := ⟨w.heap.size + 1 + 1, 3, none⟩) (by have := BS.out; show w.heap.size + 1 + 1 < _; omega) (by show ¬ w.heap.size + 1 + 1 = w.heap.size; omega)).trans (B3.out 3 _ rfl).2
      have r4 := HO.out.cell' (B3.out 4 _ rfl).1 (by show ¬ w.heap.size + 1 + 1 = w.heap.size; omega)
      have z4 := (HO.out.frozen (p := ⟨w.heap.size + 1 + 1, 4, none⟩) (by have := BS.out; show w.heap.size + 1 + 1 < _; omega) (by show ¬ w.heap.size + 1 + 1 = w.heap.size; omega)).trans (B3.out 4 _ rfl).2
      have r5 := HO.out.cell' (B3.out 5 _ rfl).1 (by show ¬ w.heap.size + 1 + 1 = w.heap.size; omega)
      have z5 := (HO.out.frozen (p := ⟨w.heap.size + 1 + 1, 5, none⟩) (by have := BS.out; show w.heap.size + 1 + 1 < _; omega) (by show ¬ w.heap.size + 1 + 1 = w.heap.size; omega)).trans (B3.out 5 _ rfl).2
      have r6 := HO.out.cell' (B3.out 6 _ rfl).1 (by show ¬ w.heap.size + 1 + 1 = w.heap.size; omega)
      have z6 := (HO.out.frozen (p := ⟨w.heap.size + 1 + 1, 6, none⟩) (by have := BS.out; show w.heap.size + 1 + 1 < _; omega) (by show ¬ w.heap.size + 1 + 1 = w.heap.size; omega)).trans (B3.out 6 _ rfl).2
      have r7 := HO.out.cell' (B3.out 7 _ rfl).1 (by show ¬ w.heap.size + 1 + 1 = w.heap.size; omega)
      have z7 := (HO.out.frozen (p := ⟨w.heap.size + 1 + 1, 7, none⟩) (by have := BS.out; show w.heap.size + 1 + 1 < _; omega) (by show ¬ w.heap.size + 1 + 1 = w.heap.size; omega)).trans (B3.out 7 _ rfl).2
      have r8 := HO.out.cell' (B3.out 8 _ rfl).1 (by show ¬ w.heap.size + 1 + 1 = w.heap.size; omega)
      have z8 := (HO.out.frozen (p := ⟨w.heap.size + 1 + 1, 8, none⟩) (by have := BS.out; show w.heap.size + 1 + 1 < _; omega) (by show ¬ w.heap.size + 1 + 1 = w.heap.size; omega)).trans (B3.out 8 _ rfl).2
      have r9 := HO.out.cell' (B3.out 9 _ rfl).1 (by show ¬ w.heap.size + 1 + 1 = w.heap.size; omega)
      have z9 := (HO.out.frozen (p := ⟨w.heap.size + 1 + 1, 9, none⟩) (by have := BS.out; show w.heap.size + 1 + 1 < _; omega) (by show ¬ w.heap.size + 1 + 1 = w.heap.size; omega)).trans (B3.out 9 _ rfl).2
      have r10 := HO.out.cell' (B3.out 10 _ rfl).1 (by show ¬ w.heap.size + 1 + 1 = w.heap.size; omega)
      have z10 := (HO.out.frozen (p := ⟨w.heap.size + 1 + 1, 10, none⟩) (by have := BS.out; show w.heap.size + 1 + 1 < _; omega) (by show ¬ w.heap.size + 1 + 1 = w.heap.size; omega)).trans (B3.out 10 _ rfl).2
      have a10 := HS.out
      clear hmx
      have OW := Lib.hid (BO.out.then HO.out (fun i hi e => by omega))
      go_wp2
      refine bodyPost_ret (v := .agg #[.int .u64 (limb (n - m) 0 : Int), .int .u64 (limb (n - m) 1 : Int), .int .u64 (limb (n - m) 2 : Int), .int .u64 (limb (n - m) 3 : Int), .int .u64 (limb (n - m) 4 : Int), .int .u64 (limb (n - m) 5 : Int), .int .u64 (limb (n - m) 6 : Int), .int .u64 (limb (n - m) 7 : Int), .int .u64 (limb (n - m) 8 : Int), .int .u64 (limb (n - m) 9 : Int), .bool s]) (by simp [results, Try.results80, go_sem, r0, r1, r2, r3, r4, r5, r6, r7, r8, r9, r10]) rfl ⟨rfl, ?_⟩
      repeat (refine Only.setCell ?_ (.inr (by show w.heap.size ≤ w.heap.size + 1 + 1; omega)) _)
      exact OW.out
end Go.Proofs.Ythflglejhhebeaa.bigw
