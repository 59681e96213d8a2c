/- The document's numbers in parts: what Minus answers. -/
import Derived.Test.YtooffbgcaichmaaBigInt
namespace Go.Proofs.Ytooffbgcaichmaa.bigw
open Go.RowKit mem bigm intm
set_option linter.unusedVariables false

/-- two numbers boxed -/
def boxes2 (w : World) (A B : Nat → Nat) (s t : Bool) (ty : TypeId) : World := (w.alloc (.cells (bigC A s) ty)).alloc (.cells (bigC B t) ty)
theorem boxes2_one (w : World) (A B : Nat → Nat) (s t : Bool) (ty : TypeId) (j : Nat) (v : Value) (h : (bigC A s)[j]? = some v) : (boxes2 w A B s t ty).cell? ⟨w.heap.size, j, none⟩ = some v ∧ (boxes2 w A B s t ty).frozen? ⟨w.heap.size, j, none⟩ = false := by
  have h1 := cell_new w A s ty _ rfl j
  rw [h] at h1
  have o : Only (fun _ => False) (w.alloc (.cells (bigC A s) ty)) (boxes2 w A B s t ty) := (Only.refl _ _).alloc _
  exact ⟨o.cell' h1 (fun f => f), (o.frozen (p := ⟨w.heap.size, j, none⟩) (by rw [size_alloc]; exact Nat.lt_succ_self _) (fun f => f)).trans (frozen_new w _ ty _ j rfl)⟩
theorem boxes2_two (w : World) (A B : Nat → Nat) (s t : Bool) (ty : TypeId) (j : Nat) (v : Value) (h : (bigC B t)[j]? = some v) : (boxes2 w A B s t ty).cell? ⟨w.heap.size + 1, j, none⟩ = some v ∧ (boxes2 w A B s t ty).frozen? ⟨w.heap.size + 1, j, none⟩ = false := by
  have h1 := cell_new (w.alloc (.cells (bigC A s) ty)) B t ty (w.heap.size + 1) (by rw [size_alloc]) j
  rw [h] at h1
  exact ⟨h1, frozen_new _ _ ty _ j (by rw [size_alloc])⟩
theorem boxes2_size (w : World) (A B : Nat → Nat) (s t : Bool) (ty : TypeId) : (boxes2 w A B s t ty).heap.size = w.heap.size + 2 := by
  unfold boxes2; rw [size_alloc, size_alloc]
theorem boxes2_only (w : World) (A B : Nat → Nat) (s t : Bool) (ty : TypeId) : Only (fun _ => False) w (boxes2 w A B s t ty) := ((Only.refl _ _).alloc _).alloc _

set_option maxRecDepth 100000 in
set_option maxHeartbeats 2000000 in
theorem minus_any (z : Int) (hz : z.natAbs < 4294967296 ^ 10) (w : World) :
    Calls Try.prog 14 #[sb z] w fun e w' => e = .returned (sb (-z)) ∧ Only (fun _ => False) w w' := by
  obtain ⟨n, hn⟩ : ∃ n, z.natAbs = n := ⟨_, rfl⟩
  obtain ⟨s, hs⟩ : ∃ s, decide (z < 0) = s := ⟨_, rfl⟩
  have HX : Hid (sb z = big (limb n) s) := Lib.hid (by unfold sb; rw [hn, hs])
  have HZ : Hid (allZero (limb n) = decide (n = 0)) := Lib.hid (allZero_limb (by rw [← hn]; exact hz))
  rw [HX.out]
  clear hz
  have B1 := Lib.hid (boxes2_one w (limb n) (fun _ => 0) s false 28)
  have B2 := Lib.hid (boxes2_two w (limb n) (fun _ => 0) s false 28)
  have BS := Lib.hid (boxes2_size w (limb n) (fun _ => 0) s false 28)
  have BO := Lib.hid (boxes2_only w (limb n) (fun _ => 0) s false 28)
  cases s
  · obtain ⟨zb, hzb⟩ : ∃ zb, decide (n = 0) = zb := ⟨_, rfl⟩
    have hres : Hid (sb (-z) = big (limb n) (!zb)) := Lib.hid (by
      have h4 : ¬ z < 0 := by simpa using hs
      unfold sb
      have e1 : (-z).natAbs = n := by omega
      have e2 : decide (-z < 0) = !zb := by
        rw [← hzb]
        by_cases h0 : n = 0
        · simp [h0]; omega
        · simp [h0]; omega
      rw [e1, e2])
    rw [hzb] at HZ
    rw [hres.out]
    clear hzb hn hs
    unfold big
    go_enter Try.func14, Try.ntmps14
    go_wp2_with fail
    refine (zero_any (limb n) false _).mono ?_
    rintro e1 w1 ⟨rfl, hO1⟩
    rw [HZ.out]
    replace hO1 : Only (fun _ => False) (boxes2 w (limb n) (fun _ => 0) false false 28) w1 := hO1
    have a0 := hO1.cell' (B1.out 0 _ (bigC_get _ _ 0 (by omega))).1 (fun f => f)
    have a1 := hO1.cell' (B1.out 1 _ (bigC_get _ _ 1 (by omega))).1 (fun f => f)
    have a2 := hO1.cell' (B1.out 2 _ (bigC_get _ _ 2 (by omega))).1 (fun f => f)
    have a3 := hO1.cell' (B1.out 3 _ (bigC_get _ _ 3 (by omega))).1 (fun f => f)
    have a4 := hO1.cell' (B1.out 4 _ (bigC_get _ _ 4 (by omega))).1 (fun f => f)
    have a5 := hO1.cell' (B1.out 5 _ (bigC_get _ _ 5 (by omega))).1 (fun f => f)
    have a6 := hO1.cell' (B1.out 6 _ (bigC_get _ _ 6 (by omega))).1 (fun f => f)
    have a7 := hO1.cell' (B1.out 7 _ (bigC_get _ _ 7 (by omega))).1 (fun f => f)
    have a8 := hO1.cell' (B1.out 8 _ (bigC_get _ _ 8 (by omega))).1 (fun f => f)
    have a9 := hO1.cell' (B1.out 9 _ (bigC_get _ _ 9 (by omega))).1 (fun f => f)
    have a10 := hO1.cell' (B1.out 10 (.bool false) rfl).1 (fun f => f)
    have fa10 := (hO1.frozen (p := ⟨w.heap.size, 10, none⟩) (by have := BS.out; show w.heap.size < _; omega) (fun f => f)).trans (B1.out 10 (.bool false) rfl).2
    have r0 := hO1.cell' (B2.out 0 _ rfl).1 (fun f => f)
    have r1 := hO1.cell' (B2.out 1 _ rfl).1 (fun f => f)
    have r2 := hO1.cell' (B2.out 2 _ rfl).1 (fun f => f)
    have r3 := hO1.cell' (B2.out 3 _ rfl).1 (fun f => f)
    have r4 := hO1.cell' (B2.out 4 _ rfl).1 (fun f => f)
    have r5 := hO1.cell' (B2.out 5 _ rfl).1 (fun f => f)
    have r6 := hO1.cell' (B2.out 6 _ rfl).1 (fun f => f)
    have r7 := hO1.cell' (B2.out 7 _ rfl).1 (fun f => f)
    have r8 := hO1.cell' (B2.out 8 _ rfl).1 (fun f => f)
    have r9 := hO1.cell' (B2.out 9 _ rfl).1 (fun f => f)
    have r10 := hO1.cell' (B2.out 10 _ rfl).1 (fun f => f)
    have z0 := (hO1.frozen (p := ⟨w.heap.size + 1, 0, none⟩) (by have := BS.out; show w.heap.size + 1 < _; omega) (fun f => f)).trans (B2.out 0 _ rfl).2
    have z1 := (hO1.frozen (p := ⟨w.heap.size + 1, 1, none⟩) (by have := BS.out; show w.heap.size + 1 < _; omega) (fun f => f)).trans (B2.out 1 _ rfl).2
    have z2 := (hO1.frozen (p := ⟨w.heap.size + 1, 2, none⟩) (by have := BS.out; show w.heap.size + 1 < _; omega) (fun f => f)).trans (B2.out 2 _ rfl).2
    have z3 := (hO1.frozen (p := ⟨w.heap.size + 1, 3, none⟩) (by have := BS.out; show w.heap.size + 1 < _; omega) (fun f => f)).trans (B2.out 3 _ rfl).2
    have z4 := (hO1.frozen (p := ⟨w.heap.size + 1, 4, none⟩) (by have := BS.out; show w.heap.size + 1 < _; omega) (fun f => f)).trans (B2.out 4 _ rfl).2
    have z5 := (hO1.frozen (p := ⟨w.heap.size + 1, 5, none⟩) (by have := BS.out; show w.heap.size + 1 < _; omega) (fun f => f)).trans (B2.out 5 _ rfl).2
    have z6 := (hO1.frozen (p := ⟨w.heap.size + 1, 6, none⟩) (by have := BS.out; show w.heap.size + 1 < _; omega) (fun f => f)).trans (B2.out 6 _ rfl).2
    have z7 := (hO1.frozen (p := ⟨w.heap.size + 1, 7, none⟩) (by have := BS.out; show w.heap.size + 1 < _; omega) (fun f => f)).trans (B2.out 7 _ rfl).2
    have z8 := (hO1.frozen (p := ⟨w.heap.size + 1, 8, none⟩) (by have := BS.out; show w.heap.size + 1 < _; omega) (fun f => f)).trans (B2.out 8 _ rfl).2
    have z9 := (hO1.frozen (p := ⟨w.heap.size + 1, 9, none⟩) (by have := BS.out; show w.heap.size + 1 < _; omega) (fun f => f)).trans (B2.out 9 _ rfl).2
    have z10 := (hO1.frozen (p := ⟨w.heap.size + 1, 10, none⟩) (by have := BS.out; show w.heap.size + 1 < _; omega) (fun f => f)).trans (B2.out 10 _ rfl).2
    have OW := Lib.hid (BO.out.trans hO1)
    clear hO1
    go_wp2
    refine bodyPost_ret (v := .agg #[.int .u64 (limb (n) 0 : Int), .int .u64 (limb (n) 1 : Int), .int .u64 (limb (n) 2 : Int), .int .u64 (limb (n) 3 : Int), .int .u64 (limb (n) 4 : Int), .int .u64 (limb (n) 5 : Int), .int .u64 (limb (n) 6 : Int), .int .u64 (limb (n) 7 : Int), .int .u64 (limb (n) 8 : Int), .int .u64 (limb (n) 9 : Int), .bool !zb]) (by simp [results, Try.results14, go_sem, r0, r1, r2, r3, r4, r5, r6, r7, r8, r9, r10]) rfl ⟨rfl, ?_⟩
    repeat (refine Only.setCell ?_ (.inr (by first | (show w.heap.size ≤ w.heap.size + 1; omega) | exact Nat.le_refl _)) _)
    exact OW.out
  · have hres : Hid (sb (-z) = big (limb n) false) := Lib.hid (by
      have h4 : z < 0 := by simpa using hs
      unfold sb
      have e1 : (-z).natAbs = n := by omega
      have e2 : decide (-z < 0) = false := by simp; omega
      rw [e1, e2])
    rw [hres.out]
    clear hn hs
    unfold big
    go_enter Try.func14, Try.ntmps14
    go_wp2
    exact bodyPost_ret (v := .agg #[.int .u64 (limb (n) 0 : Int), .int .u64 (limb (n) 1 : Int), .int .u64 (limb (n) 2 : Int), .int .u64 (limb (n) 3 : Int), .int .u64 (limb (n) 4 : Int), .int .u64 (limb (n) 5 : Int), .int .u64 (limb (n) 6 : Int), .int .u64 (limb (n) 7 : Int), .int .u64 (limb (n) 8 : Int), .int .u64 (limb (n) 9 : Int), .bool false]) (by simp [results, Try.results14, go_sem]) rfl ⟨rfl, ((Only.refl _ w).alloc _).alloc _⟩
end Go.Proofs.Ytooffbgcaichmaa.bigw
