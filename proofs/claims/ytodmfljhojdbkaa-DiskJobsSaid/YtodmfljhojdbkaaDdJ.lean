/- The document's disk: New. -/
import Derived.Test.YtodmfljhojdbkaaDdI
import Derived.Test.YtodmfljhojdbkaaDskA
import Derived.Test.YtodmfljhojdbkaaStepApp
namespace Go.Proofs.Ytodmfljhojdbkaa.dskw
open Go.RowKit mem
set_option linter.unusedVariables false

theorem info_str : (Try.prog.info? 9).map (fun i => (i.zero, i.size, i.bytes)) = some (some (.string { data := #[] }), 1, 16) := by kernel_rfl
theorem info_boo : (Try.prog.info? 4).map (fun i => (i.zero, i.size, i.bytes)) = some (some (.bool false), 1, 1) := by kernel_rfl
theorem only3 {S : Nat → Prop} {w w1 w2 w3 : World} (h : Only (fun _ => False) w w1) (h2 : Only S w1 w2) (h3 : Only (fun _ => False) w2 w3) : Only S w w3 := ((h.mono (fun _ _ f => f.elim)).trans h2).trans (h3.mono (fun _ _ f => f.elim))
/-- the document's disk, on the way: so many of each row -/
structure RnAt (W0 : Nat) (w : World) (q iL iN iD : Nat) (vL vN vD : Value) (zs : ByteArray) : Prop where
  c0 : w.cell? ⟨q, 0, none⟩ = some vL
  c1 : w.cell? ⟨q, 1, none⟩ = some vN
  c2 : w.cell? ⟨q, 2, none⟩ = some vD
  c3 : w.cell? ⟨q, 3, none⟩ = some (.int .i64 0)
  c4 : w.cell? ⟨q, 4, none⟩ = some (.bool false)
  f : ∀ k, k < 5 → w.frozen? ⟨q, k, none⟩ = false
  oL : w.ownsRow 0 9 1 vL iL (List.replicate iL (.string zs))
  oN : w.ownsRow 0 9 1 vN iN (List.replicate iN (.string zs))
  oD : w.ownsRow 0 4 1 vD iD (List.replicate iD (.bool false))
  gq : W0 ≤ q
  gL : ∀ k, vL.ownBlock = some k → W0 ≤ k ∧ k ≠ q ∧ vN.ownBlock ≠ some k ∧ vD.ownBlock ≠ some k
  gN : ∀ k, vN.ownBlock = some k → W0 ≤ k ∧ k ≠ q ∧ vD.ownBlock ≠ some k
  gD : ∀ k, vD.ownBlock = some k → W0 ≤ k ∧ k ≠ q
theorem own_lt {w : World} {t : TypeId} {v : Value} {n s : Nat} {xs : List Value} (h : w.ownsRow 0 t s v n xs) {k : Nat} (hk : v.ownBlock = some k) : k < w.heap.size := by
  rcases h.2 with ⟨hv, hn⟩ | ⟨g, cap, cur, hv, hg, hh, _⟩
  · rw [hv] at hk; simp [Value.ownBlock] at hk
  · rw [hv] at hk
    have e : g = k := by simpa [Value.ownBlock] using hk
    rw [← e]; exact heap_lt hh
theorem RnAt.lt {W0 : Nat} {w : World} {q iL iN iD : Nat} {vL vN vD : Value} {zs : ByteArray} (h : RnAt W0 w q iL iN iD vL vN vD zs) : q < w.heap.size := World.block_lt_of_cell? w _ h.c0
theorem RnAt.quiet {W0 : Nat} {w w' : World} {q iL iN iD : Nat} {vL vN vD : Value} {zs : ByteArray} (h : RnAt W0 w q iL iN iD vL vN vD zs) (ho : Only (fun _ => False) w w') : RnAt W0 w' q iL iN iD vL vN vD zs :=
  ⟨ho.cell' h.c0 (fun f => f), ho.cell' h.c1 (fun f => f), ho.cell' h.c2 (fun f => f), ho.cell' h.c3 (fun f => f), ho.cell' h.c4 (fun f => f), fun k hk => (ho.frozen (p := ⟨q, k, none⟩) h.lt (fun f => f)).trans (h.f k hk), owns_only ho h.oL (fun _ _ f => f), owns_only ho h.oN (fun _ _ f => f), owns_only ho h.oD (fun _ _ f => f), h.gq, h.gL, h.gN, h.gD⟩
theorem RnAt.stepL {W0 : Nat} {w w1 : World} {q iL iN iD : Nat} {vL vN vD v : Value} {zs : ByteArray} (h : RnAt W0 w q iL iN iD vL vN vD zs) (ho : Only (fun k => vL.ownBlock = some k) w w1) (hown : w1.ownsRow 0 9 1 v (iL + 1) (List.replicate (iL + 1) (.string zs))) (hk : ∀ k, v.ownBlock = some k → vL.ownBlock = some k ∨ w.heap.size ≤ k) (hw : W0 ≤ w.heap.size) : RnAt W0 (w1.setCell ⟨q, 0, none⟩ v) q (iL + 1) iN iD v vN vD zs := by
  have hq := h.lt
  have hqn : ¬ vL.ownBlock = some q := fun e => (h.gL q e).2.1 rfl
  have hv : v.ownBlock ≠ some q := fun e => by
    rcases hk q e with e | e
    · exact hqn e
    · omega
  have z : ∀ k : Nat, k ≠ 0 → (⟨q, k, none⟩ : Addr) ≠ ⟨q, 0, none⟩ := fun k hk => ad_ne (.inr hk)
  have st : Only (fun k => k = q) w1 (w1.setCell ⟨q, 0, none⟩ v) := Only.set (fun x => x = q) _ q 0 _ rfl
  refine ⟨cell_same (ho.cell' h.c0 hqn), cell_ne (ho.cell' h.c1 hqn) (z 1 (by decide)), cell_ne (ho.cell' h.c2 hqn) (z 2 (by decide)), cell_ne (ho.cell' h.c3 hqn) (z 3 (by decide)), cell_ne (ho.cell' h.c4 hqn) (z 4 (by decide)), fun k hk => by rw [frozen_set]; exact (ho.frozen (p := ⟨q, k, none⟩) hq hqn).trans (h.f k hk),
    owns_only st hown (fun k hk e => hv (by rw [hk, e])), owns_only st (owns_only ho h.oN (fun k hk e => (h.gL k e).2.2.1 hk)) (fun k hk e => (h.gN k hk).2.1 e), owns_only st (owns_only ho h.oD (fun k hk e => (h.gL k e).2.2.2 hk)) (fun k hk e => (h.gD k hk).2 e), h.gq, fun k hk => ?_, h.gN, h.gD⟩
  rename_i hk0
  rcases hk0 k hk with e | e
  · exact h.gL k e
  · exact ⟨by omega, by omega, fun e2 => by have := own_lt h.oN e2; omega, fun e2 => by have := own_lt h.oD e2; omega⟩
theorem RnAt.stepN {W0 : Nat} {w w1 : World} {q iL iN iD : Nat} {vL vN vD v : Value} {zs : ByteArray} (h : RnAt W0 w q iL iN iD vL vN vD zs) (ho : Only (fun k => vN.ownBlock = some k) w w1) (hown : w1.ownsRow 0 9 1 v (iN + 1) (List.replicate (iN + 1) (.string zs))) (hk : ∀ k, v.ownBlock = some k → vN.ownBlock = some k ∨ w.heap.size ≤ k) (hw : W0 ≤ w.heap.size) : RnAt W0 (w1.setCell ⟨q, 1, none⟩ v) q iL (iN + 1) iD vL v vD zs := by
  have hq := h.lt
  have hqn : ¬ vN.ownBlock = some q := fun e => (h.gN q e).2.1 rfl
  have hv : v.ownBlock ≠ some q := fun e => by
    rcases hk q e with e | e
    · exact hqn e
    · omega
  have z : ∀ k : Nat, k ≠ 1 → (⟨q, k, none⟩ : Addr) ≠ ⟨q, 1, none⟩ := fun k hk => ad_ne (.inr hk)
  have st : Only (fun k => k = q) w1 (w1.setCell ⟨q, 1, none⟩ v) := Only.set (fun x => x = q) _ q 1 _ rfl
  refine ⟨cell_ne (ho.cell' h.c0 hqn) (z 0 (by decide)), cell_same (ho.cell' h.c1 hqn), cell_ne (ho.cell' h.c2 hqn) (z 2 (by decide)), cell_ne (ho.cell' h.c3 hqn) (z 3 (by decide)), cell_ne (ho.cell' h.c4 hqn) (z 4 (by decide)), fun k hk => by rw [frozen_set]; exact (ho.frozen (p := ⟨q, k, none⟩) hq hqn).trans (h.f k hk),
    owns_only st (owns_only ho h.oL (fun k hk e => (h.gL k hk).2.2.1 e)) (fun k hk e => (h.gL k hk).2.1 e), owns_only st hown (fun k hk e => hv (by rw [hk, e])), owns_only st (owns_only ho h.oD (fun k hk e => (h.gN k e).2.2 hk)) (fun k hk e => (h.gD k hk).2 e), h.gq, fun k hk2 => ?_, fun k hk2 => ?_, h.gD⟩
  · have e1 := h.gL k hk2
    have e2 := own_lt h.oL hk2
    refine ⟨e1.1, e1.2.1, fun e => ?_, e1.2.2.2⟩
    rcases hk k e with e | e
    · exact e1.2.2.1 e
    · omega
  · rcases hk k hk2 with e | e
    · exact h.gN k e
    · exact ⟨by omega, by omega, fun e2 => by have := own_lt h.oD e2; omega⟩
theorem RnAt.stepD {W0 : Nat} {w w1 : World} {q iL iN iD : Nat} {vL vN vD v : Value} {zs : ByteArray} (h : RnAt W0 w q iL iN iD vL vN vD zs) (ho : Only (fun k => vD.ownBlock = some k) w w1) (hown : w1.ownsRow 0 4 1 v (iD + 1) (List.replicate (iD + 1) (.bool false))) (hk : ∀ k, v.ownBlock = some k → vD.ownBlock = some k ∨ w.heap.size ≤ k) (hw : W0 ≤ w.heap.size) : RnAt W0 (w1.setCell ⟨q, 2, none⟩ v) q iL iN (iD + 1) vL vN v zs := by
  have hq := h.lt
  have hqn : ¬ vD.ownBlock = some q := fun e => (h.gD q e).2 rfl
  have hv : v.ownBlock ≠ some q := fun e => by
    rcases hk q e with e | e
    · exact hqn e
    · omega
  have z : ∀ k : Nat, k ≠ 2 → (⟨q, k, none⟩ : Addr) ≠ ⟨q, 2, none⟩ := fun k hk => ad_ne (.inr hk)
  have st : Only (fun k => k = q) w1 (w1.setCell ⟨q, 2, none⟩ v) := Only.set (fun x => x = q) _ q 2 _ rfl
  refine ⟨cell_ne (ho.cell' h.c0 hqn) (z 0 (by decide)), cell_ne (ho.cell' h.c1 hqn) (z 1 (by decide)), cell_same (ho.cell' h.c2 hqn), cell_ne (ho.cell' h.c3 hqn) (z 3 (by decide)), cell_ne (ho.cell' h.c4 hqn) (z 4 (by decide)), fun k hk => by rw [frozen_set]; exact (ho.frozen (p := ⟨q, k, none⟩) hq hqn).trans (h.f k hk),
    owns_only st (owns_only ho h.oL (fun k hk e => (h.gL k hk).2.2.2 e)) (fun k hk e => (h.gL k hk).2.1 e), owns_only st (owns_only ho h.oN (fun k hk e => (h.gN k hk).2.2 e)) (fun k hk e => (h.gN k hk).2.1 e), owns_only st hown (fun k hk e => hv (by rw [hk, e])), h.gq, fun k hk2 => ?_, fun k hk2 => ?_, fun k hk2 => ?_⟩
  · have e1 := h.gL k hk2
    have e2 := own_lt h.oL hk2
    refine ⟨e1.1, e1.2.1, e1.2.2.1, fun e => ?_⟩
    rcases hk k e with e | e
    · exact e1.2.2.2 e
    · omega
  · have e1 := h.gN k hk2
    have e2 := own_lt h.oN hk2
    refine ⟨e1.1, e1.2.1, fun e => ?_⟩
    rcases hk k e with e | e
    · exact e1.2.2 e
    · omega
  · rcases hk k hk2 with e | e
    · exact h.gD k e
    · exact ⟨by omega, by omega⟩
theorem RnAt.atL {W0 : Nat} {w w1 : World} {q iL iN iD : Nat} {vL vN vD : Value} {zs : ByteArray} (h : RnAt W0 w q iL iN iD vL vN vD zs) (ho : Only (fun k => vL.ownBlock = some k) w w1) : w1.cell? ⟨q, 0, none⟩ = some vL ∧ w1.frozen? ⟨q, 0, none⟩ = false :=
  have hqn : ¬ vL.ownBlock = some q := fun e => (h.gL q e).2.1 rfl
  ⟨ho.cell' h.c0 hqn, (ho.frozen (p := ⟨q, 0, none⟩) h.lt hqn).trans (h.f 0 (by omega))⟩
theorem RnAt.atN {W0 : Nat} {w w1 : World} {q iL iN iD : Nat} {vL vN vD : Value} {zs : ByteArray} (h : RnAt W0 w q iL iN iD vL vN vD zs) (ho : Only (fun k => vN.ownBlock = some k) w w1) : w1.cell? ⟨q, 1, none⟩ = some vN ∧ w1.frozen? ⟨q, 1, none⟩ = false :=
  have hqn : ¬ vN.ownBlock = some q := fun e => (h.gN q e).2.1 rfl
  ⟨ho.cell' h.c1 hqn, (ho.frozen (p := ⟨q, 1, none⟩) h.lt hqn).trans (h.f 1 (by omega))⟩
theorem RnAt.atD {W0 : Nat} {w w1 : World} {q iL iN iD : Nat} {vL vN vD : Value} {zs : ByteArray} (h : RnAt W0 w q iL iN iD vL vN vD zs) (ho : Only (fun k => vD.ownBlock = some k) w w1) : w1.cell? ⟨q, 2, none⟩ = some vD ∧ w1.frozen? ⟨q, 2, none⟩ = false :=
  have hqn : ¬ vD.ownBlock = some q := fun e => (h.gD q e).2 rfl
  ⟨ho.cell' h.c2 hqn, (ho.frozen (p := ⟨q, 2, none⟩) h.lt hqn).trans (h.f 2 (by omega))⟩
theorem RnAt.growL {W0 : Nat} {w w1 w2 : World} {q iL iN iD : Nat} {vL vN vD : Value} {zs : ByteArray} (h : RnAt W0 w q iL iN iD vL vN vD zs) (h1 : Only (fun _ => False) w w1) (h2 : Only (fun k => vL.ownBlock = some k) w1 w2) : Only (fun k => W0 ≤ k) w w2 := (h1.mono (fun _ _ f => f.elim)).trans (h2.mono (fun k _ e => (h.gL k e).1))
theorem RnAt.growN {W0 : Nat} {w w1 w2 : World} {q iL iN iD : Nat} {vL vN vD : Value} {zs : ByteArray} (h : RnAt W0 w q iL iN iD vL vN vD zs) (h1 : Only (fun _ => False) w w1) (h2 : Only (fun k => vN.ownBlock = some k) w1 w2) : Only (fun k => W0 ≤ k) w w2 := (h1.mono (fun _ _ f => f.elim)).trans (h2.mono (fun k _ e => (h.gN k e).1))
theorem RnAt.growD {W0 : Nat} {w w1 w2 : World} {q iL iN iD : Nat} {vL vN vD : Value} {zs : ByteArray} (h : RnAt W0 w q iL iN iD vL vN vD zs) (h1 : Only (fun _ => False) w w1) (h2 : Only (fun k => vD.ownBlock = some k) w1 w2) : Only (fun k => W0 ≤ k) w w2 := (h1.mono (fun _ _ f => f.elim)).trans (h2.mono (fun k _ e => (h.gD k e).1))
theorem own_at {w : World} {t : TypeId} {v u : Value} {n : Nat} (h : w.ownsRow 0 t 1 v n (List.replicate n u)) (hn : 1 ≤ n) : ∃ g cap, v = .slice (some ⟨g, 0, none⟩) n cap ∧ ∀ i, i < n → w.cell? ⟨g, i, none⟩ = some u ∧ w.frozen? ⟨g, i, none⟩ = false := by
  have h0 := h
  rcases h.2 with ⟨hv, hn0⟩ | ⟨g, cap, cur, hv, hg, hh, hc, hm, _⟩
  · omega
  · refine ⟨g, cap, hv, fun i hi => ⟨?_, by simp [World.frozen?, hh]⟩⟩
    have h1 : w.ownsRow 0 t 1 (.slice (some ⟨g, 0, none⟩) n cap) n (List.replicate n u) := by rw [← hv]; exact h0
    rw [h1.cellAt i (by omega), List.getElem?_replicate, if_pos hi]
theorem RnAt.dd {W0 : Nat} {w : World} {q n : Nat} {vL vN vD : Value} (h : RnAt W0 w q n n n vL vN vD (strN zeros)) (h1 : 1 ≤ n) (h7 : n ≤ 8192) : ∃ bL bN bD cL cN cD, DdAt w q bL bN bD n cL cN cD (fun _ => zeros) (fun _ => zeros) (fun _ => false) 0 false ∧ ∀ k, Dd4 q bL bN bD k → W0 ≤ k := by
  obtain ⟨bL, cL, rfl, rL⟩ := own_at h.oL h1
  obtain ⟨bN, cN, rfl, rN⟩ := own_at h.oN h1
  obtain ⟨bD, cD, rfl, rD⟩ := own_at h.oD h1
  have gL := h.gL bL rfl
  have gN := h.gN bN rfl
  have gD := h.gD bD rfl
  have hz : zeros.length = 64 ∧ ∀ c ∈ zeros, c < 256 := by
    unfold zeros
    exact ⟨by rw [List.length_replicate], fun c hc => by rw [List.mem_replicate] at hc; omega⟩
  refine ⟨bL, bN, bD, cL, cN, cD, ⟨h.c0, h.c1, h.c2, h.c3, h.c4, h.f 3 (by omega), h.f 4 (by omega), rL, rN, rD, gL.2.1, gN.2.1, gD.2, fun e => gL.2.2.1 (by rw [e]; rfl), fun e => gL.2.2.2 (by rw [e]; rfl), fun e => gN.2.2 (by rw [e]; rfl), fun _ _ => hz, fun _ _ => hz, by omega, h1, h7⟩, fun k hk => ?_⟩
  have gq := h.gq
  rcases hk with rfl | rfl | rfl | rfl
  · exact gq
  · exact gL.1
  · exact gN.1
  · exact gD.1
/-- what New answers -/
def RNewd (n : Nat) (w : World) (e : Ending) (w' : World) : Prop := ∃ q bL bN bD cL cN cD, e = .returned (.pointer (some ⟨q, 0, none⟩)) ∧ DdAt w' q bL bN bD n cL cN cD (fun _ => zeros) (fun _ => zeros) (fun _ => false) 0 false ∧ (∀ k, Dd4 q bL bN bD k → w.heap.size ≤ k) ∧ Only (fun _ => False) w w'
set_option maxRecDepth 100000 in
set_option maxHeartbeats 8000000 in
theorem rnew_any (n : Nat) (h1 : 1 ≤ n) (h7 : n ≤ 8192) (w : World) : Calls Try.prog 5 #[.int .i64 (n : Int)] w (RNewd n w) := by
  obtain ⟨zs, hzs⟩ : ∃ x, strN zeros = x := ⟨_, rfl⟩
  have HZS := Lib.hid hzs
  clear hzs
  obtain ⟨w1, hw1⟩ : ∃ zz, zz = w.alloc (.cells #[.slice none 0 0, .slice none 0 0, .slice none 0 0, .int .i64 0, .bool false] 46) := ⟨_, rfl⟩
  obtain ⟨q, hq⟩ : ∃ zz, zz = w.heap.size := ⟨_, rfl⟩
  obtain ⟨W0, hW0⟩ : ∃ zz, zz = w.heap.size := ⟨_, rfl⟩
  have HW0 := Lib.hid hW0
  have hB : w1.heap[q]? = some (.cells #[.slice none 0 0, .slice none 0 0, .slice none 0 0, .int .i64 0, .bool false] 46 (0, 0)) := by rw [hw1, hq, heap_alloc, if_pos rfl]
  have HR0 : Hid (RnAt W0 w1 q 0 0 0 (.slice none 0 0) (.slice none 0 0) (.slice none 0 0) zs) := Lib.hid (by
    refine ⟨?_, ?_, ?_, ?_, ?_, fun k hk => by simp [World.frozen?, hB], World.ownsRow_nil _ _ _ _, World.ownsRow_nil _ _ _ _, World.ownsRow_nil _ _ _ _, by omega, fun k hk => by simp [Value.ownBlock] at hk, fun k hk => by simp [Value.ownBlock] at hk, fun k hk => by simp [Value.ownBlock] at hk⟩ <;> (rw [Go.Joins.cell_of_block hB]; rfl))
  have HX0 : Hid (Only (fun k => W0 ≤ k) w w1) := Lib.hid (by rw [hw1]; exact (Only.refl _ _).alloc _)
  go_enter Try.func5, Try.ntmps5
  go_upto_region 2 with fail
  simp only [← hw1, ← hq]
  clear hw1 hq hB hW0
  go_wp2_with fail
  go_loopw [4] (fun iv wx => ∃ (i : Nat) (vL vN vD : Value), i ≤ n ∧ iv = .int .i64 (i : Int) ∧ Hid (RnAt W0 wx q i i i vL vN vD zs) ∧ Hid (Only (fun k => W0 ≤ k) w wx)) (fun iv _ => n - (intOf iv).toNat)
  case atStart => exact ⟨0, _, _, _, by omega, rfl, HR0, HX0⟩
  case round =>
    obtain ⟨i, vL, vN, vD, hi, rfl, HR, HX⟩ := hrel
    rename World => wx
    clear HR0 HX0
    by_cases h8 : i < n
    · have hin : (i : Int) < (n : Int) := by omega
      have HWS : Hid (W0 ≤ wx.heap.size) := Lib.hid (by have := HR.out.gq; have := HR.out.lt; omega)
      have HQ : Hid (∀ w', Only (fun _ => False) wx w' → RnAt W0 w' q i i i vL vN vD zs) := Lib.hid (fun w' ho => HR.out.quiet ho)
      clear HR
      go_upto_region 5 with fail
      refine wp_region_noPanic ?_
      refine late.region (fun w' => w'.cell? ⟨q, 0, none⟩ = some vL) (fun j => [11].contains j) (by kernel_rfl) ((HQ.out _ (Only.refl _ _).drew).c0) (fun hHeld => ?_)
      obtain ⟨z0, hz0'⟩ : ∃ x, x = wx.drew := ⟨_, rfl⟩
      rw [← hz0'] at hHeld ⊢
      have hot : Hid (Only (fun _ => False) wx z0) := Lib.hid (by rw [hz0']; exact (Only.refl _ _).drew)
      clear hz0'
      refine late.take (i := 0) [9, 10, 11] (v := ?_) rfl (by kernel_rfl) (by kernel_rfl) (by kernel_rfl) (by kernel_rfl) (fun _ _ _ h => h) (Or.inl ⟨by rfl, ?_⟩) (by assumption) ?_
      rotate_left 1
      · intro w' hSw
        try dsimp only at hSw
        go_simp
        try with_reducible rfl
      try simp only [List.getElem_toArray, List.getElem_cons_zero, Act.put, List.setIfInBounds_toArray, List.set_cons_zero, List.set_cons_succ]
      refine late.take (i := 1) [2, 3, 4, 8, 9, 10, 11] (v := ?_) rfl (by kernel_rfl) (by kernel_rfl) (by kernel_rfl) (by kernel_rfl) (fun _ _ _ h => h) (Or.inl ⟨by rfl, ?_⟩) (by assumption) ?_
      rotate_left 1
      · intro w' hSw
        try dsimp only at hSw
        go_simp
        try with_reducible rfl
      try simp only [List.getElem_toArray, List.getElem_cons_zero, List.getElem_cons_succ, Act.put, List.setIfInBounds_toArray, List.set_cons_zero, List.set_cons_succ]
      refine late.take (i := 2) [3, 4, 8, 9, 10, 11] (v := ?_) rfl (by kernel_rfl) (by kernel_rfl) (by kernel_rfl) (by kernel_rfl) (fun _ _ _ h => h) (Or.inl ⟨by rfl, ?_⟩) (by assumption) ?_
      rotate_left 1
      · intro w' hSw
        try dsimp only at hSw
        go_simp
        try with_reducible rfl
      try simp only [List.getElem_toArray, List.getElem_cons_zero, List.getElem_cons_succ, Act.put, List.setIfInBounds_toArray, List.set_cons_zero, List.set_cons_succ]
      refine late.take (i := 3) [4, 8, 9, 10, 11] (v := ?_) rfl (by kernel_rfl) (by kernel_rfl) (by kernel_rfl) (by kernel_rfl) (fun _ _ _ h => h) (Or.inl ⟨by rfl, ?_⟩) (by assumption) ?_
      rotate_left 1
      · intro w' hSw
        try dsimp only at hSw
        go_simp
        try with_reducible rfl
      try simp only [List.getElem_toArray, List.getElem_cons_zero, List.getElem_cons_succ, Act.put, List.setIfInBounds_toArray, List.set_cons_zero, List.set_cons_succ]
      refine late.take (i := 4) [8, 9, 10, 11] (v := ?_) rfl (by kernel_rfl) (by kernel_rfl) (by kernel_rfl) (by kernel_rfl) (fun _ _ _ h => h) (Or.inl ⟨by rfl, ?_⟩) (by assumption) ?_
      rotate_left 1
      · intro w' hSw
        try dsimp only at hSw
        go_simp
        try with_reducible rfl
      try simp only [List.getElem_toArray, List.getElem_cons_zero, List.getElem_cons_succ, Act.put, List.setIfInBounds_toArray, List.set_cons_zero, List.set_cons_succ]
      refine late.ready (rs := [5]) (by kernel_rfl) (by simp) ?_
      refine late.Each.cons rfl (fun K hK => ?_) late.Each.nil
      obtain ⟨cs, hmk, hcs, hc0⟩ := make_64 z0
      try simp only [List.getElem_toArray, List.getElem_cons_zero, List.getElem_cons_succ]
      go_simp
      obtain ⟨z1, hz1⟩ : ∃ x, x = z0.alloc (.cells cs 5) := ⟨_, rfl⟩
      obtain ⟨g1, hg1⟩ : ∃ x, x = z0.heap.size := ⟨_, rfl⟩
      rw [← hz1, ← hg1]
      have HCV : Hid (Reads z1 (some ⟨g1, 0, none⟩) 64 zeros) := Lib.hid (by
        rw [hz1, hg1]
        refine ⟨rfl, by unfold maxLen; omega, fun c hc => by unfold zeros at hc; rw [List.mem_replicate] at hc; omega, .inr ⟨_, 0, rfl, fun j hj => ?_⟩⟩
        rw [Go.Joins.cell_of_block (cs := cs) (t := 5) (fr := (0, 0)) (by rw [heap_alloc, if_pos rfl]), Nat.zero_add, hc0 j hj]
        unfold zeros
        rw [List.getD_eq_getElem?_getD, List.getElem?_replicate, if_pos hj]
        rfl)
      replace hot : Hid (Only (fun _ => False) wx z1) := Lib.hid (by rw [hz1]; exact hot.out.alloc _)
      clear hz1 hg1 hmk hcs hc0
      refine hK.out _ _ (fun _ => (HQ.out _ hot.out).c0) (fun hHeld1 => ?_)
      replace hHeld1 := hHeld1 rfl
      clear hK K
      try simp only [List.getElem_toArray, List.getElem_cons_zero, List.getElem_cons_succ, Act.put, List.setIfInBounds_toArray, List.set_cons_zero, List.set_cons_succ]
      refine late.ready (rs := [6]) (by kernel_rfl) (by simp) ?_
      refine late.Each.cons rfl (fun K hK => ?_) late.Each.nil
      have hcv := conv_reads HCV.out 64
      rw [HZS.out] at hcv
      try simp only [List.getElem_toArray, List.getElem_cons_zero, List.getElem_cons_succ]
      go_simp
      refine hK.out _ _ (fun _ => (HQ.out _ hot.out).c0) (fun hHeld2 => ?_)
      replace hHeld2 := hHeld2 rfl
      clear hK K
      clear hcv HCV
      try simp only [List.getElem_toArray, List.getElem_cons_zero, List.getElem_cons_succ, Act.put, List.setIfInBounds_toArray, List.set_cons_zero, List.set_cons_succ]
      refine late.ready (rs := [7]) (by kernel_rfl) (by simp) ?_
      refine late.Each.cons rfl (fun K hK => ?_) late.Each.nil
      try simp only [List.getElem_toArray, List.getElem_cons_zero, List.getElem_cons_succ]
      go_simp
      obtain ⟨z2, hz2⟩ : ∃ x, x = z1.alloc (.cells #[.string zs] 9) := ⟨_, rfl⟩
      obtain ⟨g2, hg2⟩ : ∃ x, x = z1.heap.size := ⟨_, rfl⟩
      rw [← hz2, ← hg2]
      have HN2 : Hid (∀ j u, [Value.string zs][j]? = some u → z2.cell? ((Addr.mk g2 0 none).add j) = some u) := Lib.hid (by
        intro j u hu
        rw [hz2, hg2, add_none, Go.Joins.cell_of_block (cs := #[.string zs]) (t := 9) (fr := (0, 0)) (by rw [heap_alloc, if_pos rfl]), ← hu]
        simp)
      replace hot : Hid (Only (fun _ => False) wx z2) := Lib.hid (by rw [hz2]; exact hot.out.alloc _)
      clear hz2 hg2
      refine hK.out _ _ (fun _ => (HQ.out _ hot.out).c0) (fun hHeld3 => ?_)
      replace hHeld3 := hHeld3 rfl
      clear hK K
      try simp only [List.getElem_toArray, List.getElem_cons_zero, List.getElem_cons_succ, Act.put, List.setIfInBounds_toArray, List.set_cons_zero, List.set_cons_succ]
      refine late.ready (rs := [8]) (by kernel_rfl) (by simp) ?_
      refine late.Each.cons rfl (fun K hK => ?_) late.Each.nil
      obtain ⟨i0, hi0, hi1, hi2, hi3⟩ := info_partsD info_str
      refine step_mine (a := { tmps := _, defers := _ }) rfl _ _ 44 rfl 9 i0 _ 1 16 Try.underlying44 hi0 hi1 hi2 hi3 rfl (by decide) vL i _ rfl (HQ.out _ hot.out).oL ⟨g2, 0, none⟩ 1 1 [.string zs] rfl rfl HN2.out (fun u hu => by rw [List.mem_singleton] at hu; subst hu; rfl) (by unfold maxLen; omega) (by omega) ?_
      rintro v4 z4 hown hgrow hkk
      rw [show List.replicate i (Value.string zs) ++ [Value.string zs] = List.replicate (i + 1) (Value.string zs) from by rw [List.replicate_succ']] at hown
      obtain ⟨b4, k4, rfl, -⟩ := owns_form hown (by omega)
      have hks : wx.heap.size ≤ z2.heap.size := hot.out.size
      have HST : Hid (∀ w', Only (fun _ => False) z4 w' → RnAt W0 (w'.setCell ⟨q, 0, none⟩ (.slice (some ⟨b4, 0, none⟩) (i + 1) k4)) q (i + 1) i i (.slice (some ⟨b4, 0, none⟩) (i + 1) k4) vN vD zs) := Lib.hid (fun w' ho => (HQ.out _ (Only.refl _ _)).stepL (only3 hot.out (Only.of_grown hgrow) ho) (owns_only ho hown (fun _ _ f => f)) (fun k hk => (hkk k hk).imp (fun x => x) (fun e => by omega)) (by have := (HQ.out _ (Only.refl _ _)).gq; have := (HQ.out _ (Only.refl _ _)).lt; omega))
      have HC4 : Hid (∀ w', Only (fun _ => False) z4 w' → w'.cell? ⟨q, 0, none⟩ = some vL ∧ w'.frozen? ⟨q, 0, none⟩ = false) := Lib.hid (fun w' ho => (HQ.out _ (Only.refl _ _)).atL (only3 hot.out (Only.of_grown hgrow) ho))
      have HO4 : Hid (Only (fun k => W0 ≤ k) wx z4) := Lib.hid ((HQ.out _ (Only.refl _ _)).growL hot.out (Only.of_grown hgrow))
      clear hown hgrow hkk hks HN2
      refine hK.out _ _ (fun _ => (HC4.out _ (Only.refl _ _)).1) (fun hHeld4 => ?_)
      replace hHeld4 := hHeld4 rfl
      clear hK K
      try simp only [List.getElem_toArray, List.getElem_cons_zero, List.getElem_cons_succ, Act.put, List.setIfInBounds_toArray, List.set_cons_zero, List.set_cons_succ]
      refine late.take (i := 9) [10, 11] (v := ?_) rfl (by kernel_rfl) (by kernel_rfl) (by kernel_rfl) (by kernel_rfl) (fun _ _ _ h => h) (Or.inl ⟨by rfl, ?_⟩) (by assumption) ?_
      rotate_left 1
      · intro w' hSw
        try dsimp only at hSw
        go_simp
        try with_reducible rfl
      try simp only [List.getElem_toArray, List.getElem_cons_zero, List.getElem_cons_succ, Act.put, List.setIfInBounds_toArray, List.set_cons_zero, List.set_cons_succ]
      refine late.take (i := 10) [11] (v := ?_) rfl (by kernel_rfl) (by kernel_rfl) (by kernel_rfl) (by kernel_rfl) (fun _ _ _ h => h) (Or.inl ⟨by rfl, ?_⟩) (by assumption) ?_
      rotate_left 1
      · intro w' hSw
        try dsimp only at hSw
        go_simp
        try with_reducible rfl
      try simp only [List.getElem_toArray, List.getElem_cons_zero, List.getElem_cons_succ, Act.put, List.setIfInBounds_toArray, List.set_cons_zero, List.set_cons_succ]
      refine late.ready (rs := [11]) (by kernel_rfl) (by simp) ?_
      refine late.Each.cons rfl (fun K hK => ?_) late.Each.nil
      try simp only [List.getElem_toArray, List.getElem_cons_zero, List.getElem_cons_succ]
      go_simp
      have e0 := (HC4.out _ (Only.refl _ _)).1
      have e1 := (HC4.out _ (Only.refl _ _)).2
      go_simp
      refine hK.out _ _ (fun h => by cases h) (fun _ => ?_)
      clear hK K
      clear e0 e1
      try simp only [List.getElem_toArray, List.getElem_cons_zero, List.getElem_cons_succ, Act.put, List.setIfInBounds_toArray, List.set_cons_zero, List.set_cons_succ]
      refine late.done (by kernel_rfl) ?_ _
      refine NoPanic.normal ?_
      clear hHeld
      have HR5 := Lib.hid (HST.out _ (Only.refl _ _))
      obtain ⟨y5, hy5⟩ : ∃ y, y = z4.setCell ⟨q, 0, none⟩ (.slice (some ⟨b4, 0, none⟩) (i + 1) k4) := ⟨_, rfl⟩
      obtain ⟨v5, hv5⟩ : ∃ y, y = Value.slice (some ⟨b4, 0, none⟩) (i + 1) k4 := ⟨_, rfl⟩
      rw [← hy5, ← hv5] at HR5
      simp only [← hy5]
      have HX5 : Hid (Only (fun k => W0 ≤ k) w y5) := Lib.hid (by rw [hy5]; exact (HX.out.trans HO4.out).trans ((Only.refl _ _).setCell (p := ⟨q, 0, none⟩) (.inl HR5.out.gq) _))
      have HQ5 : Hid (∀ w', Only (fun _ => False) y5 w' → RnAt W0 w' q (i + 1) i i v5 vN vD zs) := Lib.hid (fun w' ho => HR5.out.quiet ho)
      clear hy5 hv5 HR5 HST HC4 HO4 hot HQ HX
      go_upto_region 6 with fail
      refine wp_region_noPanic ?_
      refine late.region (fun w' => w'.cell? ⟨q, 1, none⟩ = some vN) (fun j => [11].contains j) (by kernel_rfl) ((HQ5.out _ (Only.refl _ _).drew).c1) (fun hHeld => ?_)
      obtain ⟨z0, hz0'⟩ : ∃ x, x = y5.drew := ⟨_, rfl⟩
      rw [← hz0'] at hHeld ⊢
      have hot : Hid (Only (fun _ => False) y5 z0) := Lib.hid (by rw [hz0']; exact (Only.refl _ _).drew)
      clear hz0'
      refine late.take (i := 0) [9, 10, 11] (v := ?_) rfl (by kernel_rfl) (by kernel_rfl) (by kernel_rfl) (by kernel_rfl) (fun _ _ _ h => h) (Or.inl ⟨by rfl, ?_⟩) (by assumption) ?_
      rotate_left 1
      · intro w' hSw
        try dsimp only at hSw
        go_simp
        try with_reducible rfl
      try simp only [List.getElem_toArray, List.getElem_cons_zero, Act.put, List.setIfInBounds_toArray, List.set_cons_zero, List.set_cons_succ]
      refine late.take (i := 1) [2, 3, 4, 8, 9, 10, 11] (v := ?_) rfl (by kernel_rfl) (by kernel_rfl) (by kernel_rfl) (by kernel_rfl) (fun _ _ _ h => h) (Or.inl ⟨by rfl, ?_⟩) (by assumption) ?_
      rotate_left 1
      · intro w' hSw
        try dsimp only at hSw
        go_simp
        try with_reducible rfl
      try simp only [List.getElem_toArray, List.getElem_cons_zero, List.getElem_cons_succ, Act.put, List.setIfInBounds_toArray, List.set_cons_zero, List.set_cons_succ]
      refine late.take (i := 2) [3, 4, 8, 9, 10, 11] (v := ?_) rfl (by kernel_rfl) (by kernel_rfl) (by kernel_rfl) (by kernel_rfl) (fun _ _ _ h => h) (Or.inl ⟨by rfl, ?_⟩) (by assumption) ?_
      rotate_left 1
      · intro w' hSw
        try dsimp only at hSw
        go_simp
        try with_reducible rfl
      try simp only [List.getElem_toArray, List.getElem_cons_zero, List.getElem_cons_succ, Act.put, List.setIfInBounds_toArray, List.set_cons_zero, List.set_cons_succ]
      refine late.take (i := 3) [4, 8, 9, 10, 11] (v := ?_) rfl (by kernel_rfl) (by kernel_rfl) (by kernel_rfl) (by kernel_rfl) (fun _ _ _ h => h) (Or.inl ⟨by rfl, ?_⟩) (by assumption) ?_
      rotate_left 1
      · intro w' hSw
        try dsimp only at hSw
        go_simp
        try with_reducible rfl
      try simp only [List.getElem_toArray, List.getElem_cons_zero, List.getElem_cons_succ, Act.put, List.setIfInBounds_toArray, List.set_cons_zero, List.set_cons_succ]
      refine late.take (i := 4) [8, 9, 10, 11] (v := ?_) rfl (by kernel_rfl) (by kernel_rfl) (by kernel_rfl) (by kernel_rfl) (fun _ _ _ h => h) (Or.inl ⟨by rfl, ?_⟩) (by assumption) ?_
      rotate_left 1
      · intro w' hSw
        try dsimp only at hSw
        go_simp
        try with_reducible rfl
      try simp only [List.getElem_toArray, List.getElem_cons_zero, List.getElem_cons_succ, Act.put, List.setIfInBounds_toArray, List.set_cons_zero, List.set_cons_succ]
      refine late.ready (rs := [5]) (by kernel_rfl) (by simp) ?_
      refine late.Each.cons rfl (fun K hK => ?_) late.Each.nil
      obtain ⟨cs, hmk, hcs, hc0⟩ := make_64 z0
      try simp only [List.getElem_toArray, List.getElem_cons_zero, List.getElem_cons_succ]
      go_simp
      obtain ⟨z1, hz1⟩ : ∃ x, x = z0.alloc (.cells cs 5) := ⟨_, rfl⟩
      obtain ⟨g1, hg1⟩ : ∃ x, x = z0.heap.size := ⟨_, rfl⟩
      rw [← hz1, ← hg1]
      have HCV : Hid (Reads z1 (some ⟨g1, 0, none⟩) 64 zeros) := Lib.hid (by
        rw [hz1, hg1]
        refine ⟨rfl, by unfold maxLen; omega, fun c hc => by unfold zeros at hc; rw [List.mem_replicate] at hc; omega, .inr ⟨_, 0, rfl, fun j hj => ?_⟩⟩
        rw [Go.Joins.cell_of_block (cs := cs) (t := 5) (fr := (0, 0)) (by rw [heap_alloc, if_pos rfl]), Nat.zero_add, hc0 j hj]
        unfold zeros
        rw [List.getD_eq_getElem?_getD, List.getElem?_replicate, if_pos hj]
        rfl)
      replace hot : Hid (Only (fun _ => False) y5 z1) := Lib.hid (by rw [hz1]; exact hot.out.alloc _)
      clear hz1 hg1 hmk hcs hc0
      refine hK.out _ _ (fun _ => (HQ5.out _ hot.out).c1) (fun hHeld1 => ?_)
      replace hHeld1 := hHeld1 rfl
      clear hK K
      try simp only [List.getElem_toArray, List.getElem_cons_zero, List.getElem_cons_succ, Act.put, List.setIfInBounds_toArray, List.set_cons_zero, List.set_cons_succ]
      refine late.ready (rs := [6]) (by kernel_rfl) (by simp) ?_
      refine late.Each.cons rfl (fun K hK => ?_) late.Each.nil
      have hcv := conv_reads HCV.out 64
      rw [HZS.out] at hcv
      try simp only [List.getElem_toArray, List.getElem_cons_zero, List.getElem_cons_succ]
      go_simp
      refine hK.out _ _ (fun _ => (HQ5.out _ hot.out).c1) (fun hHeld2 => ?_)
      replace hHeld2 := hHeld2 rfl
      clear hK K
      clear hcv HCV
      try simp only [List.getElem_toArray, List.getElem_cons_zero, List.getElem_cons_succ, Act.put, List.setIfInBounds_toArray, List.set_cons_zero, List.set_cons_succ]
      refine late.ready (rs := [7]) (by kernel_rfl) (by simp) ?_
      refine late.Each.cons rfl (fun K hK => ?_) late.Each.nil
      try simp only [List.getElem_toArray, List.getElem_cons_zero, List.getElem_cons_succ]
      go_simp
      obtain ⟨z2, hz2⟩ : ∃ x, x = z1.alloc (.cells #[.string zs] 9) := ⟨_, rfl⟩
      obtain ⟨g2, hg2⟩ : ∃ x, x = z1.heap.size := ⟨_, rfl⟩
      rw [← hz2, ← hg2]
      have HN2 : Hid (∀ j u, [Value.string zs][j]? = some u → z2.cell? ((Addr.mk g2 0 none).add j) = some u) := Lib.hid (by
        intro j u hu
        rw [hz2, hg2, add_none, Go.Joins.cell_of_block (cs := #[.string zs]) (t := 9) (fr := (0, 0)) (by rw [heap_alloc, if_pos rfl]), ← hu]
        simp)
      replace hot : Hid (Only (fun _ => False) y5 z2) := Lib.hid (by rw [hz2]; exact hot.out.alloc _)
      clear hz2 hg2
      refine hK.out _ _ (fun _ => (HQ5.out _ hot.out).c1) (fun hHeld3 => ?_)
      replace hHeld3 := hHeld3 rfl
      clear hK K
      try simp only [List.getElem_toArray, List.getElem_cons_zero, List.getElem_cons_succ, Act.put, List.setIfInBounds_toArray, List.set_cons_zero, List.set_cons_succ]
      refine late.ready (rs := [8]) (by kernel_rfl) (by simp) ?_
      refine late.Each.cons rfl (fun K hK => ?_) late.Each.nil
      obtain ⟨i0, hi0, hi1, hi2, hi3⟩ := info_partsD info_str
      refine step_mine (a := { tmps := _, defers := _ }) rfl _ _ 44 rfl 9 i0 _ 1 16 Try.underlying44 hi0 hi1 hi2 hi3 rfl (by decide) vN i _ rfl (HQ5.out _ hot.out).oN ⟨g2, 0, none⟩ 1 1 [.string zs] rfl rfl HN2.out (fun u hu => by rw [List.mem_singleton] at hu; subst hu; rfl) (by unfold maxLen; omega) (by omega) ?_
      rintro v4 z4 hown hgrow hkk
      rw [show List.replicate i (Value.string zs) ++ [Value.string zs] = List.replicate (i + 1) (Value.string zs) from by rw [List.replicate_succ']] at hown
      obtain ⟨b4, k4, rfl, -⟩ := owns_form hown (by omega)
      have hks : y5.heap.size ≤ z2.heap.size := hot.out.size
      have HST : Hid (∀ w', Only (fun _ => False) z4 w' → RnAt W0 (w'.setCell ⟨q, 1, none⟩ (.slice (some ⟨b4, 0, none⟩) (i + 1) k4)) q (i + 1) (i + 1) i v5 (.slice (some ⟨b4, 0, none⟩) (i + 1) k4) vD zs) := Lib.hid (fun w' ho => (HQ5.out _ (Only.refl _ _)).stepN (only3 hot.out (Only.of_grown hgrow) ho) (owns_only ho hown (fun _ _ f => f)) (fun k hk => (hkk k hk).imp (fun x => x) (fun e => by omega)) (by have := (HQ5.out _ (Only.refl _ _)).gq; have := (HQ5.out _ (Only.refl _ _)).lt; omega))
      have HC4 : Hid (∀ w', Only (fun _ => False) z4 w' → w'.cell? ⟨q, 1, none⟩ = some vN ∧ w'.frozen? ⟨q, 1, none⟩ = false) := Lib.hid (fun w' ho => (HQ5.out _ (Only.refl _ _)).atN (only3 hot.out (Only.of_grown hgrow) ho))
      have HO4 : Hid (Only (fun k => W0 ≤ k) y5 z4) := Lib.hid ((HQ5.out _ (Only.refl _ _)).growN hot.out (Only.of_grown hgrow))
      clear hown hgrow hkk hks HN2
      refine hK.out _ _ (fun _ => (HC4.out _ (Only.refl _ _)).1) (fun hHeld4 => ?_)
      replace hHeld4 := hHeld4 rfl
      clear hK K
      try simp only [List.getElem_toArray, List.getElem_cons_zero, List.getElem_cons_succ, Act.put, List.setIfInBounds_toArray, List.set_cons_zero, List.set_cons_succ]
      refine late.take (i := 9) [10, 11] (v := ?_) rfl (by kernel_rfl) (by kernel_rfl) (by kernel_rfl) (by kernel_rfl) (fun _ _ _ h => h) (Or.inl ⟨by rfl, ?_⟩) (by assumption) ?_
      rotate_left 1
      · intro w' hSw
        try dsimp only at hSw
        go_simp
        try with_reducible rfl
      try simp only [List.getElem_toArray, List.getElem_cons_zero, List.getElem_cons_succ, Act.put, List.setIfInBounds_toArray, List.set_cons_zero, List.set_cons_succ]
      refine late.take (i := 10) [11] (v := ?_) rfl (by kernel_rfl) (by kernel_rfl) (by kernel_rfl) (by kernel_rfl) (fun _ _ _ h => h) (Or.inl ⟨by rfl, ?_⟩) (by assumption) ?_
      rotate_left 1
      · intro w' hSw
        try dsimp only at hSw
        go_simp
        try with_reducible rfl
      try simp only [List.getElem_toArray, List.getElem_cons_zero, List.getElem_cons_succ, Act.put, List.setIfInBounds_toArray, List.set_cons_zero, List.set_cons_succ]
      refine late.ready (rs := [11]) (by kernel_rfl) (by simp) ?_
      refine late.Each.cons rfl (fun K hK => ?_) late.Each.nil
      try simp only [List.getElem_toArray, List.getElem_cons_zero, List.getElem_cons_succ]
      go_simp
      have e0 := (HC4.out _ (Only.refl _ _)).1
      have e1 := (HC4.out _ (Only.refl _ _)).2
      go_simp
      refine hK.out _ _ (fun h => by cases h) (fun _ => ?_)
      clear hK K
      clear e0 e1
      try simp only [List.getElem_toArray, List.getElem_cons_zero, List.getElem_cons_succ, Act.put, List.setIfInBounds_toArray, List.set_cons_zero, List.set_cons_succ]
      refine late.done (by kernel_rfl) ?_ _
      refine NoPanic.normal ?_
      clear hHeld
      have HR6 := Lib.hid (HST.out _ (Only.refl _ _))
      obtain ⟨y6, hy6⟩ : ∃ y, y = z4.setCell ⟨q, 1, none⟩ (.slice (some ⟨b4, 0, none⟩) (i + 1) k4) := ⟨_, rfl⟩
      obtain ⟨v6, hv6⟩ : ∃ y, y = Value.slice (some ⟨b4, 0, none⟩) (i + 1) k4 := ⟨_, rfl⟩
      rw [← hy6, ← hv6] at HR6
      simp only [← hy6]
      have HX6 : Hid (Only (fun k => W0 ≤ k) w y6) := Lib.hid (by rw [hy6]; exact (HX5.out.trans HO4.out).trans ((Only.refl _ _).setCell (p := ⟨q, 1, none⟩) (.inl HR6.out.gq) _))
      have HQ6 : Hid (∀ w', Only (fun _ => False) y6 w' → RnAt W0 w' q (i + 1) (i + 1) i v5 v6 vD zs) := Lib.hid (fun w' ho => HR6.out.quiet ho)
      clear hy6 hv6 HR6 HST HC4 HO4 hot HQ5 HX5
      obtain ⟨i0, hi0, hi1, hi2, hi3⟩ := info_partsD info_boo
      have x2 := (HQ6.out _ (Only.refl _ _)).c2
      have f2 := (HQ6.out _ (Only.refl _ _)).f 2 (by omega)
      have HP : Hid ((y6.alloc (.cells #[.bool false] 4)).ownsRow 0 4 1 vD i (List.replicate i (Value.bool false))) := Lib.hid (HQ6.out _ ((Only.refl _ _).alloc _)).oD
      have HCA : Hid (∀ o, (y6.alloc o).cell? ⟨q, 2, none⟩ = some vD ∧ (y6.alloc o).frozen? ⟨q, 2, none⟩ = false) := Lib.hid (fun o => ⟨(HQ6.out _ ((Only.refl _ _).alloc _)).c2, (HQ6.out _ ((Only.refl _ _).alloc _)).f 2 (by omega)⟩)
      have c2a := fun o => (HCA.out o).1
      have f2a := fun o => (HCA.out o).2
      go_wp2_with (at_builtin; refine append_mine rfl _ _ 31 rfl 4 i0 _ 1 1 Try.underlying31 hi0 hi1 hi2 hi3 rfl (by decide) vD i _ rfl HP.out ⟨y6.heap.size, 0, none⟩ 1 1 [.bool false] rfl ?c1 ?c2 ?c3 ?c4 ?c5 ?_)
      case c1 => rfl
      case c2 =>
        intro j u hu
        rw [add_none, Go.Joins.cell_of_block (cs := #[.bool false]) (t := 4) (fr := (0, 0)) (by rw [heap_alloc, if_pos rfl]), ← hu]
        simp
      case c3 => exact (fun u hu => by rw [List.mem_singleton] at hu; subst hu; rfl)
      case c4 => unfold maxLen; omega
      case c5 => omega
      intro v7 w7 hown hgrow hkk
      rw [show List.replicate i (Value.bool false) ++ [Value.bool false] = List.replicate (i + 1) (Value.bool false) from by rw [List.replicate_succ']] at hown
      obtain ⟨b7, k7, rfl, -⟩ := owns_form hown (by omega)
      have hal : Only (fun _ => False) y6 (y6.alloc (.cells #[.bool false] 4)) := (Only.refl _ _).alloc _
      have hks := hal.size
      have HR7 := Lib.hid ((HQ6.out _ (Only.refl _ _)).stepD (only3 hal (Only.of_grown hgrow) (Only.refl _ _)) hown (fun k hk => (hkk k hk).imp (fun x => x) (fun e => by omega)) (by have := (HQ6.out _ (Only.refl _ _)).gq; have := (HQ6.out _ (Only.refl _ _)).lt; omega))
      have hc4 := (HQ6.out _ (Only.refl _ _)).atD (only3 hal (Only.of_grown hgrow) (Only.refl _ _))
      have c3 := hc4.1
      have f3 := hc4.2
      have HO7 : Hid (Only (fun k => W0 ≤ k) w w7) := Lib.hid (HX6.out.trans ((HQ6.out _ (Only.refl _ _)).growD hal (Only.of_grown hgrow)))
      have HX7 : Hid (Only (fun k => W0 ≤ k) w (w7.setCell ⟨q, 2, none⟩ (.slice (some ⟨b7, 0, none⟩) (i + 1) k7))) := Lib.hid (HO7.out.trans ((Only.refl _ _).setCell (p := ⟨q, 2, none⟩) (.inl HR7.out.gq) _))
      clear hown hgrow hkk hal hks hc4 HP HCA c2a f2a x2 f2 HQ6 HX6
      go_wp2_with fail
      go_roundw
      case rel => exact ⟨i + 1, _, _, _, by omega, by go_num, HR7, HX7⟩
      case measure => (simp [intOf]; omega)
    · have hin : ¬ (i : Int) < (n : Int) := by omega
      obtain rfl : n = i := by omega
      go_wp2_with fail
      go_ret
      have hr := HR.out
      rw [← HZS.out] at hr
      obtain ⟨bL, bN, bD, cL, cN, cD, hd, hk⟩ := hr.dd h1 h7
      have hW0 := HW0.out
      exact ⟨q, bL, bN, bD, cL, cN, cD, rfl, hd, fun k hk2 => by have := hk k hk2; omega, (Only.refl (fun _ => False) w).then HX.out (fun k hk e => by omega)⟩
end Go.Proofs.Ytodmfljhojdbkaa.dskw
