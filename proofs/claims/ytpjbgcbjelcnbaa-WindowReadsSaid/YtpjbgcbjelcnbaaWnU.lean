/- Reading a window's bytes, as mathematics; what follow answers. -/
import Derived.Test.YtpjbgcbjelcnbaaWnT
import Derived.Deep.CutRange
namespace Go.Proofs.Ytpjbgcbjelcnbaa.wnd
open Go.RowKit mem rowz dskw codm codp codw
set_option linter.unusedVariables false

/-- one entry, and all of them -/
def rdEnt (s : Option (List Nat)) : Kp × Option (List Nat) :=
  (⟨((uS 4611686018427387904 s).1 : Int), (tS 65536 (uS 4611686018427387904 s).2).1, (tS 65536 (tS 65536 (uS 4611686018427387904 s).2).2).1⟩, (tS 65536 (tS 65536 (uS 4611686018427387904 s).2).2).2)
def rdN : Nat → Option (List Nat) → List Kp × Option (List Nat)
  | 0, s => ([], s)
  | k + 1, s => ((rdN k s).1 ++ [(rdEnt (rdN k s).2).1], (rdEnt (rdN k s).2).2)
def folF (strict : Bool) : Bool → Int → List Kp → Bool
  | _, _, [] => true
  | gone, last, x :: r => if x.n ≤ last ∨ (strict = true ∧ x.n ≠ last + 1 ∧ gone = false) then false else folF strict false x.n r
def folP (strict : Bool) (m : Nat) (K : List Kp) : Bool := folF strict (decide (K.length = m)) (-1) K
theorem folF_step (strict gone : Bool) (last : Int) (K : List Kp) {i : Nat} (h : i < K.length) : folF strict gone last (K.drop i) = if (K.getD i default).n ≤ last ∨ (strict = true ∧ (K.getD i default).n ≠ last + 1 ∧ gone = false) then false else folF strict false (K.getD i default).n (K.drop (i + 1)) := by
  have e : K.drop i = K.getD i default :: K.drop (i + 1) := by rw [List.drop_eq_getElem_cons h]; simp [List.getD, h]
  rw [e]; rfl
theorem rdN_len (s : Option (List Nat)) : ∀ k, (rdN k s).1.length = k := by
  intro k
  induction k with
  | zero => rfl
  | succ k ih => show ((rdN k s).1 ++ _).length = _; rw [List.length_append, ih]; rfl
theorem SOk.ent {s : Option (List Nat)} (h : SOk s) : SOk (rdEnt s).2 := ((h.uS _).tS _).tS _
theorem SOk.rdN {s : Option (List Nat)} (h : SOk s) : ∀ k, SOk (wnd.rdN k s).2 := by
  intro k
  induction k with
  | zero => exact h
  | succ k ih => exact SOk.ent ih
set_option maxRecDepth 100000 in
set_option maxHeartbeats 4000000 in
theorem follow_any {S : Nat → Prop} (p m : Nat) (strict : Bool) (v : Value) (L : List Kd) (w : World) (h : WnAt S w p (m : Int) strict v L) : Calls Try.prog 84 #[.pointer (some ⟨p, 0, none⟩)] w fun e w' => e = .returned (.bool (folP strict m (L.map Kd.kp))) ∧ Only (fun _ => False) w w' := by
  have HW := Lib.hid h
  have hmo := h.mo
  have hll : L.length ≤ 64 := by have := h.len; omega
  have HNB := Lib.hid h.nb
  obtain ⟨av, cv, hv, hcv, hrv, -⟩ := h.own.reads
  have HRV := Lib.hid hrv
  obtain ⟨len, hln⟩ : ∃ x, L.length = x := ⟨_, rfl⟩
  have HLN := Lib.hid hln
  have HC0 : Hid (∀ w', Only (fun _ => False) w w' → w'.cell? ⟨p, 0, none⟩ = some (.int .i64 (m : Int)) ∧ w'.cell? ⟨p, 1, none⟩ = some (.bool strict) ∧ w'.cell? ⟨p, 2, none⟩ = some (.slice av len cv)) := Lib.hid (fun w' ho => ⟨(HW.out.quiet ho).c0, (HW.out.quiet ho).c1, by rw [(HW.out.quiet ho).c2, hv, hln]⟩)
  obtain ⟨K, hK⟩ : ∃ x, L.map Kd.kp = x := ⟨_, rfl⟩
  have HKL : Hid (K.length = len) := Lib.hid (by rw [← hK, List.length_map, hln])
  have HKG : Hid (∀ i, i < len → K.getD i default = (L.getD i default).kp) := Lib.hid (fun i hi => by rw [← hK]; exact kp_get L i (by rw [hln]; exact hi))
  have HMEM : Hid (∀ i, i < len → 0 ≤ (L.getD i default).n ∧ (L.getD i default).n ≤ 4611686018427387904) := Lib.hid (fun i hi => by
    have hi2 : i < L.length := by rw [hln]; exact hi
    have hm : L.getD i default ∈ L := by
      have : L.getD i default = L[i] := by simp [List.getD, hi2]
      rw [this]; exact List.getElem_mem hi2
    exact HNB.out _ hm)
  rw [hln] at HRV hcv hll
  rw [hK]
  obtain ⟨d0, d1, d2⟩ := HC0.out w (Only.refl _ _)
  have HF0 : Hid (folF strict (decide (len = m)) (-1) (K.drop 0) = folP strict m K) := Lib.hid (by unfold folP; rw [HKL.out]; rfl)
  generalize folP strict m K = FP at *
  clear h hrv hv hln hK
  go_enter Try.func84, Try.ntmps84
  go_wp2_with fail
  clear d0 d1 d2
  go_loopw [3, 12] (fun lv iv wr => ∃ (i : Nat) (la : Int), i ≤ len ∧ iv = .int .i64 (i : Int) ∧ lv = .int .i64 la ∧ Hid ((-1 ≤ la ∧ la ≤ 4611686018427387904) ∧ folF strict (decide (i = 0 ∧ len = m)) la (K.drop i) = FP) ∧ Hid (Only (fun _ => False) w wr)) (fun _ iv _ => len - (intOf iv).toNat)
  case atStart => exact ⟨0, -1, by omega, rfl, rfl, Lib.hid ⟨by omega, by rw [← HF0.out]; simp⟩, Lib.hid (Only.refl _ _)⟩
  case round =>
    obtain ⟨i, la, hi, rfl, rfl, HF, HO⟩ := hrel
    rename World => wr
    by_cases h8 : i < len
    · obtain ⟨b, rfl, hcell⟩ := HRV.out.2.resolve_left (by omega)
      obtain ⟨c0, c1, c2⟩ := hcell i h8
      replace c0 := HO.out.cell' c0 (fun f => f)
      replace c1 := HO.out.cell' c1 (fun f => f)
      replace c2 := HO.out.cell' c2 (fun f => f)
      obtain ⟨n1, n2⟩ := HMEM.out i h8
      obtain ⟨⟨la1, la2⟩, hst⟩ := HF.out
      rw [folF_step _ _ _ K (by rw [HKL.out]; exact h8), HKG.out i h8] at hst
      generalize L.getD i default = x at *
      obtain ⟨xn, xqa, xqn, xqc, xq, xaa, xan, xac, xa⟩ := x
      dsimp only [Kd.kp] at c0 c1 c2 hst n1 n2
      have HST := Lib.hid hst
      have hin : (i : Int) < len := by omega
      have hi0 : (0 : Int) ≤ i := by omega
      have hi64 : (i : Int) ≤ 64 := by omega
      have HX : Hid (-1 ≤ xn ∧ xn ≤ 4611686018427387904) := Lib.hid ⟨by omega, n2⟩
      have hla1 : IntKind.i64.wrap (la + 1) = la + 1 := by rw [IntKind.wrap_i64]; omega
      clear hcell hst HF
      go_upto_region 5 with fail
      obtain ⟨w5, hw5⟩ : ∃ x, x = wr.alloc (.cells #[.int .i64 xn, .slice xqa xqn xqc, .slice xaa xan xac] 123) := ⟨_, rfl⟩
      obtain ⟨g5, hg5⟩ : ∃ x, x = wr.heap.size := ⟨_, rfl⟩
      obtain ⟨q0, q1, -, -⟩ := box3_facts hw5 hg5
      simp only [← hw5, ← hg5]
      have HO5 := Lib.hid (HO.out.trans q0)
      clear hw5 hg5 q0 c0 c1 c2 HO
      go_cut [6] from 17 to 30 (fun gv wx => gv = .bool (decide (i = 0 ∧ len = m)) ∧ Only (fun _ => False) w5 wx)
      case first =>
        by_cases hi1 : i = 0
        · subst hi1
          obtain ⟨d0, d1, d2⟩ := HC0.out w5 HO5.out
          by_cases hlm : len = m
          · have hb1 : ((len : Int) == (m : Int)) = true := by rw [beq_iff_eq]; omega
            have HD : Hid (decide (0 = 0 ∧ len = m) = true) := Lib.hid (decide_eq_true ⟨rfl, hlm⟩)
            clear hlm d1
            refine wp_region_noPanic ?_
            refine late.region (fun w' => ∀ q, w'.cell? q = w5.cell? q) (fun j => [].contains j) (by kernel_rfl) (fun q => by simp) (fun hHeld => ?_)
            refine late.take (i := 0) [1, 2, 3, 4, 5, 6, 7, 8, 9, 10, 11, 12, 13, 14] (v := ?_) rfl (by kernel_rfl) (by kernel_rfl) (by kernel_rfl) (by kernel_rfl) (fun _ _ _ h => h) (Or.inl ⟨by rfl, ?_⟩) (by assumption) ?_
            rotate_left 1
            · intro w' hSw
              try dsimp only at hSw
              go_simp
              try with_reducible rfl
            try simp only [List.getElem_toArray, List.getElem_cons_zero, Act.put, List.setIfInBounds_toArray, List.set_cons_zero, List.set_cons_succ]
            refine late.take (i := 1) [2, 3, 4, 5, 6, 7, 8, 9, 10, 11, 12, 13, 14] (v := ?_) rfl (by kernel_rfl) (by kernel_rfl) (by kernel_rfl) (by kernel_rfl) (fun _ _ _ h => h) (Or.inl ⟨by rfl, ?_⟩) (by assumption) ?_
            rotate_left 1
            · intro w' hSw
              try dsimp only at hSw
              go_simp
              try with_reducible rfl
            try simp only [List.getElem_toArray, List.getElem_cons_zero, List.getElem_cons_succ, Act.put, List.setIfInBounds_toArray, List.set_cons_zero, List.set_cons_succ]
            refine late.take (i := 2) [3, 4, 5, 6, 7, 8, 9, 10, 11, 12, 13, 14] (v := ?_) rfl (by kernel_rfl) (by kernel_rfl) (by kernel_rfl) (by kernel_rfl) (fun _ _ _ h => h) (Or.inl ⟨by rfl, ?_⟩) (by assumption) ?_
            rotate_left 1
            · intro w' hSw
              try dsimp only at hSw
              go_simp
              try with_reducible rfl
            try simp only [List.getElem_toArray, List.getElem_cons_zero, List.getElem_cons_succ, Act.put, List.setIfInBounds_toArray, List.set_cons_zero, List.set_cons_succ]
            refine late.take (i := 3) [4, 5, 6, 7, 12, 13, 14] (v := ?_) rfl (by kernel_rfl) (by kernel_rfl) (by kernel_rfl) (by kernel_rfl) (fun _ _ _ h => h) (Or.inl ⟨by rfl, ?_⟩) (by assumption) ?_
            rotate_left 1
            · intro w' hSw
              try dsimp only at hSw
              go_simp
              try with_reducible rfl
            try simp only [List.getElem_toArray, List.getElem_cons_zero, List.getElem_cons_succ, Act.put, List.setIfInBounds_toArray, List.set_cons_zero, List.set_cons_succ]
            refine late.take (i := 4) [5, 6, 7, 12, 13, 14] (v := ?_) rfl (by kernel_rfl) (by kernel_rfl) (by kernel_rfl) (by kernel_rfl) (fun _ _ _ h => h) (Or.inl ⟨by rfl, ?_⟩) (by assumption) ?_
            rotate_left 1
            · intro w' hSw
              try dsimp only at hSw
              go_simp
              try with_reducible rfl
            try simp only [List.getElem_toArray, List.getElem_cons_zero, List.getElem_cons_succ, Act.put, List.setIfInBounds_toArray, List.set_cons_zero, List.set_cons_succ]
            refine late.take (i := 5) [6, 7, 12, 13, 14] (v := ?_) rfl (by kernel_rfl) (by kernel_rfl) (by kernel_rfl) (by kernel_rfl) (fun _ _ _ h => h) (Or.inl ⟨by rfl, ?_⟩) (by assumption) ?_
            rotate_left 1
            · intro w' hSw
              try dsimp only at hSw
              go_simp
              try with_reducible rfl
            try simp only [List.getElem_toArray, List.getElem_cons_zero, List.getElem_cons_succ, Act.put, List.setIfInBounds_toArray, List.set_cons_zero, List.set_cons_succ]
            refine late.take (i := 6) [7, 12, 13, 14] (v := ?_) rfl (by kernel_rfl) (by kernel_rfl) (by kernel_rfl) (by kernel_rfl) (fun _ _ _ h => h) (Or.inl ⟨by rfl, ?_⟩) (by assumption) ?_
            rotate_left 1
            · intro w' hSw
              try dsimp only at hSw
              go_simp
              try with_reducible rfl
            try simp only [List.getElem_toArray, List.getElem_cons_zero, List.getElem_cons_succ, Act.put, List.setIfInBounds_toArray, List.set_cons_zero, List.set_cons_succ]
            refine late.take (i := 7) [12, 13, 14] (v := ?_) rfl (by kernel_rfl) (by kernel_rfl) (by kernel_rfl) (by kernel_rfl) (fun _ _ _ h => h) (Or.inl ⟨by rfl, ?_⟩) (by assumption) ?_
            rotate_left 1
            · intro w' hSw
              try dsimp only at hSw
              go_simp
              try with_reducible rfl
            try simp only [List.getElem_toArray, List.getElem_cons_zero, List.getElem_cons_succ, Act.put, List.setIfInBounds_toArray, List.set_cons_zero, List.set_cons_succ]
            refine late.take (i := 8) [9, 10, 11, 12, 13, 14] (v := ?_) rfl (by kernel_rfl) (by kernel_rfl) (by kernel_rfl) (by kernel_rfl) (fun _ _ _ h => h) (Or.inl ⟨by rfl, ?_⟩) (by assumption) ?_
            rotate_left 1
            · intro w' hSw
              try dsimp only at hSw
              go_simp
              try with_reducible rfl
            try simp only [List.getElem_toArray, List.getElem_cons_zero, List.getElem_cons_succ, Act.put, List.setIfInBounds_toArray, List.set_cons_zero, List.set_cons_succ]
            refine late.take (i := 9) [10, 11, 12, 13, 14] (v := ?_) rfl (by kernel_rfl) (by kernel_rfl) (by kernel_rfl) (by kernel_rfl) (fun _ _ _ h => h) (Or.inl ⟨by rfl, ?_⟩) (by assumption) ?_
            rotate_left 1
            · intro w' hSw
              try dsimp only at hSw
              go_simp
              try with_reducible rfl
            try simp only [List.getElem_toArray, List.getElem_cons_zero, List.getElem_cons_succ, Act.put, List.setIfInBounds_toArray, List.set_cons_zero, List.set_cons_succ]
            refine late.take (i := 10) [11, 12, 13, 14] (v := ?_) rfl (by kernel_rfl) (by kernel_rfl) (by kernel_rfl) (by kernel_rfl) (fun _ _ _ h => h) (Or.inl ⟨by rfl, ?_⟩) (by assumption) ?_
            rotate_left 1
            · intro w' hSw
              try dsimp only at hSw
              go_simp
              try with_reducible rfl
            try simp only [List.getElem_toArray, List.getElem_cons_zero, List.getElem_cons_succ, Act.put, List.setIfInBounds_toArray, List.set_cons_zero, List.set_cons_succ]
            refine late.take (i := 11) [12, 13, 14] (v := ?_) rfl (by kernel_rfl) (by kernel_rfl) (by kernel_rfl) (by kernel_rfl) (fun _ _ _ h => h) (Or.inl ⟨by rfl, ?_⟩) (by assumption) ?_
            rotate_left 1
            · intro w' hSw
              try dsimp only at hSw
              go_simp
              try with_reducible rfl
            try simp only [List.getElem_toArray, List.getElem_cons_zero, List.getElem_cons_succ, Act.put, List.setIfInBounds_toArray, List.set_cons_zero, List.set_cons_succ]
            refine late.take (i := 12) [13, 14] (v := ?_) rfl (by kernel_rfl) (by kernel_rfl) (by kernel_rfl) (by kernel_rfl) (fun _ _ _ h => h) (Or.inl ⟨by rfl, ?_⟩) (by assumption) ?_
            rotate_left 1
            · intro w' hSw
              try dsimp only at hSw
              go_simp
              try with_reducible rfl
            try simp only [List.getElem_toArray, List.getElem_cons_zero, List.getElem_cons_succ, Act.put, List.setIfInBounds_toArray, List.set_cons_zero, List.set_cons_succ]
            refine late.take (i := 13) [14] (v := ?_) rfl (by kernel_rfl) (by kernel_rfl) (by kernel_rfl) (by kernel_rfl) (fun _ _ _ h => h) (Or.inl ⟨by rfl, ?_⟩) (by assumption) ?_
            rotate_left 1
            · intro w' hSw
              try dsimp only at hSw
              go_simp
              try with_reducible rfl
            try simp only [List.getElem_toArray, List.getElem_cons_zero, List.getElem_cons_succ, Act.put, List.setIfInBounds_toArray, List.set_cons_zero, List.set_cons_succ]
            refine late.take (i := 14) [] (v := ?_) rfl (by kernel_rfl) (by kernel_rfl) (by kernel_rfl) (by kernel_rfl) (fun _ _ _ h => h) (Or.inl ⟨by rfl, ?_⟩) (by assumption) ?_
            rotate_left 1
            · intro w' hSw
              try dsimp only at hSw
              go_simp
              try with_reducible rfl
            try simp only [List.getElem_toArray, List.getElem_cons_zero, List.getElem_cons_succ, Act.put, List.setIfInBounds_toArray, List.set_cons_zero, List.set_cons_succ]
            refine late.done (by kernel_rfl) ?_ _
            refine NoPanic.normal ?_
            go_wp2_with fail
            go_meet
            exact ⟨by rw [HD.out], (Only.refl _ _).drew⟩
          · have hb1 : ((len : Int) == (m : Int)) = false := by rw [beq_eq_false_iff_ne]; omega
            have HD : Hid (decide (0 = 0 ∧ len = m) = false) := Lib.hid (decide_eq_false (fun q => hlm q.2))
            clear hlm d1
            refine wp_region_noPanic ?_
            refine late.region (fun w' => ∀ q, w'.cell? q = w5.cell? q) (fun j => [].contains j) (by kernel_rfl) (fun q => by simp) (fun hHeld => ?_)
            refine late.take (i := 0) [1, 2, 3, 4, 5, 6, 7, 8, 9, 10, 11, 12, 13, 14] (v := ?_) rfl (by kernel_rfl) (by kernel_rfl) (by kernel_rfl) (by kernel_rfl) (fun _ _ _ h => h) (Or.inl ⟨by rfl, ?_⟩) (by assumption) ?_
            rotate_left 1
            · intro w' hSw
              try dsimp only at hSw
              go_simp
              try with_reducible rfl
            try simp only [List.getElem_toArray, List.getElem_cons_zero, Act.put, List.setIfInBounds_toArray, List.set_cons_zero, List.set_cons_succ]
            refine late.take (i := 1) [2, 3, 4, 5, 6, 7, 8, 9, 10, 11, 12, 13, 14] (v := ?_) rfl (by kernel_rfl) (by kernel_rfl) (by kernel_rfl) (by kernel_rfl) (fun _ _ _ h => h) (Or.inl ⟨by rfl, ?_⟩) (by assumption) ?_
            rotate_left 1
            · intro w' hSw
              try dsimp only at hSw
              go_simp
              try with_reducible rfl
            try simp only [List.getElem_toArray, List.getElem_cons_zero, List.getElem_cons_succ, Act.put, List.setIfInBounds_toArray, List.set_cons_zero, List.set_cons_succ]
            refine late.take (i := 2) [3, 4, 5, 6, 7, 8, 9, 10, 11, 12, 13, 14] (v := ?_) rfl (by kernel_rfl) (by kernel_rfl) (by kernel_rfl) (by kernel_rfl) (fun _ _ _ h => h) (Or.inl ⟨by rfl, ?_⟩) (by assumption) ?_
            rotate_left 1
            · intro w' hSw
              try dsimp only at hSw
              go_simp
              try with_reducible rfl
            try simp only [List.getElem_toArray, List.getElem_cons_zero, List.getElem_cons_succ, Act.put, List.setIfInBounds_toArray, List.set_cons_zero, List.set_cons_succ]
            refine late.take (i := 3) [4, 5, 6, 7, 12, 13, 14] (v := ?_) rfl (by kernel_rfl) (by kernel_rfl) (by kernel_rfl) (by kernel_rfl) (fun _ _ _ h => h) (Or.inl ⟨by rfl, ?_⟩) (by assumption) ?_
            rotate_left 1
            · intro w' hSw
              try dsimp only at hSw
              go_simp
              try with_reducible rfl
            try simp only [List.getElem_toArray, List.getElem_cons_zero, List.getElem_cons_succ, Act.put, List.setIfInBounds_toArray, List.set_cons_zero, List.set_cons_succ]
            refine late.take (i := 4) [5, 6, 7, 12, 13, 14] (v := ?_) rfl (by kernel_rfl) (by kernel_rfl) (by kernel_rfl) (by kernel_rfl) (fun _ _ _ h => h) (Or.inl ⟨by rfl, ?_⟩) (by assumption) ?_
            rotate_left 1
            · intro w' hSw
              try dsimp only at hSw
              go_simp
              try with_reducible rfl
            try simp only [List.getElem_toArray, List.getElem_cons_zero, List.getElem_cons_succ, Act.put, List.setIfInBounds_toArray, List.set_cons_zero, List.set_cons_succ]
            refine late.take (i := 5) [6, 7, 12, 13, 14] (v := ?_) rfl (by kernel_rfl) (by kernel_rfl) (by kernel_rfl) (by kernel_rfl) (fun _ _ _ h => h) (Or.inl ⟨by rfl, ?_⟩) (by assumption) ?_
            rotate_left 1
            · intro w' hSw
              try dsimp only at hSw
              go_simp
              try with_reducible rfl
            try simp only [List.getElem_toArray, List.getElem_cons_zero, List.getElem_cons_succ, Act.put, List.setIfInBounds_toArray, List.set_cons_zero, List.set_cons_succ]
            refine late.take (i := 6) [7, 12, 13, 14] (v := ?_) rfl (by kernel_rfl) (by kernel_rfl) (by kernel_rfl) (by kernel_rfl) (fun _ _ _ h => h) (Or.inl ⟨by rfl, ?_⟩) (by assumption) ?_
            rotate_left 1
            · intro w' hSw
              try dsimp only at hSw
              go_simp
              try with_reducible rfl
            try simp only [List.getElem_toArray, List.getElem_cons_zero, List.getElem_cons_succ, Act.put, List.setIfInBounds_toArray, List.set_cons_zero, List.set_cons_succ]
            refine late.take (i := 7) [12, 13, 14] (v := ?_) rfl (by kernel_rfl) (by kernel_rfl) (by kernel_rfl) (by kernel_rfl) (fun _ _ _ h => h) (Or.inl ⟨by rfl, ?_⟩) (by assumption) ?_
            rotate_left 1
            · intro w' hSw
              try dsimp only at hSw
              go_simp
              try with_reducible rfl
            try simp only [List.getElem_toArray, List.getElem_cons_zero, List.getElem_cons_succ, Act.put, List.setIfInBounds_toArray, List.set_cons_zero, List.set_cons_succ]
            refine late.take (i := 8) [9, 10, 11, 12, 13, 14] (v := ?_) rfl (by kernel_rfl) (by kernel_rfl) (by kernel_rfl) (by kernel_rfl) (fun _ _ _ h => h) (Or.inl ⟨by rfl, ?_⟩) (by assumption) ?_
            rotate_left 1
            · intro w' hSw
              try dsimp only at hSw
              go_simp
              try with_reducible rfl
            try simp only [List.getElem_toArray, List.getElem_cons_zero, List.getElem_cons_succ, Act.put, List.setIfInBounds_toArray, List.set_cons_zero, List.set_cons_succ]
            refine late.take (i := 9) [10, 11, 12, 13, 14] (v := ?_) rfl (by kernel_rfl) (by kernel_rfl) (by kernel_rfl) (by kernel_rfl) (fun _ _ _ h => h) (Or.inl ⟨by rfl, ?_⟩) (by assumption) ?_
            rotate_left 1
            · intro w' hSw
              try dsimp only at hSw
              go_simp
              try with_reducible rfl
            try simp only [List.getElem_toArray, List.getElem_cons_zero, List.getElem_cons_succ, Act.put, List.setIfInBounds_toArray, List.set_cons_zero, List.set_cons_succ]
            refine late.take (i := 10) [11, 12, 13, 14] (v := ?_) rfl (by kernel_rfl) (by kernel_rfl) (by kernel_rfl) (by kernel_rfl) (fun _ _ _ h => h) (Or.inl ⟨by rfl, ?_⟩) (by assumption) ?_
            rotate_left 1
            · intro w' hSw
              try dsimp only at hSw
              go_simp
              try with_reducible rfl
            try simp only [List.getElem_toArray, List.getElem_cons_zero, List.getElem_cons_succ, Act.put, List.setIfInBounds_toArray, List.set_cons_zero, List.set_cons_succ]
            refine late.take (i := 11) [12, 13, 14] (v := ?_) rfl (by kernel_rfl) (by kernel_rfl) (by kernel_rfl) (by kernel_rfl) (fun _ _ _ h => h) (Or.inl ⟨by rfl, ?_⟩) (by assumption) ?_
            rotate_left 1
            · intro w' hSw
              try dsimp only at hSw
              go_simp
              try with_reducible rfl
            try simp only [List.getElem_toArray, List.getElem_cons_zero, List.getElem_cons_succ, Act.put, List.setIfInBounds_toArray, List.set_cons_zero, List.set_cons_succ]
            refine late.take (i := 12) [13, 14] (v := ?_) rfl (by kernel_rfl) (by kernel_rfl) (by kernel_rfl) (by kernel_rfl) (fun _ _ _ h => h) (Or.inl ⟨by rfl, ?_⟩) (by assumption) ?_
            rotate_left 1
            · intro w' hSw
              try dsimp only at hSw
              go_simp
              try with_reducible rfl
            try simp only [List.getElem_toArray, List.getElem_cons_zero, List.getElem_cons_succ, Act.put, List.setIfInBounds_toArray, List.set_cons_zero, List.set_cons_succ]
            refine late.take (i := 13) [14] (v := ?_) rfl (by kernel_rfl) (by kernel_rfl) (by kernel_rfl) (by kernel_rfl) (fun _ _ _ h => h) (Or.inl ⟨by rfl, ?_⟩) (by assumption) ?_
            rotate_left 1
            · intro w' hSw
              try dsimp only at hSw
              go_simp
              try with_reducible rfl
            try simp only [List.getElem_toArray, List.getElem_cons_zero, List.getElem_cons_succ, Act.put, List.setIfInBounds_toArray, List.set_cons_zero, List.set_cons_succ]
            refine late.take (i := 14) [] (v := ?_) rfl (by kernel_rfl) (by kernel_rfl) (by kernel_rfl) (by kernel_rfl) (fun _ _ _ h => h) (Or.inl ⟨by rfl, ?_⟩) (by assumption) ?_
            rotate_left 1
            · intro w' hSw
              try dsimp only at hSw
              go_simp
              try with_reducible rfl
            try simp only [List.getElem_toArray, List.getElem_cons_zero, List.getElem_cons_succ, Act.put, List.setIfInBounds_toArray, List.set_cons_zero, List.set_cons_succ]
            refine late.done (by kernel_rfl) ?_ _
            refine NoPanic.normal ?_
            go_wp2_with fail
            go_meet
            exact ⟨by rw [HD.out], (Only.refl _ _).drew⟩
        · have hb0 : ((i : Int) == 0) = false := by rw [beq_eq_false_iff_ne]; omega
          have HD : Hid (decide (i = 0 ∧ len = m) = false) := Lib.hid (decide_eq_false (fun q => hi1 q.1))
          clear hi1
          refine wp_region_noPanic ?_
          refine late.region (fun w' => ∀ q, w'.cell? q = w5.cell? q) (fun j => [].contains j) (by kernel_rfl) (fun q => by simp) (fun hHeld => ?_)
          refine late.take (i := 0) [1, 2, 3, 4, 5, 6, 7, 8, 9, 10, 11, 12, 13, 14] (v := ?_) rfl (by kernel_rfl) (by kernel_rfl) (by kernel_rfl) (by kernel_rfl) (fun _ _ _ h => h) (Or.inl ⟨by rfl, ?_⟩) (by assumption) ?_
          rotate_left 1
          · intro w' hSw
            try dsimp only at hSw
            go_simp
            try with_reducible rfl
          try simp only [List.getElem_toArray, List.getElem_cons_zero, Act.put, List.setIfInBounds_toArray, List.set_cons_zero, List.set_cons_succ]
          refine late.take (i := 1) [2, 3, 4, 5, 6, 7, 8, 9, 10, 11, 12, 13, 14] (v := ?_) rfl (by kernel_rfl) (by kernel_rfl) (by kernel_rfl) (by kernel_rfl) (fun _ _ _ h => h) (Or.inl ⟨by rfl, ?_⟩) (by assumption) ?_
          rotate_left 1
          · intro w' hSw
            try dsimp only at hSw
            go_simp
            try with_reducible rfl
          try simp only [List.getElem_toArray, List.getElem_cons_zero, List.getElem_cons_succ, Act.put, List.setIfInBounds_toArray, List.set_cons_zero, List.set_cons_succ]
          refine late.take (i := 2) [3, 4, 5, 6, 7, 8, 9, 10, 11, 12, 13, 14] (v := ?_) rfl (by kernel_rfl) (by kernel_rfl) (by kernel_rfl) (by kernel_rfl) (fun _ _ _ h => h) (Or.inl ⟨by rfl, ?_⟩) (by assumption) ?_
          rotate_left 1
          · intro w' hSw
            try dsimp only at hSw
            go_simp
            try with_reducible rfl
          try simp only [List.getElem_toArray, List.getElem_cons_zero, List.getElem_cons_succ, Act.put, List.setIfInBounds_toArray, List.set_cons_zero, List.set_cons_succ]
          refine late.take (i := 3) [4, 5, 6, 7, 12, 13, 14] (v := undef) rfl (by kernel_rfl) (by kernel_rfl) (by kernel_rfl) (by kernel_rfl) (fun _ _ _ h => h) (Or.inr ⟨rfl, rfl⟩) (by assumption) ?_
          try simp only [List.getElem_toArray, List.getElem_cons_zero, List.getElem_cons_succ, Act.put, List.setIfInBounds_toArray, List.set_cons_zero, List.set_cons_succ]
          refine late.take (i := 4) [5, 6, 7, 12, 13, 14] (v := undef) rfl (by kernel_rfl) (by kernel_rfl) (by kernel_rfl) (by kernel_rfl) (fun _ _ _ h => h) (Or.inr ⟨rfl, rfl⟩) (by assumption) ?_
          try simp only [List.getElem_toArray, List.getElem_cons_zero, List.getElem_cons_succ, Act.put, List.setIfInBounds_toArray, List.set_cons_zero, List.set_cons_succ]
          refine late.take (i := 5) [6, 7, 12, 13, 14] (v := undef) rfl (by kernel_rfl) (by kernel_rfl) (by kernel_rfl) (by kernel_rfl) (fun _ _ _ h => h) (Or.inr ⟨rfl, rfl⟩) (by assumption) ?_
          try simp only [List.getElem_toArray, List.getElem_cons_zero, List.getElem_cons_succ, Act.put, List.setIfInBounds_toArray, List.set_cons_zero, List.set_cons_succ]
          refine late.take (i := 6) [7, 12, 13, 14] (v := undef) rfl (by kernel_rfl) (by kernel_rfl) (by kernel_rfl) (by kernel_rfl) (fun _ _ _ h => h) (Or.inr ⟨rfl, rfl⟩) (by assumption) ?_
          try simp only [List.getElem_toArray, List.getElem_cons_zero, List.getElem_cons_succ, Act.put, List.setIfInBounds_toArray, List.set_cons_zero, List.set_cons_succ]
          refine late.take (i := 7) [12, 13, 14] (v := undef) rfl (by kernel_rfl) (by kernel_rfl) (by kernel_rfl) (by kernel_rfl) (fun _ _ _ h => h) (Or.inr ⟨rfl, rfl⟩) (by assumption) ?_
          try simp only [List.getElem_toArray, List.getElem_cons_zero, List.getElem_cons_succ, Act.put, List.setIfInBounds_toArray, List.set_cons_zero, List.set_cons_succ]
          refine late.take (i := 8) [9, 10, 11, 12, 13, 14] (v := undef) rfl (by kernel_rfl) (by kernel_rfl) (by kernel_rfl) (by kernel_rfl) (fun _ _ _ h => h) (Or.inr ⟨rfl, rfl⟩) (by assumption) ?_
          try simp only [List.getElem_toArray, List.getElem_cons_zero, List.getElem_cons_succ, Act.put, List.setIfInBounds_toArray, List.set_cons_zero, List.set_cons_succ]
          refine late.take (i := 9) [10, 11, 12, 13, 14] (v := undef) rfl (by kernel_rfl) (by kernel_rfl) (by kernel_rfl) (by kernel_rfl) (fun _ _ _ h => h) (Or.inr ⟨rfl, rfl⟩) (by assumption) ?_
          try simp only [List.getElem_toArray, List.getElem_cons_zero, List.getElem_cons_succ, Act.put, List.setIfInBounds_toArray, List.set_cons_zero, List.set_cons_succ]
          refine late.take (i := 10) [11, 12, 13, 14] (v := undef) rfl (by kernel_rfl) (by kernel_rfl) (by kernel_rfl) (by kernel_rfl) (fun _ _ _ h => h) (Or.inr ⟨rfl, rfl⟩) (by assumption) ?_
          try simp only [List.getElem_toArray, List.getElem_cons_zero, List.getElem_cons_succ, Act.put, List.setIfInBounds_toArray, List.set_cons_zero, List.set_cons_succ]
          refine late.take (i := 11) [12, 13, 14] (v := undef) rfl (by kernel_rfl) (by kernel_rfl) (by kernel_rfl) (by kernel_rfl) (fun _ _ _ h => h) (Or.inr ⟨rfl, rfl⟩) (by assumption) ?_
          try simp only [List.getElem_toArray, List.getElem_cons_zero, List.getElem_cons_succ, Act.put, List.setIfInBounds_toArray, List.set_cons_zero, List.set_cons_succ]
          refine late.take (i := 12) [13, 14] (v := undef) rfl (by kernel_rfl) (by kernel_rfl) (by kernel_rfl) (by kernel_rfl) (fun _ _ _ h => h) (Or.inr ⟨rfl, rfl⟩) (by assumption) ?_
          try simp only [List.getElem_toArray, List.getElem_cons_zero, List.getElem_cons_succ, Act.put, List.setIfInBounds_toArray, List.set_cons_zero, List.set_cons_succ]
          refine late.take (i := 13) [14] (v := ?_) rfl (by kernel_rfl) (by kernel_rfl) (by kernel_rfl) (by kernel_rfl) (fun _ _ _ h => h) (Or.inl ⟨by rfl, ?_⟩) (by assumption) ?_
          rotate_left 1
          · intro w' hSw
            try dsimp only at hSw
            go_simp
            try with_reducible rfl
          try simp only [List.getElem_toArray, List.getElem_cons_zero, List.getElem_cons_succ, Act.put, List.setIfInBounds_toArray, List.set_cons_zero, List.set_cons_succ]
          refine late.take (i := 14) [] (v := ?_) rfl (by kernel_rfl) (by kernel_rfl) (by kernel_rfl) (by kernel_rfl) (fun _ _ _ h => h) (Or.inl ⟨by rfl, ?_⟩) (by assumption) ?_
          rotate_left 1
          · intro w' hSw
            try dsimp only at hSw
            go_simp
            try with_reducible rfl
          try simp only [List.getElem_toArray, List.getElem_cons_zero, List.getElem_cons_succ, Act.put, List.setIfInBounds_toArray, List.set_cons_zero, List.set_cons_succ]
          refine late.done (by kernel_rfl) ?_ _
          refine NoPanic.normal ?_
          go_wp2_with fail
          go_meet
          exact ⟨by rw [HD.out], (Only.refl _ _).drew⟩
      case rest =>
        obtain ⟨rfl, ho⟩ := hcut
        rename World => w6
        have HO6 := Lib.hid (HO5.out.trans ho)
        replace q1 := ho.cell' q1 (fun f => f)
        obtain ⟨d0, d1, d2⟩ := HC0.out w6 HO6.out
        generalize decide (i = 0 ∧ len = m) = gone at *
        have HNX : Hid (FP = folF strict false xn (K.drop (i + 1)) → (-1 ≤ xn ∧ xn ≤ 4611686018427387904) ∧ folF strict (decide (i + 1 = 0 ∧ len = m)) xn (K.drop (i + 1)) = FP) := Lib.hid (fun e => ⟨HX.out, by rw [e, decide_eq_false (by omega)]⟩)
        clear ho HO5
        have hfp := HST.out
        by_cases hle : xn ≤ la
        · have HN : Hid (FP = false) := Lib.hid (hfp.symm.trans (if_pos (Or.inl hle)))
          clear hfp HST HNX
          go_wp2_with fail
          go_ret
          exact ⟨by rw [HN.out]; rfl, HO6.out⟩
        · cases strict
          · have HN := Lib.hid (HNX.out (hfp.symm.trans (if_neg (fun q => q.elim hle (fun q => by cases q.1)))))
            clear hfp HST HNX
            go_wp2_with fail
            go_roundw
            case rel => exact ⟨i + 1, xn, by omega, by go_num, rfl, HN, HO6⟩
            case measure => simp [intOf]; omega
          · by_cases hne : xn = la + 1
            · have HN := Lib.hid (HNX.out (hfp.symm.trans (if_neg (fun q => q.elim hle (fun q => q.2.1 hne)))))
              have hbb : (xn != la + 1) = false := by simpa using hne
              clear hfp HST HNX hne la1 la2
              go_wp2_with fail
              go_roundw
              case rel => exact ⟨i + 1, xn, by omega, by go_num, rfl, HN, HO6⟩
              case measure => simp [intOf]; omega
            · have hbb : (xn != la + 1) = true := by simpa using hne
              cases gone
              · have HN : Hid (FP = false) := Lib.hid (hfp.symm.trans (if_pos (Or.inr ⟨rfl, hne, rfl⟩)))
                clear hfp HST HNX hne la1 la2
                go_wp2_with fail
                go_ret
                exact ⟨by rw [HN.out]; rfl, HO6.out⟩
              · have HN := Lib.hid (HNX.out (hfp.symm.trans (if_neg (fun q => q.elim hle (fun q => by cases q.2.2)))))
                clear hfp HST HNX hne la1 la2
                go_wp2_with fail
                go_roundw
                case rel => exact ⟨i + 1, xn, by omega, by go_num, rfl, HN, HO6⟩
                case measure => simp [intOf]; omega
    · obtain rfl : i = len := by omega
      have hnl : ¬ (i : Int) < i := by omega
      have HN : Hid (FP = true) := Lib.hid (by rw [← HF.out.2, List.drop_eq_nil_of_le (by rw [HKL.out]; omega)]; rfl)
      have HO6 := HO
      go_wp2_with fail
      go_ret
      exact ⟨by rw [HN.out]; rfl, HO6.out⟩
end Go.Proofs.Ytpjbgcbjelcnbaa.wnd
