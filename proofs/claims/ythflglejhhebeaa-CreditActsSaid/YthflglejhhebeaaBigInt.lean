/- The document's numbers in parts: what Minus and Int answer; the program's own Add, Sub and Mul. -/
import Derived.Test.YthflglejhhebeaaBigPlus
import Derived.Test.YthflglejhhebeaaIntM
namespace Go.Proofs.Ythflglejhhebeaa.bigw
open Go.RowKit mem bigm intm
set_option linter.unusedVariables false

theorem ret_pair {a b : Int} {c : Bool} (h : a = b) : Ending.returned (.tuple #[.int .i64 a, .bool c]) = .returned (.tuple #[.int .i64 b, .bool c]) := by rw [h]

set_option maxRecDepth 100000 in
set_option maxHeartbeats 2000000 in
theorem bint_any (z : Int) (hz : z.natAbs < 4294967296 ^ 10) (w : World) :
    Calls Try.prog 74 #[sb z] w fun e w' => e = .returned (.tuple #[.int .i64 (intOr z), .bool (isInt z)]) ∧ Only (fun _ => False) w w' := by
  obtain ⟨n, hn⟩ : ∃ n, z.natAbs = n := ⟨_, rfl⟩
  obtain ⟨s, hs⟩ : ∃ s, decide (z < 0) = s := ⟨_, rfl⟩
  have HX : Hid (sb z = big (limb n) s) := Lib.hid (by unfold sb; rw [hn, hs])
  rw [HX.out]
  rw [hn] at hz
  have BC := Lib.hid (box_cells w (limb n) s 125 _ rfl)
  have HN := Lib.hid hn
  have HZ := Lib.hid hz
  have HS := Lib.hid hs
  clear hz hn hs
  have bs : (w.alloc (.cells (bigC (limb n) s) 125)).cell? ⟨w.heap.size, 10, none⟩ = some (.bool s) := cell_new w (limb n) s _ _ rfl 10
  have b0 := BC.out 0 (by omega)
  have b1 := BC.out 1 (by omega)
  unfold bigC at bs b0 b1 BC
  unfold big
  go_enter Try.func74, Try.ntmps74
  go_wp2_with fail
  go_loop [4] (fun x => ∃ i : Nat, 2 ≤ i ∧ i ≤ 10 ∧ x = .int .i64 (i : Int) ∧ Hid (∀ j, 2 ≤ j → j < i → limb n j = 0)) (fun x => 10 - (intOf x).toNat)
  case atStart => exact ⟨2, by omega, by omega, rfl, Lib.hid (fun j h1 h2 => by omega)⟩
  case round =>
    obtain ⟨i, hi2, hi, rfl, HJ⟩ := hrel
    by_cases hi10 : i < 10
    · have x1 := BC.out i hi10
      by_cases h0 : limb n i = 0
      · rw [h0] at x1
        have HJ2 : Hid (∀ j, 2 ≤ j → j < i + 1 → limb n j = 0) := Lib.hid (fun j h1 h2 => by
          by_cases e : j = i
          · rw [e]; exact h0
          · exact HJ.out j h1 (by omega))
        clear h0
        go_wp2_with fail
        go_round
        case rel => exact ⟨i + 1, by omega, by omega, by go_num, HJ2⟩
        case measure => simp [intOf]; omega
      · have hq : ((limb n i : Int) != 0) = true := by rw [bne_iff_ne]; omega
        have hbig : Hid (18446744073709551616 ≤ n) := Lib.hid (big_of_limb hi2 h0)
        have hR : Hid (isInt z = false ∧ intOr z = 0) := Lib.hid (by
          have h1 : isInt z = false := by rw [isInt_not]; have h2 := hbig.out; have h3 := HN.out; omega
          exact ⟨h1, by unfold intOr; rw [h1]; rfl⟩)
        clear h0
        go_wp2
        go_ret2
        rw [hR.out.1, hR.out.2]
        exact ⟨rfl, (Only.refl _ w).alloc _⟩
    · obtain rfl : i = 10 := by omega
      have hsm : n < 18446744073709551616 := small_of_limbs HZ.out HJ.out
      have hl0 : limb n 0 = n % 4294967296 := by unfold limb; simp
      have hl1 : limb n 1 = n / 4294967296 := by unfold limb; simp; omega
      have hor := or_limbs hsm hl0 hl1
      have HOR := Lib.hid hor
      have HSM := Lib.hid hsm
      clear hl0 hl1 hsm hor
      obtain ⟨l0, hl0⟩ : ∃ l0, limb n 0 = l0 := ⟨_, rfl⟩
      obtain ⟨l1, hl1⟩ : ∃ l1, limb n 1 = l1 := ⟨_, rfl⟩
      have c0 := BC.out 0 (by omega)
      have c1 := BC.out 1 (by omega)
      rw [hl0] at b0
      rw [hl1] at b1
      rw [hl0, hl1] at HOR
      have hor := HOR.out
      clear c0 c1
      rcases Nat.lt_or_ge n 9223372036854775808 with hq | hq
      · have hqb : decide ((9223372036854775808 : Int) ≤ (n : Int)) = false := by rw [decide_eq_false_iff_not]; omega
        have hqc : decide ((9223372036854775808 : Int) < (n : Int)) = false := by rw [decide_eq_false_iff_not]; omega
        have hR : Hid (isInt z = true ∧ intOr z = z) := Lib.hid (by
          have h1 : isInt z = true := by rw [isInt_iff]; have h3 := HN.out; omega
          exact ⟨h1, by unfold intOr; rw [h1]; rfl⟩)
        have HQ := Lib.hid hq
        clear hq
        cases s
        · have hz : Hid ((n : Int) = z) := Lib.hid (by have h3 := HN.out; have h4 := HS.out; simp at h4; omega)
          go_wp2
          go_ret2
          rw [hR.out.1, hR.out.2]
          exact ⟨ret_pair (by rw [← hz.out, wrap64_eq]; have := HQ.out; omega), (Only.refl _ w).alloc _⟩
        · have hz : Hid (-(n : Int) = z) := Lib.hid (by have h3 := HN.out; have h4 := HS.out; simp at h4; omega)
          go_wp2
          go_ret2
          rw [hR.out.1, hR.out.2]
          exact ⟨ret_pair (by rw [← hz.out]; simp only [wrap64_eq, IntKind.wrap_u64]; have := HQ.out; omega), (Only.refl _ w).alloc _⟩
      · have hqb : decide ((9223372036854775808 : Int) ≤ (n : Int)) = true := by rw [decide_eq_true_iff]; omega
        have HQ := Lib.hid hq
        clear hq
        cases s
        · have hR : Hid (isInt z = false ∧ intOr z = 0) := Lib.hid (by
            have h1 : isInt z = false := by rw [isInt_not]; have h3 := HN.out; have h4 := HS.out; have h5 := HQ.out; simp at h4; omega
            exact ⟨h1, by unfold intOr; rw [h1]; rfl⟩)
          go_wp2
          go_ret2
          rw [hR.out.1, hR.out.2]
          exact ⟨rfl, (Only.refl _ w).alloc _⟩
        · by_cases he : n = 9223372036854775808
          · have hqc : decide ((9223372036854775808 : Int) < (n : Int)) = false := by rw [decide_eq_false_iff_not]; omega
            have hR : Hid (isInt z = true ∧ intOr z = z) := Lib.hid (by
              have h1 : isInt z = true := by rw [isInt_iff]; have h3 := HN.out; have h4 := HS.out; simp at h4; omega
              exact ⟨h1, by unfold intOr; rw [h1]; rfl⟩)
            have hz : Hid (-(n : Int) = z) := Lib.hid (by have h3 := HN.out; have h4 := HS.out; simp at h4; omega)
            have HE := Lib.hid he
            clear he
            go_wp2
            go_ret2
            rw [hR.out.1, hR.out.2]
            exact ⟨ret_pair (by rw [← hz.out]; simp only [wrap64_eq, IntKind.wrap_u64]; have := HE.out; omega), (Only.refl _ w).alloc _⟩
          · have hqc : decide ((9223372036854775808 : Int) < (n : Int)) = true := by rw [decide_eq_true_iff]; have h5 := HQ.out; omega
            have hR : Hid (isInt z = false ∧ intOr z = 0) := Lib.hid (by
              have h1 : isInt z = false := by rw [isInt_not]; have h3 := HN.out; have h4 := HS.out; have h5 := HQ.out; simp at h4; omega
              exact ⟨h1, by unfold intOr; rw [h1]; rfl⟩)
            clear he
            go_wp2
            go_ret2
            rw [hR.out.1, hR.out.2]
            exact ⟨rfl, (Only.refl _ w).alloc _⟩
end Go.Proofs.Ythflglejhhebeaa.bigw
