/- What the document's Head answers. -/
import Derived.Test.YtcbpgplmphgcgaaSnQ
namespace Go.Proofs.Ytcbpgplmphgcgaa.snw
open Go.RowKit mem snm crcm dskw
set_option linter.unusedVariables false

set_option maxRecDepth 100000 in
set_option maxHeartbeats 4000000 in
theorem rhead_any (gen : Nat) (im : List Nat) (w : World) (hg : gen < 9223372036854775808) (hl : im.length ≤ 900000) (hb : ∀ c ∈ im, c < 256) : Calls Try.prog 43 #[.int .i64 (gen : Int), .string (strN im)] w fun e w' => e = .returned (.string (strN (headL gen im))) ∧ Only (fun _ => False) w w' := by
  obtain ⟨I, hI⟩ : ∃ I, strN im = I := ⟨_, rfl⟩
  have hIs : I.size = im.length := by rw [← hI, strN_size]
  have HI := Lib.hid hI
  obtain ⟨ln, hln⟩ : ∃ n, im.length = n := ⟨_, rfl⟩
  rw [hln] at hIs hl
  have HLN := Lib.hid hln
  have HB := Lib.hid hb
  rw [hI]
  clear hI hb hln
  obtain ⟨A, hA⟩ : ∃ A, strN (be 8 gen) = A := ⟨_, rfl⟩
  obtain ⟨B, hB⟩ : ∃ B, strN (be 8 ln) = B := ⟨_, rfl⟩
  have hAs : A.size = 8 := by rw [← hA, strN_size, be_len]
  have hBs : B.size = 8 := by rw [← hB, strN_size, be_len]
  have HAB : Hid (A ++ B = strN (keyL gen ln)) := Lib.hid (by rw [← hA, ← hB, strN_append]; rfl)
  have HN1 := Lib.hid (number_any gen 8 w hg (by omega))
  have HN2 := Lib.hid (fun w' => number_any ln 8 w' (by omega) (by omega))
  rw [hA] at HN1
  rw [hB] at HN2
  simp only [Int.cast_ofNat_Int] at HN1 HN2
  clear hA hB
  go_enter Try.func43, Try.ntmps43
  go_wp2_with fail
  refine HN1.out.mono ?_
  rintro _ w1 ⟨rfl, ho1⟩
  have HO1 := Lib.hid ho1
  clear ho1 HN1
  go_wp2_with fail
  refine (HN2.out w1).mono ?_
  rintro _ w2 ⟨rfl, ho2⟩
  have HO2 := Lib.hid (HO1.out.trans ho2)
  clear ho2 HN2 HO1
  obtain ⟨K, hK⟩ : ∃ K, A ++ B = K := ⟨_, rfl⟩
  have hKs : K.size = 16 := by rw [← hK, ByteArray.size_append]; omega
  have HK : Hid (K = strN (keyL gen ln)) := Lib.hid (by rw [← hK, HAB.out])
  go_upto_region 2 with fail
  try simp only [hK]
  clear hK HAB
  go_wp2_with fail
  have hkb : ∀ c ∈ keyL gen ln ++ im, c < 256 := by
    intro c hc
    rcases List.mem_append.1 hc with hc | hc
    · exact key_lt _ _ c hc
    · exact HB.out c hc
  have HSM := crcw.rsum_text (keyL gen ln ++ im) w2 (by rw [List.length_append, key_len, HLN.out]; omega) hkb
  have hKI : crcw.strN (keyL gen ln ++ im) = K ++ I := by
    show strN (keyL gen ln ++ im) = K ++ I
    rw [← strN_append, ← HK.out, HI.out]
  rw [hKI] at HSM
  have HSL : more 0 (keyL gen ln ++ im) < 4294967296 := more_lt (by omega) hkb
  obtain ⟨s, hs⟩ : ∃ s, more 0 (keyL gen ln ++ im) = s := ⟨_, rfl⟩
  rw [hs] at HSM HSL
  have HSS := Lib.hid hs
  clear hs hKI hkb
  refine HSM.mono ?_
  rintro _ _ ⟨rfl, rfl⟩
  have HN3 := number_any s 4 w2 (by omega) (by omega)
  obtain ⟨C, hC⟩ : ∃ C, strN (be 4 s) = C := ⟨_, rfl⟩
  have hCs : C.size = 4 := by rw [← hC, strN_size, be_len]
  have HC := Lib.hid hC
  rw [hC] at HN3
  simp only [Int.cast_ofNat_Int] at HN3
  clear hC HSM
  go_wp2_with fail
  refine HN3.mono ?_
  rintro _ w3 ⟨rfl, ho3⟩
  have HO3 := Lib.hid (HO2.out.trans ho3)
  clear ho3 HN3 HO2
  obtain ⟨H, hH⟩ : ∃ H, ({ data := #[3] } : ByteArray) ++ K ++ C = H := ⟨_, rfl⟩
  have hHs : H.size = 21 := by rw [← hH, ByteArray.size_append, ByteArray.size_append, hKs, hCs]; rfl
  have HH : Hid (H = strN (hd0 gen im)) := Lib.hid (by
    rw [← hH]
    show strN [3] ++ K ++ C = _
    rw [HK.out, ← HC.out, strN_append, strN_append, ← HSS.out, ← HLN.out]
    rfl)
  go_upto_region 3 with fail
  clear hH
  obtain ⟨w4, hw4⟩ : ∃ x, x = w3.alloc (.cells (bv (List.replicate 43 0)).toArray 5) := ⟨_, rfl⟩
  have hmk := make_b 43 (by omega) w3
  have how := own_new w3 (List.replicate 43 0) (fun c hc => by have := (List.mem_replicate.1 hc).2; omega) (by simp)
  have ho4 : Only (fun _ => False) w3 w4 := by rw [hw4]; exact (Only.refl _ _).alloc _
  rw [← hw4] at hmk how
  rw [List.length_replicate] at how
  have hcv := conv_own how
  obtain ⟨Z, hZ⟩ : ∃ Z, strN (List.replicate 43 0) = Z := ⟨_, rfl⟩
  have hZs : Z.size = 43 := by rw [← hZ, strN_size, List.length_replicate]
  rw [hZ] at hcv
  have HF : Hid (H ++ Z = strN (headL gen im)) := Lib.hid (by rw [HH.out, ← hZ, strN_append, head_eq])
  have HO4 := Lib.hid (HO3.out.trans ho4)
  simp only [Int.cast_ofNat_Int] at hmk
  clear hZ how ho4 hw4
  go_wp2_with fail
  go_ret
  exact ⟨by rw [← HF.out]; rfl, HO4.out⟩
end Go.Proofs.Ytcbpgplmphgcgaa.snw
