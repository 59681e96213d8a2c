/- EntrySums's walk. -/
import Derived.Test.YtlmkkpfhapkflabEntI
namespace Go.Proofs.Ytlmkkpfhapkflab.entw
open Go.RowKit mem entm
set_option linter.unusedVariables false

set_option maxHeartbeats 2000000 in
theorem sums_any (kind amount : Int) (a : Option Addr) (len cap : Nat) (l : List Int) (w : World) (h : IntsR w a len cap l) :
    Calls Try.prog 7 #[.int .i64 kind, .int .i64 amount, .slice a len cap] w fun e w' => e = .returned (.bool true) ∧ Only (fun _ => False) w w' := by
  obtain ⟨hr, hlc, hcm, hnone⟩ := h
  unfold maxLen at hcm
  rcases a with _ | x
  · have := hnone rfl
    obtain rfl : cap = 0 := this
    obtain rfl : len = 0 := by omega
    have hm0 : min (0 : Int) 3 = 0 := by decide
    have HNO : Hid (mkNo kind amount [] ≠ 0) := Lib.hid (by
      rcases mk_cases kind amount [] with h | ⟨_, _, h⟩
      · exact h
      · exact absurd h (by rw [path_no (by rintro ⟨h, _⟩; simp at h)]; simp))
    clear hr hnone
    go_enter Try.func7, Try.ntmps7
    go_wp2_with fail
    refine (make_no kind amount 1 _ _ _ [] _ (nilI_reads _ _) (by omega) (by omega) HNO.out).mono ?_
    rintro _ w1 ⟨rfl, ho1⟩
    have HO1 := Lib.hid ho1
    clear ho1
    generalize mkNo kind amount [] = c at *
    have hc1 : (c == 0) = false := by simpa using HNO.out
    have hc2 : (c != 0) = true := by simpa using HNO.out
    go_wp2_with fail
    refine (ents_any _).mono ?_
    rintro _ w2 ⟨rfl, ho2⟩
    have HO2 := Lib.hid ((HO1.out.alloc _).trans ho2)
    have l0 := ho2.cell' (alloc_new w1 #[.int .i64 0, .slice none 0 0] 28 _ 0 _ rfl rfl) (fun f => f)
    have l1 := ho2.cell' (alloc_new w1 #[.int .i64 0, .slice none 0 0] 28 _ 1 _ rfl rfl) (fun f => f)
    clear ho2
    go_wp2_with fail
    refine (ents_any _).mono ?_
    rintro _ w3 ⟨rfl, ho3⟩
    have HO3 := Lib.hid (HO2.out.trans ho3)
    have m0 := ho3.cell' l0 (fun f => f)
    have m1 := ho3.cell' l1 (fun f => f)
    clear ho3 l0 l1
    go_wp2_with fail
    refine (sum_none _).mono ?_
    rintro _ w4 ⟨rfl, ho4⟩
    have HO4 := Lib.hid (HO3.out.trans ho4)
    clear ho4 m0 m1
    go_wp2_with fail
    go_ret
    exact ⟨rfl, HO4.out⟩
  · rcases Nat.lt_or_ge 3 len with hlen | hlen
    all_goals
      obtain ⟨n, hn, hn3, hnl⟩ : ∃ n, n = min len 3 ∧ n ≤ 3 ∧ n ≤ len := ⟨_, rfl, by omega, by omega⟩
      have HR : Hid (ReadsI w (some x) n (l.take n)) := Lib.hid (hr.take n hnl)
      generalize l.take n = l' at HR
      clear hr hnone
      have hmin : min (len : Int) 3 = (n : Int) := by omega
      first | (rw [Nat.min_eq_right (by omega : 3 ≤ len)] at hn; subst hn) | (rw [Nat.min_eq_left (by omega : len ≤ 3)] at hn; subst hn)
      rcases mk_cases kind amount l' with hno | ⟨hk, ha, hp⟩
      · have HNO := Lib.hid hno
        clear hno
        go_enter Try.func7, Try.ntmps7
        go_wp2_with fail
        refine (make_no kind amount 1 _ _ _ l' _ HR.out (by omega) (by omega) HNO.out).mono ?_
        rintro _ w1 ⟨rfl, ho1⟩
        have HO1 := Lib.hid ho1
        clear ho1
        generalize mkNo kind amount l' = c at *
        have hc1 : (c == 0) = false := by simpa using HNO.out
        have hc2 : (c != 0) = true := by simpa using HNO.out
        go_wp2_with fail
        refine (ents_any _).mono ?_
        rintro _ w2 ⟨rfl, ho2⟩
        have HO2 := Lib.hid ((HO1.out.alloc _).trans ho2)
        have l0 := ho2.cell' (alloc_new w1 #[.int .i64 0, .slice none 0 0] 28 _ 0 _ rfl rfl) (fun f => f)
        have l1 := ho2.cell' (alloc_new w1 #[.int .i64 0, .slice none 0 0] 28 _ 1 _ rfl rfl) (fun f => f)
        clear ho2
        go_wp2_with fail
        refine (ents_any _).mono ?_
        rintro _ w3 ⟨rfl, ho3⟩
        have HO3 := Lib.hid (HO2.out.trans ho3)
        have m0 := ho3.cell' l0 (fun f => f)
        have m1 := ho3.cell' l1 (fun f => f)
        clear ho3 l0 l1
        go_wp2_with fail
        refine (sum_none _).mono ?_
        rintro _ w4 ⟨rfl, ho4⟩
        have HO4 := Lib.hid (HO3.out.trans ho4)
        clear ho4 m0 m1
        go_wp2_with fail
        go_ret
        exact ⟨rfl, HO4.out⟩
      · have hpo : PathOK l' := by unfold pathB at hp; simpa using hp
        have HK := Lib.hid hk
        have HA := Lib.hid ha
        have HP := Lib.hid hp
        have HPO := Lib.hid hpo
        clear hk ha hp hpo
        go_enter Try.func7, Try.ntmps7
        go_wp2_with fail
        refine (make_yes kind amount 1 HK.out HA.out ⟨by omega, by omega⟩ _ _ _ l' HP.out _ HR.out (by omega) (by omega)).mono ?_
        rintro _ w1 ⟨g, cp, ls, hperm, hsort, hgw, ho1, hrd, hcase⟩
        rcases hcase with ⟨hc, rfl⟩ | ⟨hc, rfl⟩
        · have hin : ∀ l ∈ ls, InL l := hrd.2.2.1
          have hll := HR.out.1
          obtain ⟨hs1, hs2⟩ := sums_math HA.out hperm hc (fun l hl => (hin l hl).2.2.2)
          have hlen1 : 1 ≤ ls.length := by rw [hperm.length_eq]; exact rawL_pos_len _ _ _ _ HPO.out.1
          have hlen2 : ls.length ≤ 1000 := by rw [hperm.length_eq]; have := rawL_len kind amount 1 l'; have := HPO.out.2.1; omega
          have hA1 := HA.out.1
          have hA2 := HA.out.2
          obtain ⟨M, hM, hM0, hM1⟩ : ∃ M, amount * (l'.length : Int) = M ∧ 0 ≤ M ∧ M ≤ 27021597764222976 := by
            refine ⟨_, rfl, ?_⟩
            have h1 := HPO.out.1
            have h2 := HPO.out.2.1
            have : l'.length = 1 ∨ l'.length = 2 ∨ l'.length = 3 := by omega
            rcases this with h1 | h1 | h1 <;> rw [h1] <;> omega
          have hMw : wrap64 (amount * (l'.length : Int)) = M := by rw [hM]; unfold wrap64; omega
          rw [hM] at hs1 hs2
          rw [hll] at hMw
          try simp only [Int.cast_ofNat_Int] at hMw
          have HS1 := Lib.hid hs1
          have HS2 := Lib.hid hs2
          have HIN := Lib.hid hin
          have HRD := Lib.hid hrd
          have HO1 := Lib.hid ho1
          have HL1 := Lib.hid hlen1
          have HL2 := Lib.hid hlen2
          clear hperm hsort hgw hrd hc ho1 hin hll hs1 hs2 hM hM0 hM1 hlen1 hlen2 hA1 hA2
          go_wp2_with fail
          refine (ents_any _).mono ?_
          rintro _ w2 ⟨rfl, ho2⟩
          have HO2 := Lib.hid ((HO1.out.alloc _).trans ho2)
          have l0 := ho2.cell' (alloc_new w1 #[.int .i64 kind, .slice (some ⟨g, 0, none⟩) ls.length cp] 28 _ 0 _ rfl rfl) (fun f => f)
          have l1 := ho2.cell' (alloc_new w1 #[.int .i64 kind, .slice (some ⟨g, 0, none⟩) ls.length cp] 28 _ 1 _ rfl rfl) (fun f => f)
          have HRD2 := Lib.hid (HRD.out.only (((Only.refl (fun _ => False) w1).alloc _).trans ho2) (fun _ _ f => f))
          clear ho2
          go_wp2_with fail
          refine (sum_any _ _ _ _ _ _ HRD2.out).mono ?_
          rintro _ w3 ⟨rfl, ho3⟩
          rw [HS1.out]
          have HO3 := Lib.hid (HO2.out.trans ho3)
          have m0 := ho3.cell' l0 (fun f => f)
          have m1 := ho3.cell' l1 (fun f => f)
          have HRD3 := Lib.hid (HRD2.out.only ho3 (fun _ _ f => f))
          clear ho3 l0 l1
          go_wp2_with fail
          refine (opp_some _ _ _ _ _ _ _ HRD3.out HL2.out HL1.out).mono ?_
          rintro _ w4 ⟨g4, cp4, rfl, hown, hgw4, ho4⟩
          have HO4 := Lib.hid (HO3.out.trans ho4)
          have HRD4 := Lib.hid (hown.reads (opp_len ls).symm (by rw [opp_len]; have := HL2.out; omega) (opp_in HIN.out))
          clear hown hgw4 ho4 m0 m1
          go_wp2_with fail
          refine (sum_any _ _ _ _ _ _ HRD4.out).mono ?_
          rintro _ w5 ⟨rfl, ho5⟩
          rw [HS2.out]
          have HO5 := Lib.hid (HO4.out.trans ho5)
          clear ho5
          go_wp2_with fail
          go_ret
          exact ⟨rfl, HO5.out⟩
        · have HNO : Hid (chk kind ls ≠ 0) := Lib.hid hc
          have HO1 := Lib.hid ho1
          generalize chk kind ls = c at *
          clear hc ho1 hperm hsort hgw hrd
          have hc1 : (c == 0) = false := by simpa using HNO.out
          have hc2 : (c != 0) = true := by simpa using HNO.out
          go_wp2_with fail
          refine (ents_any _).mono ?_
          rintro _ w2 ⟨rfl, ho2⟩
          have HO2 := Lib.hid ((HO1.out.alloc _).trans ho2)
          have l0 := ho2.cell' (alloc_new w1 #[.int .i64 0, .slice none 0 0] 28 _ 0 _ rfl rfl) (fun f => f)
          have l1 := ho2.cell' (alloc_new w1 #[.int .i64 0, .slice none 0 0] 28 _ 1 _ rfl rfl) (fun f => f)
          clear ho2
          go_wp2_with fail
          refine (ents_any _).mono ?_
          rintro _ w3 ⟨rfl, ho3⟩
          have HO3 := Lib.hid (HO2.out.trans ho3)
          have m0 := ho3.cell' l0 (fun f => f)
          have m1 := ho3.cell' l1 (fun f => f)
          clear ho3 l0 l1
          go_wp2_with fail
          refine (sum_none _).mono ?_
          rintro _ w4 ⟨rfl, ho4⟩
          have HO4 := Lib.hid (HO3.out.trans ho4)
          clear ho4 m0 m1
          go_wp2_with fail
          go_ret
          exact ⟨rfl, HO4.out⟩

theorem sums_walk (kind amount : Int) (a : Option Addr) (len cap : Nat) (l : List Int) (w : World) (h : IntsR w a len cap l) :
    Calls Try.prog 7 #[.int .i64 kind, .int .i64 amount, .slice a len cap] w fun e w' => e = .returned (.bool true) ∧ Below w.heap.size w w' :=
  (sums_any kind amount a len cap l w h).mono fun _ _ ⟨h1, h2⟩ => ⟨h1, h2.none⟩
end Go.Proofs.Ytlmkkpfhapkflab.entw
