/- JournalFull's walk. -/
import Derived.Test.YtdjiljkdnpmilaaJnL
namespace Go.Proofs.Ytdjiljkdnpmilaa.jnw
open Go.RowKit mem accm accn entw entm bigw intm
set_option linter.unusedVariables false

set_option maxRecDepth 100000 in
set_option maxHeartbeats 4000000 in
theorem full_walk (a0 a1 : Int) (w : World) : Calls Try.prog 6 #[.int .i64 a0, .int .i64 a1] w fun e w' => e = .returned (.bool true) ∧ Only (fun _ => False) w w' := by
  have HM := Lib.hid (fun w' => make_yes 1 4503599627370496 0 rfl ⟨by omega, by omega⟩ ⟨by omega, by omega⟩ (some ⟨w'.heap.size, 0, none⟩) 2 2 [1, 2] (path_yes ⟨by simp, by simp, by simp⟩) _ (two_reads1 w') (by omega) (by omega))
  have hz := tmod_inJ a0 40 (by decide) (by decide)
  have hy := tmod_inJ a1 10 (by decide) (by decide)
  generalize hzz : wrap64 ((IntKind.u64.wrap a0).tmod 40) = z at hz
  generalize hyy : wrap64 ((IntKind.u64.wrap a1).tmod 10) = y at hy
  obtain ⟨hz0, hz1⟩ := hz
  obtain ⟨hy0, hy1⟩ := hy
  obtain ⟨n, rfl⟩ : ∃ n : Nat, z = n := ⟨z.toNat, by omega⟩
  obtain ⟨m0, rfl⟩ : ∃ m : Nat, y = m := ⟨y.toNat, by omega⟩
  have HYY := Lib.hid hyy
  clear hyy
  obtain ⟨p, hp⟩ : ∃ x, x = w.heap.size := ⟨_, rfl⟩
  have HP := Lib.hid hp
  go_enter Try.func6, Try.ntmps6
  go_wp2_with fail
  refine (new_any w).mono ?_
  rintro _ w1 ⟨rfl, hj, ho⟩
  rw [← hp] at hj ⊢
  have HJ1 := Lib.hid hj
  have HO1 := Lib.hid ho
  have HPL := Lib.hid (World.block_lt_of_cell? w1 _ hj.c0)
  clear hj ho hp
  go_wp2_with fail
  simp only [hzz]
  clear hzz
  go_loopw [7] (fun i wr => ∃ k : Nat, k ≤ n ∧ i = .int .i64 k ∧ Hid (JnC wr p (.slice none 0 0) (min k 31) none) ∧ Hid (Only (fun q => q = p) w1 wr)) (fun i _ => n - (intOf i).toNat)
  case atStart => exact ⟨0, by omega, rfl, Lib.hid HJ1.out, Lib.hid (Only.refl _ _)⟩
  case round =>
    obtain ⟨k, hk, rfl, HJ, HW⟩ := hrel
    rename World => wr
    by_cases h8 : k < n
    · have hin : (k : Int) < (n : Int) := by omega
      by_cases h31 : k < 31
      · have hk31 : (k : Int) < 31 := by omega
        have HCL := Lib.hid (close_yes p k (.slice none 0 0) none wr (by have := HJ.out; rwa [Nat.min_eq_left (by omega : k ≤ 31)] at this) h31)
        have hkk : ((k + 1 : Nat) : Int) = (k : Int) + 1 := by omega
        rw [hkk] at HCL
        have HKK := Lib.hid hkk
        have hwk : wrap64 ((k : Int) + 1) = (k : Int) + 1 := by unfold wrap64; omega
        clear hkk
        go_wp2_with fail
        refine HCL.out.mono ?_
        rintro _ w2 ⟨rfl, hj, ho⟩
        have HJ2 : Hid (JnC w2 p (.slice none 0 0) (min (k + 1) 31) none) := Lib.hid (by rw [Nat.min_eq_left (by omega : k + 1 ≤ 31)]; exact hj)
        have HO2 := Lib.hid (HW.out.trans ho)
        clear hj ho HCL
        have hkb : ((k : Int) + 1 != (k : Int) + 1) = false := by simp
        go_wp2_with fail
        go_roundw
        case rel => exact ⟨k + 1, by omega, by go_num, HJ2, HO2⟩
        case measure => (simp [intOf]; omega)
      · have hk31 : ¬ (k : Int) < 31 := by omega
        have HCL := Lib.hid (close_full p (min k 31) (.slice none 0 0) none wr HJ.out (by omega))
        go_wp2_with fail
        refine HCL.out.mono ?_
        rintro _ w2 ⟨rfl, rfl⟩
        have HJ2 : Hid (JnC w2 p (.slice none 0 0) (min (k + 1) 31) none) := Lib.hid (by have h := HJ.out; rw [show min k 31 = min (k + 1) 31 by omega] at h; exact h)
        clear HCL
        go_wp2_with fail
        go_roundw
        case rel => exact ⟨k + 1, by omega, by go_num, HJ2, HW⟩
        case measure => (simp [intOf]; omega)
    · have hge : ¬ (k : Int) < (n : Int) := by omega
      obtain rfl : k = n := by omega
      obtain ⟨op, hop⟩ : ∃ op, op = min k 31 := ⟨_, rfl⟩
      have hmin : min (k : Int) 31 = (op : Int) := by omega
      have hop32 : op < 32 := by omega
      rw [← hop] at HJ
      clear hop
      go_wp2_with fail
      refine (HM.out _).mono ?_
      rintro e w2 ⟨g, cp, ls, hperm, hsort, hgw, ho, hrd, h⟩
      obtain rfl := leg2_of hperm hsort
      have h2 : e = .returned (.tuple #[.agg #[.int .i64 1, .slice (some ⟨g, 0, none⟩) 3 cp], .int .i64 0]) := by
        rcases h with ⟨_, h⟩ | ⟨h, _⟩
        · exact h
        · exact absurd rfl h
      subst h2
      have ho12 : Only (fun _ => False) wr w2 := ((Only.refl _ wr).alloc _).trans ho
      have hgp : ¬ g = p := by have := HPL.out; have := HW.out.size; have := ((Only.refl (fun _ => False) wr).alloc (.cells #[.int .i64 1, .int .i64 2] 3)).size; omega
      have hgl : g < w2.heap.size := readsL_lt hrd (by show 0 < 3; omega)
      obtain ⟨w3, hw3⟩ : ∃ x, x = w2.alloc (.cells #[.int .i64 1, .slice (some ⟨g, 0, none⟩) 3 cp] 25) := ⟨_, rfl⟩
      obtain ⟨q, hq⟩ : ∃ x, x = w2.heap.size := ⟨_, rfl⟩
      have ho3 : Only (fun _ => False) w2 w3 := by rw [hw3]; exact (Only.refl _ _).alloc _
      have hsz3 : w3.heap.size = w2.heap.size + 1 := by rw [hw3]; exact size_alloc _ _
      obtain ⟨S, hS⟩ : ∃ S : Nat → Prop, S = fun x => x = p ∨ w3.heap.size ≤ x := ⟨_, rfl⟩
      have HSX : Hid (∀ x, w3.heap.size ≤ x → S x) := Lib.hid (fun x e => by rw [hS]; exact .inr e)
      have HAT : Hid (JnAt S w3 p (.slice none 0 0) op none 0 (addN op 0) []) := Lib.hid (JnAt.new (HJ.out.only (ho12.trans ho3) (fun f => f)) (by rw [hS]; exact .inl rfl))
      have HGS : Hid (¬ S g) := Lib.hid (by rw [hS]; intro f; have f : g = p ∨ w3.heap.size ≤ g := f; omega)
      have HQS : Hid (¬ S q) := Lib.hid (by rw [hS]; intro f; have f : q = p ∨ w3.heap.size ≤ q := f; have := HPL.out; have := HW.out.size; have := ho12.size; omega)
      have HRD : Hid (ReadsL w3 (some ⟨g, 0, none⟩) 3 leg2) := Lib.hid (hrd.only ho3 (fun _ _ f => f))
      have HC0 : Hid (w3.cell? ⟨q, 0, none⟩ = some (.int .i64 1) ∧ w3.cell? ⟨q, 1, none⟩ = some (.slice (some ⟨g, 0, none⟩) 3 cp)) := Lib.hid ⟨by rw [hw3]; exact alloc_new _ _ _ _ _ _ hq rfl, by rw [hw3]; exact alloc_new _ _ _ _ _ _ hq rfl⟩
      have HO3 : Hid (Only (fun x => x = p) w1 w3) := Lib.hid (HW.out.trans ((ho12.trans ho3).mono (fun _ _ f => f.elim)))
      have HSP : Hid (∀ x, x < w.heap.size → ¬ S x) := Lib.hid (fun x hx => by rw [hS]; intro f; have f : x = p ∨ w3.heap.size ≤ x := f; have := HP.out; have := HO1.out.size; have := HO3.out.size; omega)
      clear hperm hsort hgw ho hrd h ho12 hgp hgl ho3 hsz3 HM HJ HW hS
      go_upto_region 10 with fail
      simp only [← hw3, ← hq]
      clear hw3 hq
      go_wp2_with fail
      refine (journals_any w3).mono ?_
      rintro _ w4 ⟨rfl, ho⟩
      have HO4 := Lib.hid ho
      clear ho
      go_wp2_with fail
      refine (period_any p op (.slice none 0 0) none w4 (HAT.out.quiet HO4.out).jc).mono ?_
      rintro _ w5 ⟨rfl, rfl⟩
      have hyy := HYY.out
      have hopb : ((op : Int) != (op : Int)) = false := by simp
      obtain ⟨M, hM⟩ : ∃ M : Nat, M = 122 + m0 := ⟨_, rfl⟩
      have hM2 : M ≤ 131 ∧ 122 ≤ M := by omega
      have hMw : 122 + (m0 : Int) = (M : Int) := by omega
      clear hM
      go_wp2_with fail
      simp only [hyy]
      clear hyy hmin hopb hMw
      go_loopw [13] (fun i wx => ∃ (k : Nat) (v : Value) (m : Option Nat) (nn : Nat) (L : List Ps), k ≤ M ∧ i = .int .i64 k ∧ L.length = min k 128 ∧ Hid (JnAt S wx p v op m nn (addN op (min k 128)) L) ∧ Hid (Only S w3 wx)) (fun i _ => M - (intOf i).toNat)
      case atStart => exact ⟨0, _, _, _, [], by omega, rfl, rfl, Lib.hid (HAT.out.quiet HO4.out), Lib.hid (HO4.out.mono (fun _ _ f => f.elim))⟩
      case round =>
        obtain ⟨k2, v, m, nn, L, hk2, rfl, hL, HJ, HW⟩ := hrel
        have HLN := Lib.hid hL
        clear hL
        rename World => wx
        have c0 := HW.out.cell' HC0.out.1 HQS.out
        have c1 := HW.out.cell' HC0.out.2 HQS.out
        by_cases h8 : k2 < M
        · have hin : (k2 : Int) < (M : Int) := by omega
          by_cases h128 : k2 < 128
          · have hk31 : (k2 : Int) < 128 := by omega
            have HPO := Lib.hid (post_yes p op v m nn (addN op k2) L 1 (some ⟨g, 0, none⟩) 3 cp leg2 wx (by have h := HJ.out; rwa [Nat.min_eq_left (by omega : k2 ≤ 128)] at h) (HRD.out.only HW.out (fun y e f => by cases e; exact HGS.out f)) rfl (by have := HLN.out; omega) (fun j hj => not_over hop32 h128 j hj) (fun y e f => by cases e; exact HGS.out f))
            have e : (L.length : Int) = (k2 : Int) := by have := HLN.out; omega
            rw [e] at HPO
            clear e
            go_wp2_with fail
            refine HPO.out.mono ?_
            rintro _ w6 ⟨rfl, v', m', nn', g', cp', hat, ho⟩
            have HJ2 : Hid (JnAt S w6 p v' op m' nn' (addN op (min (k2 + 1) 128)) (L ++ [⟨1, g', 3, cp', op, leg2⟩])) := Lib.hid (by
              rw [Nat.min_eq_left (by omega : k2 + 1 ≤ 128)]
              exact hat.mono (fun x _ e => e.elim (fun e => e) (fun e => HSX.out x (Nat.le_trans HW.out.size e))))
            have HO2 := Lib.hid (HW.out.trans ho)
            have HL2 : Hid ((L ++ [(⟨1, g', 3, cp', op, leg2⟩ : Ps)]).length = min (k2 + 1) 128) := Lib.hid (by have := HLN.out; simp; omega)
            clear hat ho HPO c0 c1
            have hkb : ((k2 : Int) != (k2 : Int)) = false := by simp
            go_wp2_with fail
            go_roundw
            case rel => exact ⟨k2 + 1, v', m', nn', _, by omega, by go_num, HL2.out, HJ2, HO2⟩
            case measure => (simp [intOf]; omega)
          · have hk31 : ¬ (k2 : Int) < 128 := by omega
            have HPO0 : Hid (∃ a9 c9, v = .slice a9 L.length c9) := Lib.hid (by obtain ⟨a9, c9, h9, -⟩ := HJ.out.own.reads; exact ⟨a9, c9, h9⟩)
            obtain ⟨a9, c9, rfl⟩ := HPO0.out
            have h128e : min k2 128 = 128 := by omega
            have HPO := Lib.hid (post_over p op a9 L.length c9 m nn (addN op 128) 1 (some ⟨g, 0, none⟩) 3 cp leg2 wx HJ.out.jc (by have h := HJ.out.mp; rwa [h128e] at h) (HRD.out.only HW.out (fun y e f => by cases e; exact HGS.out f)) rfl (by have := HLN.out; omega) ⟨0, by omega, is_over hop32⟩)
            clear HPO0 h128e
            go_wp2_with fail
            refine HPO.out.mono ?_
            rintro _ w6 ⟨rfl, ho⟩
            have HJ2 : Hid (JnAt S w6 p (.slice a9 L.length c9) op m nn (addN op (min (k2 + 1) 128)) L) := Lib.hid (by have h := HJ.out.quiet ho; rw [show min k2 128 = min (k2 + 1) 128 by omega] at h; exact h)
            have HO2 := Lib.hid (HW.out.trans (ho.mono (fun _ _ f => f.elim)))
            have HL2 : Hid (L.length = min (k2 + 1) 128) := Lib.hid (by have := HLN.out; omega)
            clear ho HPO c0 c1
            go_wp2_with fail
            go_roundw
            case rel => exact ⟨k2 + 1, _, _, _, _, by omega, by go_num, HL2.out, HJ2, HO2⟩
            case measure => (simp [intOf]; omega)
        · have hge2 : ¬ (k2 : Int) < (M : Int) := by omega
          obtain rfl : k2 = M := by omega
          obtain ⟨r, hr⟩ : ∃ r, r = min k2 128 := ⟨_, rfl⟩
          have hmin2 : min (k2 : Int) 128 = (r : Int) := by omega
          have hr1 : r ≤ 128 := by omega
          rw [← hr] at HJ HLN
          have HSM : Hid (wrap64 (((addN op r ⟨1, 0, 0⟩).getD noughts).sum) = (r : Int) * 9007199254740992) := Lib.hid (by rw [(addN_at hop32 r (by omega)).1, rowX_sum hop32]; unfold wrap64; omega)
          have HBA := Lib.hid (bal_any p op v m nn (addN op r) 1 0 0 (by unfold InA I64; dsimp only; omega) wx HJ.out.jc HJ.out.mp)
          rw [HSM.out] at HBA
          clear hr c0 c1
          go_wp2_with fail
          refine HBA.out.mono ?_
          rintro _ w6 ⟨rfl, ho⟩
          have HO6 : Hid (Only (fun _ => False) w w6) := Lib.hid (((HO1.out.then HO3.out (fun x hx e => by have := HP.out; have e : x = p := e; omega)).then HW.out (fun x hx e => HSP.out x hx e)).trans ho)
          obtain ⟨a9, c9, h9, -⟩ := HJ.out.own.reads
          subst h9
          have HLE := Lib.hid (len_any p op a9 L.length c9 m w6 (HJ.out.quiet ho).jc)
          have hll : (L.length : Int) = (r : Int) := by have := HLN.out; omega
          rw [hll] at HLE
          clear hll ho HBA
          go_wp2_with fail
          refine HLE.out.mono ?_
          rintro _ w7 ⟨rfl, rfl⟩
          go_wp2_with fail
          go_ret
          exact ⟨rfl, HO6.out⟩
theorem full_below (a0 a1 : Int) (w : World) : Calls Try.prog 6 #[.int .i64 a0, .int .i64 a1] w fun e w' => e = .returned (.bool true) ∧ Below w.heap.size w w' := (full_walk a0 a1 w).mono (fun e w' h => ⟨h.1, h.2.none⟩)
end Go.Proofs.Ytdjiljkdnpmilaa.jnw
