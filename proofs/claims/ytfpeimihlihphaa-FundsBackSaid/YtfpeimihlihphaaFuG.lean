/- Books: the document's DocMove. -/
import Derived.Test.YtfpeimihlihphaaFuF
import Derived.Deep.RegionHeld3
namespace Go.Proofs.Ytfpeimihlihphaa.fnd
open Go.RowKit mem tre
set_option linter.unusedVariables false

set_option maxRecDepth 100000 in
set_option maxHeartbeats 4000000 in
theorem rmove0_any (p : Nat) (A : List Ac) (a : Option Addr) (n c : Nat) (l : List Int) (x : Int) (w : World) (h : BkAt w p A) (hA : Bok A) (hr : ReadsI w a n l) (hc : n ≤ c) (hpa : ∀ y, a = some y → y.block ≠ p) : Calls Try.prog 68 #[.pointer (some ⟨p, 0, none⟩), .int .i64 0, .slice a n c, .int .i64 x] w (FDid p (shA A l x (-x) (0)) (shE A l x (-x) (0)) w) := by
  have HB := Lib.hid h
  have HA := Lib.hid hA
  have HR := Lib.hid hr
  have HPA := Lib.hid hpa
  have HIS := Lib.hid (rpath_any a n c l w hr hc)
  have hm := hr.2.1
  unfold maxLen at hm
  have HLN := Lib.hid hr.1
  clear h hA hr hpa
  by_cases hp : PathOk l
  · have HDP : Hid (decide (PathOk l) = true) := Lib.hid (decide_eq_true hp)
    by_cases hx : AmtOk x
    · have HE0 : Hid (shE A l x (-x) (0) = if badB A (-x) (0) l = true then 20 else 0) := Lib.hid (by unfold shE; rw [if_pos ⟨hp, hx⟩])
      have HT0 : Hid (shA A l x (-x) (0) = if shE A l x (-x) (0) = 0 then shT A l (-x) (0) else A) := Lib.hid rfl
      have HPK : Hid (∀ i, i < n → ∃ k : Nat, l.getD i 0 = k ∧ 1 ≤ k ∧ k < 33) := Lib.hid (fun i hi => by obtain ⟨k, q1, q2, q3, _⟩ := path_toNat hp i (by rw [HLN.out]; exact hi); exact ⟨k, q1, q2, q3⟩)
      have HSA : Hid (∀ i, i < n → nd (shT A (l.take i) (-x) (0)) (l.getD i 0) = nd A (l.getD i 0)) := Lib.hid (fun i hi => shT_at hp i (by rw [HLN.out]; exact hi) (-x) (0))
      have HSS : Hid (∀ i, i < n → shT A (l.take (i + 1)) (-x) (0) = (shT A (l.take i) (-x) (0)).set (l.getD i 0).toNat (shB (nd (shT A (l.take i) (-x) (0)) (l.getD i 0)) (-x) (0))) := Lib.hid (fun i hi => shT_take A l (-x) (0) i (by rw [HLN.out]; exact hi))
      have HDR : Hid (∀ i, i < n → badB A (-x) (0) (l.drop i) = ((decide ((nd A (l.getD i 0)).h + (-x) < 0) || decide ((nd A (l.getD i 0)).u + (0) < 0)) || badB A (-x) (0) (l.drop (i + 1)))) := Lib.hid (fun i hi => by rw [drop_at l i (by rw [HLN.out]; exact hi)]; rfl)
      have HND : Hid (∀ i, Parts (nd A i)) := Lib.hid (fun i => (HA.out.ok _).1)
      have HSL0 : Hid (∀ i, (shT A (l.take i) (-x) (0)).length = 33) := Lib.hid (fun i => (shT_len _ _ _ _).trans HA.out.len)
      have HF0 : Hid (shT A (l.take 0) (-x) (0) = A) := Lib.hid rfl
      have HFN : Hid (shT A (l.take n) (-x) (0) = shT A l (-x) (0)) := Lib.hid (by rw [List.take_of_length_le (by rw [HLN.out]; exact Nat.le_refl _)])
      have HBN : Hid (badB A (-x) (0) (l.drop n) = false) := Lib.hid (by rw [List.drop_eq_nil_of_le (by rw [HLN.out]; exact Nat.le_refl _)]; rfl)
      rw [HDP.out] at HIS
      obtain ⟨x1, x2⟩ := hx
      clear hp HDP
      generalize shE A l x (-x) (0) = E at *
      generalize shA A l x (-x) (0) = A' at *
      go_enter Try.func68, Try.ntmps68
      go_wp2_with fail
      refine (HIS.out).mono ?_
      rintro _ w1 ⟨rfl, ho⟩
      have HO1 := Lib.hid ho
      have HR1 := Lib.hid (HR.out.only ho (fun _ _ f => f))
      have HB1 := Lib.hid (HB.out.only ho (fun f => f))
      clear ho
      go_wp2_with fail
      go_loopw [9] (fun iv wr => ∃ i : Nat, i ≤ n ∧ iv = .int .i64 (i : Int) ∧ Hid (badB A (-x) (0) l = badB A (-x) (0) (l.drop i)) ∧ Hid (Only (fun _ => False) w1 wr)) (fun iv _ => n - (intOf iv).toNat)
      case atStart => exact ⟨0, by omega, rfl, Lib.hid rfl, Lib.hid (Only.refl _ _)⟩
      case round =>
        obtain ⟨i, hi, rfl, HD, HO⟩ := hrel
        rename World => wr
        by_cases h8 : i < n
        · obtain ⟨b, off, rfl, hcell⟩ := HR1.out.2.2.2.resolve_left (by omega)
          have cx := HO.out.cell' (hcell i h8) (fun f => f)
          have hi0 : (0 : Int) ≤ i := by omega
          have hi1 : (i : Int) < n := by omega
          obtain ⟨k, hk, k1, k2⟩ := HPK.out i h8
          rw [hk] at cx
          have hk2 : (k : Int) < 33 := by omega
          have hk0 : (0 : Int) ≤ k := by omega
          have hdd := HDR.out i h8
          have hpt := HND.out (l.getD i 0)
          rw [hk, nd_nat] at hdd hpt
          obtain ⟨c0, c1, c2, c3, c4⟩ := (HB1.out.only HO.out (fun f => f)).1 k k2
          generalize A.getD k zA = ac at *
          obtain ⟨at_, ac, ae, au, ah⟩ := ac
          dsimp only at c0 c1 c2 c3 c4 hdd
          obtain ⟨-, -, -, ⟨u1, u2⟩, ⟨g1, g2⟩⟩ := hpt
          dsimp only at u1 u2 g1 g2
          have HDD := Lib.hid (HD.out.trans hdd)
          have HUG : Hid (0 ≤ au ∧ 0 ≤ ah) := Lib.hid ⟨u1, g1⟩
          have HSL : Hid (∀ w', Only (fun _ => False) wr w' → w'.cell? ⟨b, off + i, none⟩ = some (.int .i64 (k : Int)) ∧ w'.cell? ⟨p, k * 5, none⟩ = some (.int .i64 at_) ∧ w'.cell? ⟨p, k * 5 + 1, none⟩ = some (.int .i64 ac) ∧ w'.cell? ⟨p, k * 5 + 2, none⟩ = some (.int .i64 ae) ∧ w'.cell? ⟨p, k * 5 + 3, none⟩ = some (.int .i64 au) ∧ w'.cell? ⟨p, k * 5 + 4, none⟩ = some (.int .i64 ah)) := Lib.hid (fun w' ho => ⟨ho.cell' cx (fun f => f), ho.cell' c0 (fun f => f), ho.cell' c1 (fun f => f), ho.cell' c2 (fun f => f), ho.cell' c3 (fun f => f), ho.cell' c4 (fun f => f)⟩)
          clear hcell hdd hk u1 u2 g1 g2
          go_upto_region 6 with fail
          refine wp_region_noPanic ?_
          refine late.region (fun w' => w'.cell? ⟨b, off + i, none⟩ = some (.int .i64 (k : Int)) ∧ w'.cell? ⟨p, k * 5, none⟩ = some (.int .i64 at_) ∧ w'.cell? ⟨p, k * 5 + 1, none⟩ = some (.int .i64 ac) ∧ w'.cell? ⟨p, k * 5 + 2, none⟩ = some (.int .i64 ae) ∧ w'.cell? ⟨p, k * 5 + 3, none⟩ = some (.int .i64 au) ∧ w'.cell? ⟨p, k * 5 + 4, none⟩ = some (.int .i64 ah)) (fun j => [].contains j) (by kernel_rfl) (HSL.out _ (Only.refl _ _).drew) (fun hHeld => ?_)
          obtain ⟨z0, hz0⟩ : ∃ x, x = wr.drew := ⟨_, rfl⟩
          rw [← hz0] at hHeld ⊢
          have hou : Only (fun _ => False) wr z0 := by rw [hz0]; exact (Only.refl _ _).drew
          clear hz0
          refine late.take (i := 0) [5, 6, 7, 8, 10] (v := ?_) rfl (by kernel_rfl) (by kernel_rfl) (by kernel_rfl) (by kernel_rfl) (fun _ _ _ h => h) (Or.inl ⟨by rfl, ?_⟩) (by assumption) ?_
          rotate_left 1
          · intro w' hSw
            try dsimp only at hSw
            go_simp
            try with_reducible rfl
          try simp only [List.getElem_toArray, List.getElem_cons_zero, Act.put, List.setIfInBounds_toArray, List.set_cons_zero, List.set_cons_succ]
          refine late.take (i := 1) [3, 4, 7, 8, 10] (v := ?_) rfl (by kernel_rfl) (by kernel_rfl) (by kernel_rfl) (by kernel_rfl) (fun _ _ _ h => h) (Or.inl ⟨by rfl, ?_⟩) (by assumption) ?_
          rotate_left 1
          · intro w' hSw
            try dsimp only at hSw
            go_simp
            try with_reducible rfl
          try simp only [List.getElem_toArray, List.getElem_cons_zero, List.getElem_cons_succ, Act.put, List.setIfInBounds_toArray, List.set_cons_zero, List.set_cons_succ]
          refine late.take (i := 2) [3, 4, 7, 8, 10] (v := ?_) rfl (by kernel_rfl) (by kernel_rfl) (by kernel_rfl) (by kernel_rfl) (fun _ _ _ h => h) (Or.inl ⟨by rfl, ?_⟩) (by assumption) ?_
          rotate_left 1
          · intro w' hSw
            try dsimp only at hSw
            go_simp
            try with_reducible rfl
          try simp only [List.getElem_toArray, List.getElem_cons_zero, List.getElem_cons_succ, Act.put, List.setIfInBounds_toArray, List.set_cons_zero, List.set_cons_succ]
          refine late.take (i := 3) [4, 7, 8, 10] (v := ?_) rfl (by kernel_rfl) (by kernel_rfl) (by kernel_rfl) (by kernel_rfl) (fun _ _ _ h => h) (Or.inl ⟨by rfl, ?_⟩) (by assumption) ?_
          rotate_left 1
          · intro w' hSw
            try dsimp only at hSw
            go_simp
            try with_reducible rfl
          try simp only [List.getElem_toArray, List.getElem_cons_zero, List.getElem_cons_succ, Act.put, List.setIfInBounds_toArray, List.set_cons_zero, List.set_cons_succ]
          refine late.take (i := 4) [7, 8, 10] (v := ?_) rfl (by kernel_rfl) (by kernel_rfl) (by kernel_rfl) (by kernel_rfl) (fun _ _ _ h => h) (Or.inl ⟨by rfl, ?_⟩) (by assumption) ?_
          rotate_left 1
          · intro w' hSw
            try dsimp only at hSw
            go_simp
            try with_reducible rfl
          try simp only [List.getElem_toArray, List.getElem_cons_zero, List.getElem_cons_succ, Act.put, List.setIfInBounds_toArray, List.set_cons_zero, List.set_cons_succ]
          refine late.take (i := 5) [6, 7, 8, 10] (v := ?_) rfl (by kernel_rfl) (by kernel_rfl) (by kernel_rfl) (by kernel_rfl) (fun _ _ _ h => h) (Or.inl ⟨by rfl, ?_⟩) (by assumption) ?_
          rotate_left 1
          · intro w' hSw
            try dsimp only at hSw
            go_simp
            try with_reducible rfl
          try simp only [List.getElem_toArray, List.getElem_cons_zero, List.getElem_cons_succ, Act.put, List.setIfInBounds_toArray, List.set_cons_zero, List.set_cons_succ]
          refine late.take (i := 6) [7, 8, 10] (v := ?_) rfl (by kernel_rfl) (by kernel_rfl) (by kernel_rfl) (by kernel_rfl) (fun _ _ _ h => h) (Or.inl ⟨by rfl, ?_⟩) (by assumption) ?_
          rotate_left 1
          · intro w' hSw
            try dsimp only at hSw
            go_simp
            try with_reducible rfl
          try simp only [List.getElem_toArray, List.getElem_cons_zero, List.getElem_cons_succ, Act.put, List.setIfInBounds_toArray, List.set_cons_zero, List.set_cons_succ]
          refine late.take (i := 7) [8, 10] (v := ?_) rfl (by kernel_rfl) (by kernel_rfl) (by kernel_rfl) (by kernel_rfl) (fun _ _ _ h => h) (Or.inl ⟨by rfl, ?_⟩) (by assumption) ?_
          rotate_left 1
          · intro w' hSw
            try dsimp only at hSw
            go_simp
            try with_reducible rfl
          try simp only [List.getElem_toArray, List.getElem_cons_zero, List.getElem_cons_succ, Act.put, List.setIfInBounds_toArray, List.set_cons_zero, List.set_cons_succ]
          refine late.take (i := 8) [10] (v := ?_) rfl (by kernel_rfl) (by kernel_rfl) (by kernel_rfl) (by kernel_rfl) (fun _ _ _ h => h) (Or.inl ⟨by rfl, ?_⟩) (by assumption) ?_
          rotate_left 1
          · intro w' hSw
            try dsimp only at hSw
            go_simp
            try with_reducible rfl
          try simp only [List.getElem_toArray, List.getElem_cons_zero, List.getElem_cons_succ, Act.put, List.setIfInBounds_toArray, List.set_cons_zero, List.set_cons_succ]
          refine late.ready (rs := [9]) (by kernel_rfl) (by simp) ?_
          refine late.Each.cons rfl (fun K hK => ?_) late.Each.nil
          try simp only [List.getElem_toArray, List.getElem_cons_zero, List.getElem_cons_succ]
          go_simp
          obtain ⟨z1, hz1⟩ : ∃ x, x = z0.alloc (.cells #[.int .i64 0, .int .i64 0, .int .i64 0, .int .i64 0, .int .i64 0] 69) := ⟨_, rfl⟩
          obtain ⟨g, hg⟩ : ∃ x, x = z0.heap.size := ⟨_, rfl⟩
          rw [← hz1, ← hg]
          have ho1 : Only (fun _ => False) wr z1 := by rw [hz1]; exact hou.alloc _
          have hgs : wr.heap.size ≤ g := by rw [hg]; exact hou.size
          have hfive : Five z1 g := by rw [hz1]; exact Five.new hg
          have HFV := Lib.hid hfive
          obtain ⟨⟨y0, hy0'⟩, ⟨y1, hy1'⟩, ⟨y2, hy2'⟩, ⟨y3, hy3'⟩, ⟨y4, hy4'⟩, f0, f1, f2, f3, f4⟩ := hfive
          clear hz1 hg hou
          refine hK.out _ _ (fun _ => HSL.out _ ho1) (fun hHeld1 => ?_)
          replace hHeld1 := hHeld1 rfl
          clear hK K
          try simp only [List.getElem_toArray, List.getElem_cons_zero, List.getElem_cons_succ, Act.put, List.setIfInBounds_toArray, List.set_cons_zero, List.set_cons_succ]
          refine late.ready (rs := [10]) (by kernel_rfl) (by simp) ?_
          refine late.Each.cons rfl (fun K hK => ?_) late.Each.nil
          try simp only [List.getElem_toArray, List.getElem_cons_zero, List.getElem_cons_succ]
          go_simp
          obtain ⟨z2, hz2⟩ : ∃ x, x = put50 z1 g (.int .i64 at_) (.int .i64 ac) (.int .i64 ae) (.int .i64 au) (.int .i64 ah) := ⟨_, rfl⟩
          have HZ2 := Lib.hid hz2
          unfold put50 at hz2
          rw [← hz2]
          have ho2 : Only (fun _ => False) wr z2 := ho1.then (by rw [HZ2.out, put50_eq]; exact put5_only _ _ _ _ _ _ _ _) (fun i hi e => by omega)
          have hbx : (z2.cell? ⟨g, 0, none⟩ = some (.int .i64 at_) ∧ z2.cell? ⟨g, 1, none⟩ = some (.int .i64 ac) ∧ z2.cell? ⟨g, 2, none⟩ = some (.int .i64 ae) ∧ z2.cell? ⟨g, 3, none⟩ = some (.int .i64 au) ∧ z2.cell? ⟨g, 4, none⟩ = some (.int .i64 ah)) := by rw [HZ2.out]; exact HFV.out.put _ _ _ _ _
          obtain ⟨e0, e1, e2, e3, e4⟩ := hbx
          replace f3 : z2.frozen? ⟨g, 3, none⟩ = false := by rw [HZ2.out, put50_eq, put5_froz]; exact f3
          replace f4 : z2.frozen? ⟨g, 4, none⟩ = false := by rw [HZ2.out, put50_eq, put5_froz]; exact f4
          clear hz2 HZ2 HFV hy0' hy1' hy2' hy3' hy4' f0 f1 f2 ho1
          refine hK.out _ _ (fun _ => HSL.out _ ho2) (fun hHeld2 => ?_)
          replace hHeld2 := hHeld2 rfl
          clear hK K
          try simp only [List.getElem_toArray, List.getElem_cons_zero, List.getElem_cons_succ, Act.put, List.setIfInBounds_toArray, List.set_cons_zero, List.set_cons_succ]
          refine late.done (by kernel_rfl) ?_ _
          refine NoPanic.normal ?_
          have HO9 := Lib.hid (HO.out.trans ho2)
          clear ho2 HSL
          by_cases hb1 : ah < x
          · have HFA : Hid (E = 20 ∧ A' = A) := Lib.hid (by
              have hbt : badB A (-x) (0) l = true := by
                rw [HDD.out]
                have : ah + (-x) < 0 := by omega
                simp [this]
              have e : E = 20 := by rw [HE0.out, if_pos hbt]
              exact ⟨e, by rw [HT0.out, e]; rfl⟩)
            go_wp2_with fail
            go_ret
            exact ⟨by rw [HFA.out.1]; rfl, by rw [HFA.out.2]; exact HB1.out.only HO9.out (fun f => f), Only.p p (HO1.out.trans HO9.out)⟩
          · have HD2 : Hid (badB A (-x) (0) l = badB A (-x) (0) (l.drop (i + 1))) := Lib.hid (by
              rw [HDD.out]
              have h1 : ¬ (ah + (-x) < 0) := by have := HUG.out; omega
              have h2 : ¬ (au + (0) < 0) := by have := HUG.out; omega
              simp only [h1, h2]
              simp)
            go_wp2_with fail
            go_roundw
            case rel => exact ⟨i + 1, by omega, by go_num, HD2, HO9⟩
            case measure => simp [intOf]; omega
        · have hin : i = n := by omega
          subst hin
          obtain ⟨n, hnn⟩ : ∃ n, n = i := ⟨i, rfl⟩
          subst hnn
          have HFA : Hid (E = 0 ∧ A' = shT A l (-x) (0)) := Lib.hid (by
            have e : E = 0 := by rw [HE0.out, HD.out, HBN.out]; rfl
            exact ⟨e, by rw [HT0.out, if_pos e]⟩)
          have HB2 := Lib.hid (HB1.out.only HO.out (fun f => f))
          have HR2 := Lib.hid (HR1.out.only HO.out (fun _ _ f => f))
          have HO2 := Lib.hid (HO1.out.trans HO.out)
          rename World => w2
          clear HDR HD HB1 HR1 HO1 HO HBN
          go_wp2_with fail
          go_loopw [11] (fun iv wr => ∃ i : Nat, i ≤ n ∧ iv = .int .i64 (i : Int) ∧ Hid (BkAt wr p (shT A (l.take i) (-x) (0))) ∧ Hid (Only (fun q => q = p) w2 wr)) (fun iv _ => n - (intOf iv).toNat)
          case atStart => exact ⟨0, by omega, rfl, Lib.hid (by rw [HF0.out]; exact HB2.out), Lib.hid (Only.refl _ _)⟩
          case round =>
            obtain ⟨i, hi, rfl, HBJ, HO⟩ := hrel
            rename World => wr
            by_cases h8 : i < n
            · obtain ⟨b, off, rfl, hcell⟩ := HR2.out.2.2.2.resolve_left (by omega)
              have hbp : ¬ b = p := HPA.out ⟨b, off, none⟩ rfl
              have cx := HO.out.cell' (hcell i h8) hbp
              have hi0 : (0 : Int) ≤ i := by omega
              have hi1 : (i : Int) < n := by omega
              obtain ⟨k, hk, k1, k2⟩ := HPK.out i h8
              rw [hk] at cx
              have hk2 : (k : Int) < 33 := by omega
              have hk0 : (0 : Int) ≤ k := by omega
              have hpt := HND.out (l.getD i 0)
              have hat := HSA.out i h8
              have hss := HSS.out i h8
              have hsl := HSL0.out i
              rw [hat] at hss
              rw [hk, nd_nat] at hpt
              rw [hk, nd_nat, nd_nat] at hat
              rw [hk, nd_nat, Int.toNat_natCast] at hss
              have HSS2 := Lib.hid hss
              have hbj := HBJ.out
              generalize shT A (l.take i) (-x) (0) = AJ at *
              obtain ⟨c0, c1, c2, c3, c4⟩ := hbj.1 k k2
              rw [hat] at c0 c1 c2 c3 c4
              generalize A.getD k zA = ac at *
              obtain ⟨at_, ac, ae, au, ah⟩ := ac
              dsimp only at c0 c1 c2 c3 c4
              obtain ⟨-, -, -, ⟨u1, u2⟩, ⟨g1, g2⟩⟩ := hpt
              dsimp only at u1 u2 g1 g2
              have q1 : IntKind.i64.wrap (ah - x) = ah - x := w64 _ (by omega) (by omega)
              have q2 : IntKind.i64.wrap (au + x) = au + x := w64 _ (by omega) (by omega)
              have q3 : IntKind.i64.wrap (au - x) = au - x := w64 _ (by omega) (by omega)
              have HAT := Lib.hid hat
              have HSLJ := Lib.hid hsl
              have HPUT : Hid (∀ wy, BkAt wy p AJ → BkAt (put5 wy p (k * 5) (.int .i64 at_) (.int .i64 ac) (.int .i64 ae) (.int .i64 (au)) (.int .i64 (ah - x))) p (shT A (l.take (i + 1)) (-x) (0))) := Lib.hid (fun wy hy => by
                have := hy.put HSLJ.out k ⟨at_, ac, ae, au, ah - x⟩ k2
                rw [HSS2.out]
                have e : shB ⟨at_, ac, ae, au, ah⟩ (-x) (0) = ⟨at_, ac, ae, au, ah - x⟩ := by simp only [shB, Ac.mk.injEq, true_and]; omega
                rw [e]
                exact this)
              have HSL : Hid (∀ w', Only (fun _ => False) wr w' → w'.cell? ⟨b, off + i, none⟩ = some (.int .i64 (k : Int)) ∧ w'.cell? ⟨p, k * 5, none⟩ = some (.int .i64 at_) ∧ w'.cell? ⟨p, k * 5 + 1, none⟩ = some (.int .i64 ac) ∧ w'.cell? ⟨p, k * 5 + 2, none⟩ = some (.int .i64 ae) ∧ w'.cell? ⟨p, k * 5 + 3, none⟩ = some (.int .i64 au) ∧ w'.cell? ⟨p, k * 5 + 4, none⟩ = some (.int .i64 ah)) := Lib.hid (fun w' ho => ⟨ho.cell' cx (fun f => f), ho.cell' c0 (fun f => f), ho.cell' c1 (fun f => f), ho.cell' c2 (fun f => f), ho.cell' c3 (fun f => f), ho.cell' c4 (fun f => f)⟩)
              clear hcell hk hat hss hsl hbj u1 u2 g1 g2
              go_upto_region 12 with fail
              refine wp_region_noPanic ?_
              refine late.region (fun w' => w'.cell? ⟨b, off + i, none⟩ = some (.int .i64 (k : Int)) ∧ w'.cell? ⟨p, k * 5, none⟩ = some (.int .i64 at_) ∧ w'.cell? ⟨p, k * 5 + 1, none⟩ = some (.int .i64 ac) ∧ w'.cell? ⟨p, k * 5 + 2, none⟩ = some (.int .i64 ae) ∧ w'.cell? ⟨p, k * 5 + 3, none⟩ = some (.int .i64 au) ∧ w'.cell? ⟨p, k * 5 + 4, none⟩ = some (.int .i64 ah)) (fun j => [].contains j) (by kernel_rfl) (HSL.out _ (Only.refl _ _).drew) (fun hHeld => ?_)
              obtain ⟨z0, hz0⟩ : ∃ x, x = wr.drew := ⟨_, rfl⟩
              rw [← hz0] at hHeld ⊢
              have hou : Only (fun _ => False) wr z0 := by rw [hz0]; exact (Only.refl _ _).drew
              clear hz0
              refine late.take (i := 0) [5, 6, 7, 8, 10] (v := ?_) rfl (by kernel_rfl) (by kernel_rfl) (by kernel_rfl) (by kernel_rfl) (fun _ _ _ h => h) (Or.inl ⟨by rfl, ?_⟩) (by assumption) ?_
              rotate_left 1
              · intro w' hSw
                try dsimp only at hSw
                go_simp
                try with_reducible rfl
              try simp only [List.getElem_toArray, List.getElem_cons_zero, Act.put, List.setIfInBounds_toArray, List.set_cons_zero, List.set_cons_succ]
              refine late.take (i := 1) [3, 4, 7, 8, 10] (v := ?_) rfl (by kernel_rfl) (by kernel_rfl) (by kernel_rfl) (by kernel_rfl) (fun _ _ _ h => h) (Or.inl ⟨by rfl, ?_⟩) (by assumption) ?_
              rotate_left 1
              · intro w' hSw
                try dsimp only at hSw
                go_simp
                try with_reducible rfl
              try simp only [List.getElem_toArray, List.getElem_cons_zero, List.getElem_cons_succ, Act.put, List.setIfInBounds_toArray, List.set_cons_zero, List.set_cons_succ]
              refine late.take (i := 2) [3, 4, 7, 8, 10] (v := ?_) rfl (by kernel_rfl) (by kernel_rfl) (by kernel_rfl) (by kernel_rfl) (fun _ _ _ h => h) (Or.inl ⟨by rfl, ?_⟩) (by assumption) ?_
              rotate_left 1
              · intro w' hSw
                try dsimp only at hSw
                go_simp
                try with_reducible rfl
              try simp only [List.getElem_toArray, List.getElem_cons_zero, List.getElem_cons_succ, Act.put, List.setIfInBounds_toArray, List.set_cons_zero, List.set_cons_succ]
              refine late.take (i := 3) [4, 7, 8, 10] (v := ?_) rfl (by kernel_rfl) (by kernel_rfl) (by kernel_rfl) (by kernel_rfl) (fun _ _ _ h => h) (Or.inl ⟨by rfl, ?_⟩) (by assumption) ?_
              rotate_left 1
              · intro w' hSw
                try dsimp only at hSw
                go_simp
                try with_reducible rfl
              try simp only [List.getElem_toArray, List.getElem_cons_zero, List.getElem_cons_succ, Act.put, List.setIfInBounds_toArray, List.set_cons_zero, List.set_cons_succ]
              refine late.take (i := 4) [7, 8, 10] (v := ?_) rfl (by kernel_rfl) (by kernel_rfl) (by kernel_rfl) (by kernel_rfl) (fun _ _ _ h => h) (Or.inl ⟨by rfl, ?_⟩) (by assumption) ?_
              rotate_left 1
              · intro w' hSw
                try dsimp only at hSw
                go_simp
                try with_reducible rfl
              try simp only [List.getElem_toArray, List.getElem_cons_zero, List.getElem_cons_succ, Act.put, List.setIfInBounds_toArray, List.set_cons_zero, List.set_cons_succ]
              refine late.take (i := 5) [6, 7, 8, 10] (v := ?_) rfl (by kernel_rfl) (by kernel_rfl) (by kernel_rfl) (by kernel_rfl) (fun _ _ _ h => h) (Or.inl ⟨by rfl, ?_⟩) (by assumption) ?_
              rotate_left 1
              · intro w' hSw
                try dsimp only at hSw
                go_simp
                try with_reducible rfl
              try simp only [List.getElem_toArray, List.getElem_cons_zero, List.getElem_cons_succ, Act.put, List.setIfInBounds_toArray, List.set_cons_zero, List.set_cons_succ]
              refine late.take (i := 6) [7, 8, 10] (v := ?_) rfl (by kernel_rfl) (by kernel_rfl) (by kernel_rfl) (by kernel_rfl) (fun _ _ _ h => h) (Or.inl ⟨by rfl, ?_⟩) (by assumption) ?_
              rotate_left 1
              · intro w' hSw
                try dsimp only at hSw
                go_simp
                try with_reducible rfl
              try simp only [List.getElem_toArray, List.getElem_cons_zero, List.getElem_cons_succ, Act.put, List.setIfInBounds_toArray, List.set_cons_zero, List.set_cons_succ]
              refine late.take (i := 7) [8, 10] (v := ?_) rfl (by kernel_rfl) (by kernel_rfl) (by kernel_rfl) (by kernel_rfl) (fun _ _ _ h => h) (Or.inl ⟨by rfl, ?_⟩) (by assumption) ?_
              rotate_left 1
              · intro w' hSw
                try dsimp only at hSw
                go_simp
                try with_reducible rfl
              try simp only [List.getElem_toArray, List.getElem_cons_zero, List.getElem_cons_succ, Act.put, List.setIfInBounds_toArray, List.set_cons_zero, List.set_cons_succ]
              refine late.take (i := 8) [10] (v := ?_) rfl (by kernel_rfl) (by kernel_rfl) (by kernel_rfl) (by kernel_rfl) (fun _ _ _ h => h) (Or.inl ⟨by rfl, ?_⟩) (by assumption) ?_
              rotate_left 1
              · intro w' hSw
                try dsimp only at hSw
                go_simp
                try with_reducible rfl
              try simp only [List.getElem_toArray, List.getElem_cons_zero, List.getElem_cons_succ, Act.put, List.setIfInBounds_toArray, List.set_cons_zero, List.set_cons_succ]
              refine late.ready (rs := [9]) (by kernel_rfl) (by simp) ?_
              refine late.Each.cons rfl (fun K hK => ?_) late.Each.nil
              try simp only [List.getElem_toArray, List.getElem_cons_zero, List.getElem_cons_succ]
              go_simp
              obtain ⟨z1, hz1⟩ : ∃ x, x = z0.alloc (.cells #[.int .i64 0, .int .i64 0, .int .i64 0, .int .i64 0, .int .i64 0] 69) := ⟨_, rfl⟩
              obtain ⟨g, hg⟩ : ∃ x, x = z0.heap.size := ⟨_, rfl⟩
              rw [← hz1, ← hg]
              have ho1 : Only (fun _ => False) wr z1 := by rw [hz1]; exact hou.alloc _
              have hgs : wr.heap.size ≤ g := by rw [hg]; exact hou.size
              have hfive : Five z1 g := by rw [hz1]; exact Five.new hg
              have HFV := Lib.hid hfive
              obtain ⟨⟨y0, hy0'⟩, ⟨y1, hy1'⟩, ⟨y2, hy2'⟩, ⟨y3, hy3'⟩, ⟨y4, hy4'⟩, f0, f1, f2, f3, f4⟩ := hfive
              clear hz1 hg hou
              refine hK.out _ _ (fun _ => HSL.out _ ho1) (fun hHeld1 => ?_)
              replace hHeld1 := hHeld1 rfl
              clear hK K
              try simp only [List.getElem_toArray, List.getElem_cons_zero, List.getElem_cons_succ, Act.put, List.setIfInBounds_toArray, List.set_cons_zero, List.set_cons_succ]
              refine late.ready (rs := [10]) (by kernel_rfl) (by simp) ?_
              refine late.Each.cons rfl (fun K hK => ?_) late.Each.nil
              try simp only [List.getElem_toArray, List.getElem_cons_zero, List.getElem_cons_succ]
              go_simp
              obtain ⟨z2, hz2⟩ : ∃ x, x = put50 z1 g (.int .i64 at_) (.int .i64 ac) (.int .i64 ae) (.int .i64 au) (.int .i64 ah) := ⟨_, rfl⟩
              have HZ2 := Lib.hid hz2
              unfold put50 at hz2
              rw [← hz2]
              have ho2 : Only (fun _ => False) wr z2 := ho1.then (by rw [HZ2.out, put50_eq]; exact put5_only _ _ _ _ _ _ _ _) (fun i hi e => by omega)
              have hbx : (z2.cell? ⟨g, 0, none⟩ = some (.int .i64 at_) ∧ z2.cell? ⟨g, 1, none⟩ = some (.int .i64 ac) ∧ z2.cell? ⟨g, 2, none⟩ = some (.int .i64 ae) ∧ z2.cell? ⟨g, 3, none⟩ = some (.int .i64 au) ∧ z2.cell? ⟨g, 4, none⟩ = some (.int .i64 ah)) := by rw [HZ2.out]; exact HFV.out.put _ _ _ _ _
              obtain ⟨e0, e1, e2, e3, e4⟩ := hbx
              replace f3 : z2.frozen? ⟨g, 3, none⟩ = false := by rw [HZ2.out, put50_eq, put5_froz]; exact f3
              replace f4 : z2.frozen? ⟨g, 4, none⟩ = false := by rw [HZ2.out, put50_eq, put5_froz]; exact f4
              clear hz2 HZ2 HFV hy0' hy1' hy2' hy3' hy4' f0 f1 f2 ho1
              refine hK.out _ _ (fun _ => HSL.out _ ho2) (fun hHeld2 => ?_)
              replace hHeld2 := hHeld2 rfl
              clear hK K
              try simp only [List.getElem_toArray, List.getElem_cons_zero, List.getElem_cons_succ, Act.put, List.setIfInBounds_toArray, List.set_cons_zero, List.set_cons_succ]
              refine late.done (by kernel_rfl) ?_ _
              refine NoPanic.normal ?_
              have ho3 := ho2
              have HO9 := Lib.hid (HO.out.trans (Only.p p ho2))
              have HOZ := Lib.hid ho2
              have f3' := f3
              clear HSL
              go_upto_region 19 with fail
              obtain ⟨w6, hw6⟩ : ∃ zz, zz = z2.setCell ⟨g, 4, none⟩ (.int .i64 (ah - x)) := ⟨_, rfl⟩
              simp only [← hw6]
              have d0 : w6.cell? ⟨g, 0, none⟩ = some (.int .i64 (at_)) := by rw [hw6]; rw [cell_other (off_ne (by omega))]; exact e0
              have d1 : w6.cell? ⟨g, 1, none⟩ = some (.int .i64 (ac)) := by rw [hw6]; rw [cell_other (off_ne (by omega))]; exact e1
              have d2 : w6.cell? ⟨g, 2, none⟩ = some (.int .i64 (ae)) := by rw [hw6]; rw [cell_other (off_ne (by omega))]; exact e2
              have d3 : w6.cell? ⟨g, 3, none⟩ = some (.int .i64 (au)) := by rw [hw6]; rw [cell_other (off_ne (by omega))]; exact e3
              have d4 : w6.cell? ⟨g, 4, none⟩ = some (.int .i64 (ah - x)) := by rw [hw6]; exact cell_same e4
              have ho6 : Only (fun _ => False) wr w6 := ho2.then (by rw [hw6]; exact Only.set (fun q => q = g) z2 g 4 _ rfl) (fun i hi e => by omega)
              have cx6 := ho6.cell' cx (fun f => f)
              have HO6 := Lib.hid ho6
              clear hw6 e0 e1 e2 e3 e4 f3 f4 f3' ho2 ho3 ho6 cx HO9 HOZ
              refine wp_region_noPanic ?_
              refine late.region (fun w' => ∀ q, w'.cell? q = w6.cell? q) (fun j => [9].contains j) (by kernel_rfl) (fun q => by simp) (fun hHeld => ?_)
              obtain ⟨z0, hz0⟩ : ∃ x, x = w6.drew := ⟨_, rfl⟩
              rw [← hz0] at hHeld ⊢
              have hou : Only (fun _ => False) w6 z0 := by rw [hz0]; exact (Only.refl _ _).drew
              have ho7 := HO6.out.trans hou
              have hrm := ((HBJ.out.only ho7 (fun f => f)).room k k2)
              obtain ⟨⟨u0, y0⟩, ⟨u1, y1⟩, ⟨u2, y2⟩, ⟨u3, y3⟩, ⟨u4, y4⟩, f0, f1, f2, f3, f4⟩ := hrm
              have HS9 := Lib.hid (HPUT.out _ (HBJ.out.only ho7 (fun f => f)))
              have HO9 := Lib.hid ((Only.p p ho7).trans (put5_only z0 p (k * 5) (.int .i64 at_) (.int .i64 ac) (.int .i64 ae) (.int .i64 (au)) (.int .i64 (ah - x))))
              unfold put5 at HS9 HO9
              clear ho7
              clear hou hz0
              refine late.take (i := 0) [6, 7, 8, 9] (v := ?_) rfl (by kernel_rfl) (by kernel_rfl) (by kernel_rfl) (by kernel_rfl) (fun _ _ _ h => h) (Or.inl ⟨by rfl, ?_⟩) (by assumption) ?_
              rotate_left 1
              · intro w' hSw
                try dsimp only at hSw
                go_simp
                try with_reducible rfl
              try simp only [List.getElem_toArray, List.getElem_cons_zero, Act.put, List.setIfInBounds_toArray, List.set_cons_zero, List.set_cons_succ]
              refine late.take (i := 1) [3, 4, 8, 9] (v := ?_) rfl (by kernel_rfl) (by kernel_rfl) (by kernel_rfl) (by kernel_rfl) (fun _ _ _ h => h) (Or.inl ⟨by rfl, ?_⟩) (by assumption) ?_
              rotate_left 1
              · intro w' hSw
                try dsimp only at hSw
                go_simp
                try with_reducible rfl
              try simp only [List.getElem_toArray, List.getElem_cons_zero, List.getElem_cons_succ, Act.put, List.setIfInBounds_toArray, List.set_cons_zero, List.set_cons_succ]
              refine late.take (i := 2) [3, 4, 8, 9] (v := ?_) rfl (by kernel_rfl) (by kernel_rfl) (by kernel_rfl) (by kernel_rfl) (fun _ _ _ h => h) (Or.inl ⟨by rfl, ?_⟩) (by assumption) ?_
              rotate_left 1
              · intro w' hSw
                try dsimp only at hSw
                go_simp
                try with_reducible rfl
              try simp only [List.getElem_toArray, List.getElem_cons_zero, List.getElem_cons_succ, Act.put, List.setIfInBounds_toArray, List.set_cons_zero, List.set_cons_succ]
              refine late.take (i := 3) [4, 8, 9] (v := ?_) rfl (by kernel_rfl) (by kernel_rfl) (by kernel_rfl) (by kernel_rfl) (fun _ _ _ h => h) (Or.inl ⟨by rfl, ?_⟩) (by assumption) ?_
              rotate_left 1
              · intro w' hSw
                try dsimp only at hSw
                go_simp
                try with_reducible rfl
              try simp only [List.getElem_toArray, List.getElem_cons_zero, List.getElem_cons_succ, Act.put, List.setIfInBounds_toArray, List.set_cons_zero, List.set_cons_succ]
              refine late.take (i := 4) [8, 9] (v := ?_) rfl (by kernel_rfl) (by kernel_rfl) (by kernel_rfl) (by kernel_rfl) (fun _ _ _ h => h) (Or.inl ⟨by rfl, ?_⟩) (by assumption) ?_
              rotate_left 1
              · intro w' hSw
                try dsimp only at hSw
                go_simp
                try with_reducible rfl
              try simp only [List.getElem_toArray, List.getElem_cons_zero, List.getElem_cons_succ, Act.put, List.setIfInBounds_toArray, List.set_cons_zero, List.set_cons_succ]
              refine late.take (i := 5) [8, 9] (v := ?_) rfl (by kernel_rfl) (by kernel_rfl) (by kernel_rfl) (by kernel_rfl) (fun _ _ _ h => h) (Or.inl ⟨by rfl, ?_⟩) (by assumption) ?_
              rotate_left 1
              · intro w' hSw
                try dsimp only at hSw
                go_simp
                try with_reducible rfl
              try simp only [List.getElem_toArray, List.getElem_cons_zero, List.getElem_cons_succ, Act.put, List.setIfInBounds_toArray, List.set_cons_zero, List.set_cons_succ]
              refine late.take (i := 6) [7, 8, 9] (v := ?_) rfl (by kernel_rfl) (by kernel_rfl) (by kernel_rfl) (by kernel_rfl) (fun _ _ _ h => h) (Or.inl ⟨by rfl, ?_⟩) (by assumption) ?_
              rotate_left 1
              · intro w' hSw
                try dsimp only at hSw
                go_simp
                try with_reducible rfl
              try simp only [List.getElem_toArray, List.getElem_cons_zero, List.getElem_cons_succ, Act.put, List.setIfInBounds_toArray, List.set_cons_zero, List.set_cons_succ]
              refine late.take (i := 7) [8, 9] (v := ?_) rfl (by kernel_rfl) (by kernel_rfl) (by kernel_rfl) (by kernel_rfl) (fun _ _ _ h => h) (Or.inl ⟨by rfl, ?_⟩) (by assumption) ?_
              rotate_left 1
              · intro w' hSw
                try dsimp only at hSw
                go_simp
                try with_reducible rfl
              try simp only [List.getElem_toArray, List.getElem_cons_zero, List.getElem_cons_succ, Act.put, List.setIfInBounds_toArray, List.set_cons_zero, List.set_cons_succ]
              refine late.take (i := 8) [9] (v := ?_) rfl (by kernel_rfl) (by kernel_rfl) (by kernel_rfl) (by kernel_rfl) (fun _ _ _ h => h) (Or.inl ⟨by rfl, ?_⟩) (by assumption) ?_
              rotate_left 1
              · intro w' hSw
                try dsimp only at hSw
                go_simp
                try with_reducible rfl
              try simp only [List.getElem_toArray, List.getElem_cons_zero, List.getElem_cons_succ, Act.put, List.setIfInBounds_toArray, List.set_cons_zero, List.set_cons_succ]
              refine late.ready (rs := [9]) (by kernel_rfl) (by simp) ?_
              refine late.Each.cons rfl (fun K hK => ?_) late.Each.nil
              clear hHeld
              try simp only [List.getElem_toArray, List.getElem_cons_zero, List.getElem_cons_succ]
              go_simp
              refine hK.out _ _ (fun h => by cases h) (fun _ => ?_)
              clear hK K
              try simp only [List.getElem_toArray, List.getElem_cons_zero, List.getElem_cons_succ, Act.put, List.setIfInBounds_toArray, List.set_cons_zero, List.set_cons_succ]
              refine late.done (by kernel_rfl) ?_ _
              refine NoPanic.normal ?_
              go_wp2_with fail
              go_roundw
              case rel => exact ⟨i + 1, by omega, by go_num, HS9, Lib.hid (HO.out.trans HO9.out)⟩
              case measure => simp [intOf]; omega
            · obtain rfl : i = n := by omega
              have HEN : Hid (BkAt wr p A' ∧ Only (fun q => q = p) w wr) := Lib.hid ⟨by rw [HFA.out.2, ← HFN.out]; exact HBJ.out, (Only.p p HO2.out).trans HO.out⟩
              go_wp2_with fail
              go_ret
              exact ⟨by rw [HFA.out.1]; rfl, HEN.out⟩
    · rw [HDP.out] at HIS
      have hE : shE A l x (-x) (0) = 1 := by unfold shE; rw [if_neg (fun q => hx q.2)]
      have hT : shA A l x (-x) (0) = A := by unfold shA; rw [hE]; rfl
      rw [hE, hT]
      clear hE hT
      clear hp HDP
      by_cases x1 : 1 ≤ x
      · have x2 : ¬ x ≤ 9007199254740992 := fun q => hx ⟨x1, q⟩
        clear hx
        go_enter Try.func68, Try.ntmps68
        go_wp2_with fail
        refine (HIS.out).mono ?_
        rintro _ w1 ⟨rfl, ho⟩
        have HO := Lib.hid ho
        clear ho
        go_wp2_with fail
        go_ret
        exact ⟨rfl, HB.out.only HO.out (fun f => f), Only.p p HO.out⟩
      · clear hx
        go_enter Try.func68, Try.ntmps68
        go_wp2_with fail
        refine (HIS.out).mono ?_
        rintro _ w1 ⟨rfl, ho⟩
        have HO := Lib.hid ho
        clear ho
        go_wp2_with fail
        go_ret
        exact ⟨rfl, HB.out.only HO.out (fun f => f), Only.p p HO.out⟩
  · have HDP : Hid (decide (PathOk l) = false) := Lib.hid (decide_eq_false hp)
    rw [HDP.out] at HIS
    have hE : shE A l x (-x) (0) = 1 := by unfold shE; rw [if_neg (fun q => hp q.1)]
    have hT : shA A l x (-x) (0) = A := by unfold shA; rw [hE]; rfl
    rw [hE, hT]
    clear hE hT
    clear hp HDP
    go_enter Try.func68, Try.ntmps68
    go_wp2_with fail
    refine (HIS.out).mono ?_
    rintro _ w1 ⟨rfl, ho⟩
    have HO := Lib.hid ho
    clear ho
    go_wp2_with fail
    go_ret
    exact ⟨rfl, HB.out.only HO.out (fun f => f), Only.p p HO.out⟩
set_option maxRecDepth 100000 in
set_option maxHeartbeats 4000000 in
theorem rmove1_any (p : Nat) (A : List Ac) (a : Option Addr) (n c : Nat) (l : List Int) (x : Int) (w : World) (h : BkAt w p A) (hA : Bok A) (hr : ReadsI w a n l) (hc : n ≤ c) (hpa : ∀ y, a = some y → y.block ≠ p) : Calls Try.prog 68 #[.pointer (some ⟨p, 0, none⟩), .int .i64 1, .slice a n c, .int .i64 x] w (FDid p (shA A l x (-x) (x)) (shE A l x (-x) (x)) w) := by
  have HB := Lib.hid h
  have HA := Lib.hid hA
  have HR := Lib.hid hr
  have HPA := Lib.hid hpa
  have HIS := Lib.hid (rpath_any a n c l w hr hc)
  have hm := hr.2.1
  unfold maxLen at hm
  have HLN := Lib.hid hr.1
  clear h hA hr hpa
  by_cases hp : PathOk l
  · have HDP : Hid (decide (PathOk l) = true) := Lib.hid (decide_eq_true hp)
    by_cases hx : AmtOk x
    · have HE0 : Hid (shE A l x (-x) (x) = if badB A (-x) (x) l = true then 20 else 0) := Lib.hid (by unfold shE; rw [if_pos ⟨hp, hx⟩])
      have HT0 : Hid (shA A l x (-x) (x) = if shE A l x (-x) (x) = 0 then shT A l (-x) (x) else A) := Lib.hid rfl
      have HPK : Hid (∀ i, i < n → ∃ k : Nat, l.getD i 0 = k ∧ 1 ≤ k ∧ k < 33) := Lib.hid (fun i hi => by obtain ⟨k, q1, q2, q3, _⟩ := path_toNat hp i (by rw [HLN.out]; exact hi); exact ⟨k, q1, q2, q3⟩)
      have HSA : Hid (∀ i, i < n → nd (shT A (l.take i) (-x) (x)) (l.getD i 0) = nd A (l.getD i 0)) := Lib.hid (fun i hi => shT_at hp i (by rw [HLN.out]; exact hi) (-x) (x))
      have HSS : Hid (∀ i, i < n → shT A (l.take (i + 1)) (-x) (x) = (shT A (l.take i) (-x) (x)).set (l.getD i 0).toNat (shB (nd (shT A (l.take i) (-x) (x)) (l.getD i 0)) (-x) (x))) := Lib.hid (fun i hi => shT_take A l (-x) (x) i (by rw [HLN.out]; exact hi))
      have HDR : Hid (∀ i, i < n → badB A (-x) (x) (l.drop i) = ((decide ((nd A (l.getD i 0)).h + (-x) < 0) || decide ((nd A (l.getD i 0)).u + (x) < 0)) || badB A (-x) (x) (l.drop (i + 1)))) := Lib.hid (fun i hi => by rw [drop_at l i (by rw [HLN.out]; exact hi)]; rfl)
      have HND : Hid (∀ i, Parts (nd A i)) := Lib.hid (fun i => (HA.out.ok _).1)
      have HSL0 : Hid (∀ i, (shT A (l.take i) (-x) (x)).length = 33) := Lib.hid (fun i => (shT_len _ _ _ _).trans HA.out.len)
      have HF0 : Hid (shT A (l.take 0) (-x) (x) = A) := Lib.hid rfl
      have HFN : Hid (shT A (l.take n) (-x) (x) = shT A l (-x) (x)) := Lib.hid (by rw [List.take_of_length_le (by rw [HLN.out]; exact Nat.le_refl _)])
      have HBN : Hid (badB A (-x) (x) (l.drop n) = false) := Lib.hid (by rw [List.drop_eq_nil_of_le (by rw [HLN.out]; exact Nat.le_refl _)]; rfl)
      rw [HDP.out] at HIS
      obtain ⟨x1, x2⟩ := hx
      clear hp HDP
      generalize shE A l x (-x) (x) = E at *
      generalize shA A l x (-x) (x) = A' at *
      go_enter Try.func68, Try.ntmps68
      go_wp2_with fail
      refine (HIS.out).mono ?_
      rintro _ w1 ⟨rfl, ho⟩
      have HO1 := Lib.hid ho
      have HR1 := Lib.hid (HR.out.only ho (fun _ _ f => f))
      have HB1 := Lib.hid (HB.out.only ho (fun f => f))
      clear ho
      go_wp2_with fail
      go_loopw [9] (fun iv wr => ∃ i : Nat, i ≤ n ∧ iv = .int .i64 (i : Int) ∧ Hid (badB A (-x) (x) l = badB A (-x) (x) (l.drop i)) ∧ Hid (Only (fun _ => False) w1 wr)) (fun iv _ => n - (intOf iv).toNat)
      case atStart => exact ⟨0, by omega, rfl, Lib.hid rfl, Lib.hid (Only.refl _ _)⟩
      case round =>
        obtain ⟨i, hi, rfl, HD, HO⟩ := hrel
        rename World => wr
        by_cases h8 : i < n
        · obtain ⟨b, off, rfl, hcell⟩ := HR1.out.2.2.2.resolve_left (by omega)
          have cx := HO.out.cell' (hcell i h8) (fun f => f)
          have hi0 : (0 : Int) ≤ i := by omega
          have hi1 : (i : Int) < n := by omega
          obtain ⟨k, hk, k1, k2⟩ := HPK.out i h8
          rw [hk] at cx
          have hk2 : (k : Int) < 33 := by omega
          have hk0 : (0 : Int) ≤ k := by omega
          have hdd := HDR.out i h8
          have hpt := HND.out (l.getD i 0)
          rw [hk, nd_nat] at hdd hpt
          obtain ⟨c0, c1, c2, c3, c4⟩ := (HB1.out.only HO.out (fun f => f)).1 k k2
          generalize A.getD k zA = ac at *
          obtain ⟨at_, ac, ae, au, ah⟩ := ac
          dsimp only at c0 c1 c2 c3 c4 hdd
          obtain ⟨-, -, -, ⟨u1, u2⟩, ⟨g1, g2⟩⟩ := hpt
          dsimp only at u1 u2 g1 g2
          have HDD := Lib.hid (HD.out.trans hdd)
          have HUG : Hid (0 ≤ au ∧ 0 ≤ ah) := Lib.hid ⟨u1, g1⟩
          have HSL : Hid (∀ w', Only (fun _ => False) wr w' → w'.cell? ⟨b, off + i, none⟩ = some (.int .i64 (k : Int)) ∧ w'.cell? ⟨p, k * 5, none⟩ = some (.int .i64 at_) ∧ w'.cell? ⟨p, k * 5 + 1, none⟩ = some (.int .i64 ac) ∧ w'.cell? ⟨p, k * 5 + 2, none⟩ = some (.int .i64 ae) ∧ w'.cell? ⟨p, k * 5 + 3, none⟩ = some (.int .i64 au) ∧ w'.cell? ⟨p, k * 5 + 4, none⟩ = some (.int .i64 ah)) := Lib.hid (fun w' ho => ⟨ho.cell' cx (fun f => f), ho.cell' c0 (fun f => f), ho.cell' c1 (fun f => f), ho.cell' c2 (fun f => f), ho.cell' c3 (fun f => f), ho.cell' c4 (fun f => f)⟩)
          clear hcell hdd hk u1 u2 g1 g2
          go_upto_region 6 with fail
          refine wp_region_noPanic ?_
          refine late.region (fun w' => w'.cell? ⟨b, off + i, none⟩ = some (.int .i64 (k : Int)) ∧ w'.cell? ⟨p, k * 5, none⟩ = some (.int .i64 at_) ∧ w'.cell? ⟨p, k * 5 + 1, none⟩ = some (.int .i64 ac) ∧ w'.cell? ⟨p, k * 5 + 2, none⟩ = some (.int .i64 ae) ∧ w'.cell? ⟨p, k * 5 + 3, none⟩ = some (.int .i64 au) ∧ w'.cell? ⟨p, k * 5 + 4, none⟩ = some (.int .i64 ah)) (fun j => [].contains j) (by kernel_rfl) (HSL.out _ (Only.refl _ _).drew) (fun hHeld => ?_)
          obtain ⟨z0, hz0⟩ : ∃ x, x = wr.drew := ⟨_, rfl⟩
          rw [← hz0] at hHeld ⊢
          have hou : Only (fun _ => False) wr z0 := by rw [hz0]; exact (Only.refl _ _).drew
          clear hz0
          refine late.take (i := 0) [5, 6, 7, 8, 10] (v := ?_) rfl (by kernel_rfl) (by kernel_rfl) (by kernel_rfl) (by kernel_rfl) (fun _ _ _ h => h) (Or.inl ⟨by rfl, ?_⟩) (by assumption) ?_
          rotate_left 1
          · intro w' hSw
            try dsimp only at hSw
            go_simp
            try with_reducible rfl
          try simp only [List.getElem_toArray, List.getElem_cons_zero, Act.put, List.setIfInBounds_toArray, List.set_cons_zero, List.set_cons_succ]
          refine late.take (i := 1) [3, 4, 7, 8, 10] (v := ?_) rfl (by kernel_rfl) (by kernel_rfl) (by kernel_rfl) (by kernel_rfl) (fun _ _ _ h => h) (Or.inl ⟨by rfl, ?_⟩) (by assumption) ?_
          rotate_left 1
          · intro w' hSw
            try dsimp only at hSw
            go_simp
            try with_reducible rfl
          try simp only [List.getElem_toArray, List.getElem_cons_zero, List.getElem_cons_succ, Act.put, List.setIfInBounds_toArray, List.set_cons_zero, List.set_cons_succ]
          refine late.take (i := 2) [3, 4, 7, 8, 10] (v := ?_) rfl (by kernel_rfl) (by kernel_rfl) (by kernel_rfl) (by kernel_rfl) (fun _ _ _ h => h) (Or.inl ⟨by rfl, ?_⟩) (by assumption) ?_
          rotate_left 1
          · intro w' hSw
            try dsimp only at hSw
            go_simp
            try with_reducible rfl
          try simp only [List.getElem_toArray, List.getElem_cons_zero, List.getElem_cons_succ, Act.put, List.setIfInBounds_toArray, List.set_cons_zero, List.set_cons_succ]
          refine late.take (i := 3) [4, 7, 8, 10] (v := ?_) rfl (by kernel_rfl) (by kernel_rfl) (by kernel_rfl) (by kernel_rfl) (fun _ _ _ h => h) (Or.inl ⟨by rfl, ?_⟩) (by assumption) ?_
          rotate_left 1
          · intro w' hSw
            try dsimp only at hSw
            go_simp
            try with_reducible rfl
          try simp only [List.getElem_toArray, List.getElem_cons_zero, List.getElem_cons_succ, Act.put, List.setIfInBounds_toArray, List.set_cons_zero, List.set_cons_succ]
          refine late.take (i := 4) [7, 8, 10] (v := ?_) rfl (by kernel_rfl) (by kernel_rfl) (by kernel_rfl) (by kernel_rfl) (fun _ _ _ h => h) (Or.inl ⟨by rfl, ?_⟩) (by assumption) ?_
          rotate_left 1
          · intro w' hSw
            try dsimp only at hSw
            go_simp
            try with_reducible rfl
          try simp only [List.getElem_toArray, List.getElem_cons_zero, List.getElem_cons_succ, Act.put, List.setIfInBounds_toArray, List.set_cons_zero, List.set_cons_succ]
          refine late.take (i := 5) [6, 7, 8, 10] (v := ?_) rfl (by kernel_rfl) (by kernel_rfl) (by kernel_rfl) (by kernel_rfl) (fun _ _ _ h => h) (Or.inl ⟨by rfl, ?_⟩) (by assumption) ?_
          rotate_left 1
          · intro w' hSw
            try dsimp only at hSw
            go_simp
            try with_reducible rfl
          try simp only [List.getElem_toArray, List.getElem_cons_zero, List.getElem_cons_succ, Act.put, List.setIfInBounds_toArray, List.set_cons_zero, List.set_cons_succ]
          refine late.take (i := 6) [7, 8, 10] (v := ?_) rfl (by kernel_rfl) (by kernel_rfl) (by kernel_rfl) (by kernel_rfl) (fun _ _ _ h => h) (Or.inl ⟨by rfl, ?_⟩) (by assumption) ?_
          rotate_left 1
          · intro w' hSw
            try dsimp only at hSw
            go_simp
            try with_reducible rfl
          try simp only [List.getElem_toArray, List.getElem_cons_zero, List.getElem_cons_succ, Act.put, List.setIfInBounds_toArray, List.set_cons_zero, List.set_cons_succ]
          refine late.take (i := 7) [8, 10] (v := ?_) rfl (by kernel_rfl) (by kernel_rfl) (by kernel_rfl) (by kernel_rfl) (fun _ _ _ h => h) (Or.inl ⟨by rfl, ?_⟩) (by assumption) ?_
          rotate_left 1
          · intro w' hSw
            try dsimp only at hSw
            go_simp
            try with_reducible rfl
          try simp only [List.getElem_toArray, List.getElem_cons_zero, List.getElem_cons_succ, Act.put, List.setIfInBounds_toArray, List.set_cons_zero, List.set_cons_succ]
          refine late.take (i := 8) [10] (v := ?_) rfl (by kernel_rfl) (by kernel_rfl) (by kernel_rfl) (by kernel_rfl) (fun _ _ _ h => h) (Or.inl ⟨by rfl, ?_⟩) (by assumption) ?_
          rotate_left 1
          · intro w' hSw
            try dsimp only at hSw
            go_simp
            try with_reducible rfl
          try simp only [List.getElem_toArray, List.getElem_cons_zero, List.getElem_cons_succ, Act.put, List.setIfInBounds_toArray, List.set_cons_zero, List.set_cons_succ]
          refine late.ready (rs := [9]) (by kernel_rfl) (by simp) ?_
          refine late.Each.cons rfl (fun K hK => ?_) late.Each.nil
          try simp only [List.getElem_toArray, List.getElem_cons_zero, List.getElem_cons_succ]
          go_simp
          obtain ⟨z1, hz1⟩ : ∃ x, x = z0.alloc (.cells #[.int .i64 0, .int .i64 0, .int .i64 0, .int .i64 0, .int .i64 0] 69) := ⟨_, rfl⟩
          obtain ⟨g, hg⟩ : ∃ x, x = z0.heap.size := ⟨_, rfl⟩
          rw [← hz1, ← hg]
          have ho1 : Only (fun _ => False) wr z1 := by rw [hz1]; exact hou.alloc _
          have hgs : wr.heap.size ≤ g := by rw [hg]; exact hou.size
          have hfive : Five z1 g := by rw [hz1]; exact Five.new hg
          have HFV := Lib.hid hfive
          obtain ⟨⟨y0, hy0'⟩, ⟨y1, hy1'⟩, ⟨y2, hy2'⟩, ⟨y3, hy3'⟩, ⟨y4, hy4'⟩, f0, f1, f2, f3, f4⟩ := hfive
          clear hz1 hg hou
          refine hK.out _ _ (fun _ => HSL.out _ ho1) (fun hHeld1 => ?_)
          replace hHeld1 := hHeld1 rfl
          clear hK K
          try simp only [List.getElem_toArray, List.getElem_cons_zero, List.getElem_cons_succ, Act.put, List.setIfInBounds_toArray, List.set_cons_zero, List.set_cons_succ]
          refine late.ready (rs := [10]) (by kernel_rfl) (by simp) ?_
          refine late.Each.cons rfl (fun K hK => ?_) late.Each.nil
          try simp only [List.getElem_toArray, List.getElem_cons_zero, List.getElem_cons_succ]
          go_simp
          obtain ⟨z2, hz2⟩ : ∃ x, x = put50 z1 g (.int .i64 at_) (.int .i64 ac) (.int .i64 ae) (.int .i64 au) (.int .i64 ah) := ⟨_, rfl⟩
          have HZ2 := Lib.hid hz2
          unfold put50 at hz2
          rw [← hz2]
          have ho2 : Only (fun _ => False) wr z2 := ho1.then (by rw [HZ2.out, put50_eq]; exact put5_only _ _ _ _ _ _ _ _) (fun i hi e => by omega)
          have hbx : (z2.cell? ⟨g, 0, none⟩ = some (.int .i64 at_) ∧ z2.cell? ⟨g, 1, none⟩ = some (.int .i64 ac) ∧ z2.cell? ⟨g, 2, none⟩ = some (.int .i64 ae) ∧ z2.cell? ⟨g, 3, none⟩ = some (.int .i64 au) ∧ z2.cell? ⟨g, 4, none⟩ = some (.int .i64 ah)) := by rw [HZ2.out]; exact HFV.out.put _ _ _ _ _
          obtain ⟨e0, e1, e2, e3, e4⟩ := hbx
          replace f3 : z2.frozen? ⟨g, 3, none⟩ = false := by rw [HZ2.out, put50_eq, put5_froz]; exact f3
          replace f4 : z2.frozen? ⟨g, 4, none⟩ = false := by rw [HZ2.out, put50_eq, put5_froz]; exact f4
          clear hz2 HZ2 HFV hy0' hy1' hy2' hy3' hy4' f0 f1 f2 ho1
          refine hK.out _ _ (fun _ => HSL.out _ ho2) (fun hHeld2 => ?_)
          replace hHeld2 := hHeld2 rfl
          clear hK K
          try simp only [List.getElem_toArray, List.getElem_cons_zero, List.getElem_cons_succ, Act.put, List.setIfInBounds_toArray, List.set_cons_zero, List.set_cons_succ]
          refine late.done (by kernel_rfl) ?_ _
          refine NoPanic.normal ?_
          have HO9 := Lib.hid (HO.out.trans ho2)
          clear ho2 HSL
          by_cases hb1 : ah < x
          · have HFA : Hid (E = 20 ∧ A' = A) := Lib.hid (by
              have hbt : badB A (-x) (x) l = true := by
                rw [HDD.out]
                have : ah + (-x) < 0 := by omega
                simp [this]
              have e : E = 20 := by rw [HE0.out, if_pos hbt]
              exact ⟨e, by rw [HT0.out, e]; rfl⟩)
            go_wp2_with fail
            go_ret
            exact ⟨by rw [HFA.out.1]; rfl, by rw [HFA.out.2]; exact HB1.out.only HO9.out (fun f => f), Only.p p (HO1.out.trans HO9.out)⟩
          · have HD2 : Hid (badB A (-x) (x) l = badB A (-x) (x) (l.drop (i + 1))) := Lib.hid (by
              rw [HDD.out]
              have h1 : ¬ (ah + (-x) < 0) := by have := HUG.out; omega
              have h2 : ¬ (au + (x) < 0) := by have := HUG.out; omega
              simp only [h1, h2]
              simp)
            go_wp2_with fail
            go_roundw
            case rel => exact ⟨i + 1, by omega, by go_num, HD2, HO9⟩
            case measure => simp [intOf]; omega
        · have hin : i = n := by omega
          subst hin
          obtain ⟨n, hnn⟩ : ∃ n, n = i := ⟨i, rfl⟩
          subst hnn
          have HFA : Hid (E = 0 ∧ A' = shT A l (-x) (x)) := Lib.hid (by
            have e : E = 0 := by rw [HE0.out, HD.out, HBN.out]; rfl
            exact ⟨e, by rw [HT0.out, if_pos e]⟩)
          have HB2 := Lib.hid (HB1.out.only HO.out (fun f => f))
          have HR2 := Lib.hid (HR1.out.only HO.out (fun _ _ f => f))
          have HO2 := Lib.hid (HO1.out.trans HO.out)
          rename World => w2
          clear HDR HD HB1 HR1 HO1 HO HBN
          go_wp2_with fail
          go_loopw [11] (fun iv wr => ∃ i : Nat, i ≤ n ∧ iv = .int .i64 (i : Int) ∧ Hid (BkAt wr p (shT A (l.take i) (-x) (x))) ∧ Hid (Only (fun q => q = p) w2 wr)) (fun iv _ => n - (intOf iv).toNat)
          case atStart => exact ⟨0, by omega, rfl, Lib.hid (by rw [HF0.out]; exact HB2.out), Lib.hid (Only.refl _ _)⟩
          case round =>
            obtain ⟨i, hi, rfl, HBJ, HO⟩ := hrel
            rename World => wr
            by_cases h8 : i < n
            · obtain ⟨b, off, rfl, hcell⟩ := HR2.out.2.2.2.resolve_left (by omega)
              have hbp : ¬ b = p := HPA.out ⟨b, off, none⟩ rfl
              have cx := HO.out.cell' (hcell i h8) hbp
              have hi0 : (0 : Int) ≤ i := by omega
              have hi1 : (i : Int) < n := by omega
              obtain ⟨k, hk, k1, k2⟩ := HPK.out i h8
              rw [hk] at cx
              have hk2 : (k : Int) < 33 := by omega
              have hk0 : (0 : Int) ≤ k := by omega
              have hpt := HND.out (l.getD i 0)
              have hat := HSA.out i h8
              have hss := HSS.out i h8
              have hsl := HSL0.out i
              rw [hat] at hss
              rw [hk, nd_nat] at hpt
              rw [hk, nd_nat, nd_nat] at hat
              rw [hk, nd_nat, Int.toNat_natCast] at hss
              have HSS2 := Lib.hid hss
              have hbj := HBJ.out
              generalize shT A (l.take i) (-x) (x) = AJ at *
              obtain ⟨c0, c1, c2, c3, c4⟩ := hbj.1 k k2
              rw [hat] at c0 c1 c2 c3 c4
              generalize A.getD k zA = ac at *
              obtain ⟨at_, ac, ae, au, ah⟩ := ac
              dsimp only at c0 c1 c2 c3 c4
              obtain ⟨-, -, -, ⟨u1, u2⟩, ⟨g1, g2⟩⟩ := hpt
              dsimp only at u1 u2 g1 g2
              have q1 : IntKind.i64.wrap (ah - x) = ah - x := w64 _ (by omega) (by omega)
              have q2 : IntKind.i64.wrap (au + x) = au + x := w64 _ (by omega) (by omega)
              have q3 : IntKind.i64.wrap (au - x) = au - x := w64 _ (by omega) (by omega)
              have HAT := Lib.hid hat
              have HSLJ := Lib.hid hsl
              have HPUT : Hid (∀ wy, BkAt wy p AJ → BkAt (put5 wy p (k * 5) (.int .i64 at_) (.int .i64 ac) (.int .i64 ae) (.int .i64 (au + x)) (.int .i64 (ah - x))) p (shT A (l.take (i + 1)) (-x) (x))) := Lib.hid (fun wy hy => by
                have := hy.put HSLJ.out k ⟨at_, ac, ae, au + x, ah - x⟩ k2
                rw [HSS2.out]
                have e : shB ⟨at_, ac, ae, au, ah⟩ (-x) (x) = ⟨at_, ac, ae, au + x, ah - x⟩ := by simp only [shB, Ac.mk.injEq, true_and]; omega
                rw [e]
                exact this)
              have HSL : Hid (∀ w', Only (fun _ => False) wr w' → w'.cell? ⟨b, off + i, none⟩ = some (.int .i64 (k : Int)) ∧ w'.cell? ⟨p, k * 5, none⟩ = some (.int .i64 at_) ∧ w'.cell? ⟨p, k * 5 + 1, none⟩ = some (.int .i64 ac) ∧ w'.cell? ⟨p, k * 5 + 2, none⟩ = some (.int .i64 ae) ∧ w'.cell? ⟨p, k * 5 + 3, none⟩ = some (.int .i64 au) ∧ w'.cell? ⟨p, k * 5 + 4, none⟩ = some (.int .i64 ah)) := Lib.hid (fun w' ho => ⟨ho.cell' cx (fun f => f), ho.cell' c0 (fun f => f), ho.cell' c1 (fun f => f), ho.cell' c2 (fun f => f), ho.cell' c3 (fun f => f), ho.cell' c4 (fun f => f)⟩)
              clear hcell hk hat hss hsl hbj u1 u2 g1 g2
              go_upto_region 12 with fail
              refine wp_region_noPanic ?_
              refine late.region (fun w' => w'.cell? ⟨b, off + i, none⟩ = some (.int .i64 (k : Int)) ∧ w'.cell? ⟨p, k * 5, none⟩ = some (.int .i64 at_) ∧ w'.cell? ⟨p, k * 5 + 1, none⟩ = some (.int .i64 ac) ∧ w'.cell? ⟨p, k * 5 + 2, none⟩ = some (.int .i64 ae) ∧ w'.cell? ⟨p, k * 5 + 3, none⟩ = some (.int .i64 au) ∧ w'.cell? ⟨p, k * 5 + 4, none⟩ = some (.int .i64 ah)) (fun j => [].contains j) (by kernel_rfl) (HSL.out _ (Only.refl _ _).drew) (fun hHeld => ?_)
              obtain ⟨z0, hz0⟩ : ∃ x, x = wr.drew := ⟨_, rfl⟩
              rw [← hz0] at hHeld ⊢
              have hou : Only (fun _ => False) wr z0 := by rw [hz0]; exact (Only.refl _ _).drew
              clear hz0
              refine late.take (i := 0) [5, 6, 7, 8, 10] (v := ?_) rfl (by kernel_rfl) (by kernel_rfl) (by kernel_rfl) (by kernel_rfl) (fun _ _ _ h => h) (Or.inl ⟨by rfl, ?_⟩) (by assumption) ?_
              rotate_left 1
              · intro w' hSw
                try dsimp only at hSw
                go_simp
                try with_reducible rfl
              try simp only [List.getElem_toArray, List.getElem_cons_zero, Act.put, List.setIfInBounds_toArray, List.set_cons_zero, List.set_cons_succ]
              refine late.take (i := 1) [3, 4, 7, 8, 10] (v := ?_) rfl (by kernel_rfl) (by kernel_rfl) (by kernel_rfl) (by kernel_rfl) (fun _ _ _ h => h) (Or.inl ⟨by rfl, ?_⟩) (by assumption) ?_
              rotate_left 1
              · intro w' hSw
                try dsimp only at hSw
                go_simp
                try with_reducible rfl
              try simp only [List.getElem_toArray, List.getElem_cons_zero, List.getElem_cons_succ, Act.put, List.setIfInBounds_toArray, List.set_cons_zero, List.set_cons_succ]
              refine late.take (i := 2) [3, 4, 7, 8, 10] (v := ?_) rfl (by kernel_rfl) (by kernel_rfl) (by kernel_rfl) (by kernel_rfl) (fun _ _ _ h => h) (Or.inl ⟨by rfl, ?_⟩) (by assumption) ?_
              rotate_left 1
              · intro w' hSw
                try dsimp only at hSw
                go_simp
                try with_reducible rfl
              try simp only [List.getElem_toArray, List.getElem_cons_zero, List.getElem_cons_succ, Act.put, List.setIfInBounds_toArray, List.set_cons_zero, List.set_cons_succ]
              refine late.take (i := 3) [4, 7, 8, 10] (v := ?_) rfl (by kernel_rfl) (by kernel_rfl) (by kernel_rfl) (by kernel_rfl) (fun _ _ _ h => h) (Or.inl ⟨by rfl, ?_⟩) (by assumption) ?_
              rotate_left 1
              · intro w' hSw
                try dsimp only at hSw
                go_simp
                try with_reducible rfl
              try simp only [List.getElem_toArray, List.getElem_cons_zero, List.getElem_cons_succ, Act.put, List.setIfInBounds_toArray, List.set_cons_zero, List.set_cons_succ]
              refine late.take (i := 4) [7, 8, 10] (v := ?_) rfl (by kernel_rfl) (by kernel_rfl) (by kernel_rfl) (by kernel_rfl) (fun _ _ _ h => h) (Or.inl ⟨by rfl, ?_⟩) (by assumption) ?_
              rotate_left 1
              · intro w' hSw
                try dsimp only at hSw
                go_simp
                try with_reducible rfl
              try simp only [List.getElem_toArray, List.getElem_cons_zero, List.getElem_cons_succ, Act.put, List.setIfInBounds_toArray, List.set_cons_zero, List.set_cons_succ]
              refine late.take (i := 5) [6, 7, 8, 10] (v := ?_) rfl (by kernel_rfl) (by kernel_rfl) (by kernel_rfl) (by kernel_rfl) (fun _ _ _ h => h) (Or.inl ⟨by rfl, ?_⟩) (by assumption) ?_
              rotate_left 1
              · intro w' hSw
                try dsimp only at hSw
                go_simp
                try with_reducible rfl
              try simp only [List.getElem_toArray, List.getElem_cons_zero, List.getElem_cons_succ, Act.put, List.setIfInBounds_toArray, List.set_cons_zero, List.set_cons_succ]
              refine late.take (i := 6) [7, 8, 10] (v := ?_) rfl (by kernel_rfl) (by kernel_rfl) (by kernel_rfl) (by kernel_rfl) (fun _ _ _ h => h) (Or.inl ⟨by rfl, ?_⟩) (by assumption) ?_
              rotate_left 1
              · intro w' hSw
                try dsimp only at hSw
                go_simp
                try with_reducible rfl
              try simp only [List.getElem_toArray, List.getElem_cons_zero, List.getElem_cons_succ, Act.put, List.setIfInBounds_toArray, List.set_cons_zero, List.set_cons_succ]
              refine late.take (i := 7) [8, 10] (v := ?_) rfl (by kernel_rfl) (by kernel_rfl) (by kernel_rfl) (by kernel_rfl) (fun _ _ _ h => h) (Or.inl ⟨by rfl, ?_⟩) (by assumption) ?_
              rotate_left 1
              · intro w' hSw
                try dsimp only at hSw
                go_simp
                try with_reducible rfl
              try simp only [List.getElem_toArray, List.getElem_cons_zero, List.getElem_cons_succ, Act.put, List.setIfInBounds_toArray, List.set_cons_zero, List.set_cons_succ]
              refine late.take (i := 8) [10] (v := ?_) rfl (by kernel_rfl) (by kernel_rfl) (by kernel_rfl) (by kernel_rfl) (fun _ _ _ h => h) (Or.inl ⟨by rfl, ?_⟩) (by assumption) ?_
              rotate_left 1
              · intro w' hSw
                try dsimp only at hSw
                go_simp
                try with_reducible rfl
              try simp only [List.getElem_toArray, List.getElem_cons_zero, List.getElem_cons_succ, Act.put, List.setIfInBounds_toArray, List.set_cons_zero, List.set_cons_succ]
              refine late.ready (rs := [9]) (by kernel_rfl) (by simp) ?_
              refine late.Each.cons rfl (fun K hK => ?_) late.Each.nil
              try simp only [List.getElem_toArray, List.getElem_cons_zero, List.getElem_cons_succ]
              go_simp
              obtain ⟨z1, hz1⟩ : ∃ x, x = z0.alloc (.cells #[.int .i64 0, .int .i64 0, .int .i64 0, .int .i64 0, .int .i64 0] 69) := ⟨_, rfl⟩
              obtain ⟨g, hg⟩ : ∃ x, x = z0.heap.size := ⟨_, rfl⟩
              rw [← hz1, ← hg]
              have ho1 : Only (fun _ => False) wr z1 := by rw [hz1]; exact hou.alloc _
              have hgs : wr.heap.size ≤ g := by rw [hg]; exact hou.size
              have hfive : Five z1 g := by rw [hz1]; exact Five.new hg
              have HFV := Lib.hid hfive
              obtain ⟨⟨y0, hy0'⟩, ⟨y1, hy1'⟩, ⟨y2, hy2'⟩, ⟨y3, hy3'⟩, ⟨y4, hy4'⟩, f0, f1, f2, f3, f4⟩ := hfive
              clear hz1 hg hou
              refine hK.out _ _ (fun _ => HSL.out _ ho1) (fun hHeld1 => ?_)
              replace hHeld1 := hHeld1 rfl
              clear hK K
              try simp only [List.getElem_toArray, List.getElem_cons_zero, List.getElem_cons_succ, Act.put, List.setIfInBounds_toArray, List.set_cons_zero, List.set_cons_succ]
              refine late.ready (rs := [10]) (by kernel_rfl) (by simp) ?_
              refine late.Each.cons rfl (fun K hK => ?_) late.Each.nil
              try simp only [List.getElem_toArray, List.getElem_cons_zero, List.getElem_cons_succ]
              go_simp
              obtain ⟨z2, hz2⟩ : ∃ x, x = put50 z1 g (.int .i64 at_) (.int .i64 ac) (.int .i64 ae) (.int .i64 au) (.int .i64 ah) := ⟨_, rfl⟩
              have HZ2 := Lib.hid hz2
              unfold put50 at hz2
              rw [← hz2]
              have ho2 : Only (fun _ => False) wr z2 := ho1.then (by rw [HZ2.out, put50_eq]; exact put5_only _ _ _ _ _ _ _ _) (fun i hi e => by omega)
              have hbx : (z2.cell? ⟨g, 0, none⟩ = some (.int .i64 at_) ∧ z2.cell? ⟨g, 1, none⟩ = some (.int .i64 ac) ∧ z2.cell? ⟨g, 2, none⟩ = some (.int .i64 ae) ∧ z2.cell? ⟨g, 3, none⟩ = some (.int .i64 au) ∧ z2.cell? ⟨g, 4, none⟩ = some (.int .i64 ah)) := by rw [HZ2.out]; exact HFV.out.put _ _ _ _ _
              obtain ⟨e0, e1, e2, e3, e4⟩ := hbx
              replace f3 : z2.frozen? ⟨g, 3, none⟩ = false := by rw [HZ2.out, put50_eq, put5_froz]; exact f3
              replace f4 : z2.frozen? ⟨g, 4, none⟩ = false := by rw [HZ2.out, put50_eq, put5_froz]; exact f4
              clear hz2 HZ2 HFV hy0' hy1' hy2' hy3' hy4' f0 f1 f2 ho1
              refine hK.out _ _ (fun _ => HSL.out _ ho2) (fun hHeld2 => ?_)
              replace hHeld2 := hHeld2 rfl
              clear hK K
              try simp only [List.getElem_toArray, List.getElem_cons_zero, List.getElem_cons_succ, Act.put, List.setIfInBounds_toArray, List.set_cons_zero, List.set_cons_succ]
              refine late.done (by kernel_rfl) ?_ _
              refine NoPanic.normal ?_
              have ho3 := ho2
              have HO9 := Lib.hid (HO.out.trans (Only.p p ho2))
              have HOZ := Lib.hid ho2
              have f3' := f3
              clear HSL
              go_upto_region 19 with fail
              obtain ⟨w6, hw6⟩ : ∃ zz, zz = (z2.setCell ⟨g, 4, none⟩ (.int .i64 (ah - x))).setCell ⟨g, 3, none⟩ (.int .i64 (au + x)) := ⟨_, rfl⟩
              simp only [← hw6]
              have d0 : w6.cell? ⟨g, 0, none⟩ = some (.int .i64 (at_)) := by rw [hw6]; rw [cell_other (off_ne (by omega)), cell_other (off_ne (by omega))]; exact e0
              have d1 : w6.cell? ⟨g, 1, none⟩ = some (.int .i64 (ac)) := by rw [hw6]; rw [cell_other (off_ne (by omega)), cell_other (off_ne (by omega))]; exact e1
              have d2 : w6.cell? ⟨g, 2, none⟩ = some (.int .i64 (ae)) := by rw [hw6]; rw [cell_other (off_ne (by omega)), cell_other (off_ne (by omega))]; exact e2
              have d3 : w6.cell? ⟨g, 3, none⟩ = some (.int .i64 (au + x)) := by rw [hw6]; exact cell_same (by rw [cell_other (off_ne (by omega))]; exact e3)
              have d4 : w6.cell? ⟨g, 4, none⟩ = some (.int .i64 (ah - x)) := by rw [hw6]; rw [cell_other (off_ne (by omega))]; exact cell_same e4
              have ho6 : Only (fun _ => False) wr w6 := ho2.then (by rw [hw6]; exact (Only.set (fun q => q = g) z2 g 4 _ rfl).trans (Only.set (fun q => q = g) _ g 3 _ rfl)) (fun i hi e => by omega)
              have cx6 := ho6.cell' cx (fun f => f)
              have HO6 := Lib.hid ho6
              clear hw6 e0 e1 e2 e3 e4 f3 f4 f3' ho2 ho3 ho6 cx HO9 HOZ
              refine wp_region_noPanic ?_
              refine late.region (fun w' => ∀ q, w'.cell? q = w6.cell? q) (fun j => [9].contains j) (by kernel_rfl) (fun q => by simp) (fun hHeld => ?_)
              obtain ⟨z0, hz0⟩ : ∃ x, x = w6.drew := ⟨_, rfl⟩
              rw [← hz0] at hHeld ⊢
              have hou : Only (fun _ => False) w6 z0 := by rw [hz0]; exact (Only.refl _ _).drew
              have ho7 := HO6.out.trans hou
              have hrm := ((HBJ.out.only ho7 (fun f => f)).room k k2)
              obtain ⟨⟨u0, y0⟩, ⟨u1, y1⟩, ⟨u2, y2⟩, ⟨u3, y3⟩, ⟨u4, y4⟩, f0, f1, f2, f3, f4⟩ := hrm
              have HS9 := Lib.hid (HPUT.out _ (HBJ.out.only ho7 (fun f => f)))
              have HO9 := Lib.hid ((Only.p p ho7).trans (put5_only z0 p (k * 5) (.int .i64 at_) (.int .i64 ac) (.int .i64 ae) (.int .i64 (au + x)) (.int .i64 (ah - x))))
              unfold put5 at HS9 HO9
              clear ho7
              clear hou hz0
              refine late.take (i := 0) [6, 7, 8, 9] (v := ?_) rfl (by kernel_rfl) (by kernel_rfl) (by kernel_rfl) (by kernel_rfl) (fun _ _ _ h => h) (Or.inl ⟨by rfl, ?_⟩) (by assumption) ?_
              rotate_left 1
              · intro w' hSw
                try dsimp only at hSw
                go_simp
                try with_reducible rfl
              try simp only [List.getElem_toArray, List.getElem_cons_zero, Act.put, List.setIfInBounds_toArray, List.set_cons_zero, List.set_cons_succ]
              refine late.take (i := 1) [3, 4, 8, 9] (v := ?_) rfl (by kernel_rfl) (by kernel_rfl) (by kernel_rfl) (by kernel_rfl) (fun _ _ _ h => h) (Or.inl ⟨by rfl, ?_⟩) (by assumption) ?_
              rotate_left 1
              · intro w' hSw
                try dsimp only at hSw
                go_simp
                try with_reducible rfl
              try simp only [List.getElem_toArray, List.getElem_cons_zero, List.getElem_cons_succ, Act.put, List.setIfInBounds_toArray, List.set_cons_zero, List.set_cons_succ]
              refine late.take (i := 2) [3, 4, 8, 9] (v := ?_) rfl (by kernel_rfl) (by kernel_rfl) (by kernel_rfl) (by kernel_rfl) (fun _ _ _ h => h) (Or.inl ⟨by rfl, ?_⟩) (by assumption) ?_
              rotate_left 1
              · intro w' hSw
                try dsimp only at hSw
                go_simp
                try with_reducible rfl
              try simp only [List.getElem_toArray, List.getElem_cons_zero, List.getElem_cons_succ, Act.put, List.setIfInBounds_toArray, List.set_cons_zero, List.set_cons_succ]
              refine late.take (i := 3) [4, 8, 9] (v := ?_) rfl (by kernel_rfl) (by kernel_rfl) (by kernel_rfl) (by kernel_rfl) (fun _ _ _ h => h) (Or.inl ⟨by rfl, ?_⟩) (by assumption) ?_
              rotate_left 1
              · intro w' hSw
                try dsimp only at hSw
                go_simp
                try with_reducible rfl
              try simp only [List.getElem_toArray, List.getElem_cons_zero, List.getElem_cons_succ, Act.put, List.setIfInBounds_toArray, List.set_cons_zero, List.set_cons_succ]
              refine late.take (i := 4) [8, 9] (v := ?_) rfl (by kernel_rfl) (by kernel_rfl) (by kernel_rfl) (by kernel_rfl) (fun _ _ _ h => h) (Or.inl ⟨by rfl, ?_⟩) (by assumption) ?_
              rotate_left 1
              · intro w' hSw
                try dsimp only at hSw
                go_simp
                try with_reducible rfl
              try simp only [List.getElem_toArray, List.getElem_cons_zero, List.getElem_cons_succ, Act.put, List.setIfInBounds_toArray, List.set_cons_zero, List.set_cons_succ]
              refine late.take (i := 5) [8, 9] (v := ?_) rfl (by kernel_rfl) (by kernel_rfl) (by kernel_rfl) (by kernel_rfl) (fun _ _ _ h => h) (Or.inl ⟨by rfl, ?_⟩) (by assumption) ?_
              rotate_left 1
              · intro w' hSw
                try dsimp only at hSw
                go_simp
                try with_reducible rfl
              try simp only [List.getElem_toArray, List.getElem_cons_zero, List.getElem_cons_succ, Act.put, List.setIfInBounds_toArray, List.set_cons_zero, List.set_cons_succ]
              refine late.take (i := 6) [7, 8, 9] (v := ?_) rfl (by kernel_rfl) (by kernel_rfl) (by kernel_rfl) (by kernel_rfl) (fun _ _ _ h => h) (Or.inl ⟨by rfl, ?_⟩) (by assumption) ?_
              rotate_left 1
              · intro w' hSw
                try dsimp only at hSw
                go_simp
                try with_reducible rfl
              try simp only [List.getElem_toArray, List.getElem_cons_zero, List.getElem_cons_succ, Act.put, List.setIfInBounds_toArray, List.set_cons_zero, List.set_cons_succ]
              refine late.take (i := 7) [8, 9] (v := ?_) rfl (by kernel_rfl) (by kernel_rfl) (by kernel_rfl) (by kernel_rfl) (fun _ _ _ h => h) (Or.inl ⟨by rfl, ?_⟩) (by assumption) ?_
              rotate_left 1
              · intro w' hSw
                try dsimp only at hSw
                go_simp
                try with_reducible rfl
              try simp only [List.getElem_toArray, List.getElem_cons_zero, List.getElem_cons_succ, Act.put, List.setIfInBounds_toArray, List.set_cons_zero, List.set_cons_succ]
              refine late.take (i := 8) [9] (v := ?_) rfl (by kernel_rfl) (by kernel_rfl) (by kernel_rfl) (by kernel_rfl) (fun _ _ _ h => h) (Or.inl ⟨by rfl, ?_⟩) (by assumption) ?_
              rotate_left 1
              · intro w' hSw
                try dsimp only at hSw
                go_simp
                try with_reducible rfl
              try simp only [List.getElem_toArray, List.getElem_cons_zero, List.getElem_cons_succ, Act.put, List.setIfInBounds_toArray, List.set_cons_zero, List.set_cons_succ]
              refine late.ready (rs := [9]) (by kernel_rfl) (by simp) ?_
              refine late.Each.cons rfl (fun K hK => ?_) late.Each.nil
              clear hHeld
              try simp only [List.getElem_toArray, List.getElem_cons_zero, List.getElem_cons_succ]
              go_simp
              refine hK.out _ _ (fun h => by cases h) (fun _ => ?_)
              clear hK K
              try simp only [List.getElem_toArray, List.getElem_cons_zero, List.getElem_cons_succ, Act.put, List.setIfInBounds_toArray, List.set_cons_zero, List.set_cons_succ]
              refine late.done (by kernel_rfl) ?_ _
              refine NoPanic.normal ?_
              go_wp2_with fail
              go_roundw
              case rel => exact ⟨i + 1, by omega, by go_num, HS9, Lib.hid (HO.out.trans HO9.out)⟩
              case measure => simp [intOf]; omega
            · obtain rfl : i = n := by omega
              have HEN : Hid (BkAt wr p A' ∧ Only (fun q => q = p) w wr) := Lib.hid ⟨by rw [HFA.out.2, ← HFN.out]; exact HBJ.out, (Only.p p HO2.out).trans HO.out⟩
              go_wp2_with fail
              go_ret
              exact ⟨by rw [HFA.out.1]; rfl, HEN.out⟩
    · rw [HDP.out] at HIS
      have hE : shE A l x (-x) (x) = 1 := by unfold shE; rw [if_neg (fun q => hx q.2)]
      have hT : shA A l x (-x) (x) = A := by unfold shA; rw [hE]; rfl
      rw [hE, hT]
      clear hE hT
      clear hp HDP
      by_cases x1 : 1 ≤ x
      · have x2 : ¬ x ≤ 9007199254740992 := fun q => hx ⟨x1, q⟩
        clear hx
        go_enter Try.func68, Try.ntmps68
        go_wp2_with fail
        refine (HIS.out).mono ?_
        rintro _ w1 ⟨rfl, ho⟩
        have HO := Lib.hid ho
        clear ho
        go_wp2_with fail
        go_ret
        exact ⟨rfl, HB.out.only HO.out (fun f => f), Only.p p HO.out⟩
      · clear hx
        go_enter Try.func68, Try.ntmps68
        go_wp2_with fail
        refine (HIS.out).mono ?_
        rintro _ w1 ⟨rfl, ho⟩
        have HO := Lib.hid ho
        clear ho
        go_wp2_with fail
        go_ret
        exact ⟨rfl, HB.out.only HO.out (fun f => f), Only.p p HO.out⟩
  · have HDP : Hid (decide (PathOk l) = false) := Lib.hid (decide_eq_false hp)
    rw [HDP.out] at HIS
    have hE : shE A l x (-x) (x) = 1 := by unfold shE; rw [if_neg (fun q => hp q.1)]
    have hT : shA A l x (-x) (x) = A := by unfold shA; rw [hE]; rfl
    rw [hE, hT]
    clear hE hT
    clear hp HDP
    go_enter Try.func68, Try.ntmps68
    go_wp2_with fail
    refine (HIS.out).mono ?_
    rintro _ w1 ⟨rfl, ho⟩
    have HO := Lib.hid ho
    clear ho
    go_wp2_with fail
    go_ret
    exact ⟨rfl, HB.out.only HO.out (fun f => f), Only.p p HO.out⟩
set_option maxRecDepth 100000 in
set_option maxHeartbeats 4000000 in
theorem rmove2_any (p : Nat) (A : List Ac) (a : Option Addr) (n c : Nat) (l : List Int) (x : Int) (w : World) (h : BkAt w p A) (hA : Bok A) (hr : ReadsI w a n l) (hc : n ≤ c) (hpa : ∀ y, a = some y → y.block ≠ p) : Calls Try.prog 68 #[.pointer (some ⟨p, 0, none⟩), .int .i64 2, .slice a n c, .int .i64 x] w (FDid p (shA A l x (0) (-x)) (shE A l x (0) (-x)) w) := by
  have HB := Lib.hid h
  have HA := Lib.hid hA
  have HR := Lib.hid hr
  have HPA := Lib.hid hpa
  have HIS := Lib.hid (rpath_any a n c l w hr hc)
  have hm := hr.2.1
  unfold maxLen at hm
  have HLN := Lib.hid hr.1
  clear h hA hr hpa
  by_cases hp : PathOk l
  · have HDP : Hid (decide (PathOk l) = true) := Lib.hid (decide_eq_true hp)
    by_cases hx : AmtOk x
    · have HE0 : Hid (shE A l x (0) (-x) = if badB A (0) (-x) l = true then 20 else 0) := Lib.hid (by unfold shE; rw [if_pos ⟨hp, hx⟩])
      have HT0 : Hid (shA A l x (0) (-x) = if shE A l x (0) (-x) = 0 then shT A l (0) (-x) else A) := Lib.hid rfl
      have HPK : Hid (∀ i, i < n → ∃ k : Nat, l.getD i 0 = k ∧ 1 ≤ k ∧ k < 33) := Lib.hid (fun i hi => by obtain ⟨k, q1, q2, q3, _⟩ := path_toNat hp i (by rw [HLN.out]; exact hi); exact ⟨k, q1, q2, q3⟩)
      have HSA : Hid (∀ i, i < n → nd (shT A (l.take i) (0) (-x)) (l.getD i 0) = nd A (l.getD i 0)) := Lib.hid (fun i hi => shT_at hp i (by rw [HLN.out]; exact hi) (0) (-x))
      have HSS : Hid (∀ i, i < n → shT A (l.take (i + 1)) (0) (-x) = (shT A (l.take i) (0) (-x)).set (l.getD i 0).toNat (shB (nd (shT A (l.take i) (0) (-x)) (l.getD i 0)) (0) (-x))) := Lib.hid (fun i hi => shT_take A l (0) (-x) i (by rw [HLN.out]; exact hi))
      have HDR : Hid (∀ i, i < n → badB A (0) (-x) (l.drop i) = ((decide ((nd A (l.getD i 0)).h + (0) < 0) || decide ((nd A (l.getD i 0)).u + (-x) < 0)) || badB A (0) (-x) (l.drop (i + 1)))) := Lib.hid (fun i hi => by rw [drop_at l i (by rw [HLN.out]; exact hi)]; rfl)
      have HND : Hid (∀ i, Parts (nd A i)) := Lib.hid (fun i => (HA.out.ok _).1)
      have HSL0 : Hid (∀ i, (shT A (l.take i) (0) (-x)).length = 33) := Lib.hid (fun i => (shT_len _ _ _ _).trans HA.out.len)
      have HF0 : Hid (shT A (l.take 0) (0) (-x) = A) := Lib.hid rfl
      have HFN : Hid (shT A (l.take n) (0) (-x) = shT A l (0) (-x)) := Lib.hid (by rw [List.take_of_length_le (by rw [HLN.out]; exact Nat.le_refl _)])
      have HBN : Hid (badB A (0) (-x) (l.drop n) = false) := Lib.hid (by rw [List.drop_eq_nil_of_le (by rw [HLN.out]; exact Nat.le_refl _)]; rfl)
      rw [HDP.out] at HIS
      obtain ⟨x1, x2⟩ := hx
      clear hp HDP
      generalize shE A l x (0) (-x) = E at *
      generalize shA A l x (0) (-x) = A' at *
      go_enter Try.func68, Try.ntmps68
      go_wp2_with fail
      refine (HIS.out).mono ?_
      rintro _ w1 ⟨rfl, ho⟩
      have HO1 := Lib.hid ho
      have HR1 := Lib.hid (HR.out.only ho (fun _ _ f => f))
      have HB1 := Lib.hid (HB.out.only ho (fun f => f))
      clear ho
      go_wp2_with fail
      go_loopw [9] (fun iv wr => ∃ i : Nat, i ≤ n ∧ iv = .int .i64 (i : Int) ∧ Hid (badB A (0) (-x) l = badB A (0) (-x) (l.drop i)) ∧ Hid (Only (fun _ => False) w1 wr)) (fun iv _ => n - (intOf iv).toNat)
      case atStart => exact ⟨0, by omega, rfl, Lib.hid rfl, Lib.hid (Only.refl _ _)⟩
      case round =>
        obtain ⟨i, hi, rfl, HD, HO⟩ := hrel
        rename World => wr
        by_cases h8 : i < n
        · obtain ⟨b, off, rfl, hcell⟩ := HR1.out.2.2.2.resolve_left (by omega)
          have cx := HO.out.cell' (hcell i h8) (fun f => f)
          have hi0 : (0 : Int) ≤ i := by omega
          have hi1 : (i : Int) < n := by omega
          obtain ⟨k, hk, k1, k2⟩ := HPK.out i h8
          rw [hk] at cx
          have hk2 : (k : Int) < 33 := by omega
          have hk0 : (0 : Int) ≤ k := by omega
          have hdd := HDR.out i h8
          have hpt := HND.out (l.getD i 0)
          rw [hk, nd_nat] at hdd hpt
          obtain ⟨c0, c1, c2, c3, c4⟩ := (HB1.out.only HO.out (fun f => f)).1 k k2
          generalize A.getD k zA = ac at *
          obtain ⟨at_, ac, ae, au, ah⟩ := ac
          dsimp only at c0 c1 c2 c3 c4 hdd
          obtain ⟨-, -, -, ⟨u1, u2⟩, ⟨g1, g2⟩⟩ := hpt
          dsimp only at u1 u2 g1 g2
          have HDD := Lib.hid (HD.out.trans hdd)
          have HUG : Hid (0 ≤ au ∧ 0 ≤ ah) := Lib.hid ⟨u1, g1⟩
          have HSL : Hid (∀ w', Only (fun _ => False) wr w' → w'.cell? ⟨b, off + i, none⟩ = some (.int .i64 (k : Int)) ∧ w'.cell? ⟨p, k * 5, none⟩ = some (.int .i64 at_) ∧ w'.cell? ⟨p, k * 5 + 1, none⟩ = some (.int .i64 ac) ∧ w'.cell? ⟨p, k * 5 + 2, none⟩ = some (.int .i64 ae) ∧ w'.cell? ⟨p, k * 5 + 3, none⟩ = some (.int .i64 au) ∧ w'.cell? ⟨p, k * 5 + 4, none⟩ = some (.int .i64 ah)) := Lib.hid (fun w' ho => ⟨ho.cell' cx (fun f => f), ho.cell' c0 (fun f => f), ho.cell' c1 (fun f => f), ho.cell' c2 (fun f => f), ho.cell' c3 (fun f => f), ho.cell' c4 (fun f => f)⟩)
          clear hcell hdd hk u1 u2 g1 g2
          go_upto_region 6 with fail
          refine wp_region_noPanic ?_
          refine late.region (fun w' => w'.cell? ⟨b, off + i, none⟩ = some (.int .i64 (k : Int)) ∧ w'.cell? ⟨p, k * 5, none⟩ = some (.int .i64 at_) ∧ w'.cell? ⟨p, k * 5 + 1, none⟩ = some (.int .i64 ac) ∧ w'.cell? ⟨p, k * 5 + 2, none⟩ = some (.int .i64 ae) ∧ w'.cell? ⟨p, k * 5 + 3, none⟩ = some (.int .i64 au) ∧ w'.cell? ⟨p, k * 5 + 4, none⟩ = some (.int .i64 ah)) (fun j => [].contains j) (by kernel_rfl) (HSL.out _ (Only.refl _ _).drew) (fun hHeld => ?_)
          obtain ⟨z0, hz0⟩ : ∃ x, x = wr.drew := ⟨_, rfl⟩
          rw [← hz0] at hHeld ⊢
          have hou : Only (fun _ => False) wr z0 := by rw [hz0]; exact (Only.refl _ _).drew
          clear hz0
          refine late.take (i := 0) [5, 6, 7, 8, 10] (v := ?_) rfl (by kernel_rfl) (by kernel_rfl) (by kernel_rfl) (by kernel_rfl) (fun _ _ _ h => h) (Or.inl ⟨by rfl, ?_⟩) (by assumption) ?_
          rotate_left 1
          · intro w' hSw
            try dsimp only at hSw
            go_simp
            try with_reducible rfl
          try simp only [List.getElem_toArray, List.getElem_cons_zero, Act.put, List.setIfInBounds_toArray, List.set_cons_zero, List.set_cons_succ]
          refine late.take (i := 1) [3, 4, 7, 8, 10] (v := ?_) rfl (by kernel_rfl) (by kernel_rfl) (by kernel_rfl) (by kernel_rfl) (fun _ _ _ h => h) (Or.inl ⟨by rfl, ?_⟩) (by assumption) ?_
          rotate_left 1
          · intro w' hSw
            try dsimp only at hSw
            go_simp
            try with_reducible rfl
          try simp only [List.getElem_toArray, List.getElem_cons_zero, List.getElem_cons_succ, Act.put, List.setIfInBounds_toArray, List.set_cons_zero, List.set_cons_succ]
          refine late.take (i := 2) [3, 4, 7, 8, 10] (v := ?_) rfl (by kernel_rfl) (by kernel_rfl) (by kernel_rfl) (by kernel_rfl) (fun _ _ _ h => h) (Or.inl ⟨by rfl, ?_⟩) (by assumption) ?_
          rotate_left 1
          · intro w' hSw
            try dsimp only at hSw
            go_simp
            try with_reducible rfl
          try simp only [List.getElem_toArray, List.getElem_cons_zero, List.getElem_cons_succ, Act.put, List.setIfInBounds_toArray, List.set_cons_zero, List.set_cons_succ]
          refine late.take (i := 3) [4, 7, 8, 10] (v := ?_) rfl (by kernel_rfl) (by kernel_rfl) (by kernel_rfl) (by kernel_rfl) (fun _ _ _ h => h) (Or.inl ⟨by rfl, ?_⟩) (by assumption) ?_
          rotate_left 1
          · intro w' hSw
            try dsimp only at hSw
            go_simp
            try with_reducible rfl
          try simp only [List.getElem_toArray, List.getElem_cons_zero, List.getElem_cons_succ, Act.put, List.setIfInBounds_toArray, List.set_cons_zero, List.set_cons_succ]
          refine late.take (i := 4) [7, 8, 10] (v := ?_) rfl (by kernel_rfl) (by kernel_rfl) (by kernel_rfl) (by kernel_rfl) (fun _ _ _ h => h) (Or.inl ⟨by rfl, ?_⟩) (by assumption) ?_
          rotate_left 1
          · intro w' hSw
            try dsimp only at hSw
            go_simp
            try with_reducible rfl
          try simp only [List.getElem_toArray, List.getElem_cons_zero, List.getElem_cons_succ, Act.put, List.setIfInBounds_toArray, List.set_cons_zero, List.set_cons_succ]
          refine late.take (i := 5) [6, 7, 8, 10] (v := ?_) rfl (by kernel_rfl) (by kernel_rfl) (by kernel_rfl) (by kernel_rfl) (fun _ _ _ h => h) (Or.inl ⟨by rfl, ?_⟩) (by assumption) ?_
          rotate_left 1
          · intro w' hSw
            try dsimp only at hSw
            go_simp
            try with_reducible rfl
          try simp only [List.getElem_toArray, List.getElem_cons_zero, List.getElem_cons_succ, Act.put, List.setIfInBounds_toArray, List.set_cons_zero, List.set_cons_succ]
          refine late.take (i := 6) [7, 8, 10] (v := ?_) rfl (by kernel_rfl) (by kernel_rfl) (by kernel_rfl) (by kernel_rfl) (fun _ _ _ h => h) (Or.inl ⟨by rfl, ?_⟩) (by assumption) ?_
          rotate_left 1
          · intro w' hSw
            try dsimp only at hSw
            go_simp
            try with_reducible rfl
          try simp only [List.getElem_toArray, List.getElem_cons_zero, List.getElem_cons_succ, Act.put, List.setIfInBounds_toArray, List.set_cons_zero, List.set_cons_succ]
          refine late.take (i := 7) [8, 10] (v := ?_) rfl (by kernel_rfl) (by kernel_rfl) (by kernel_rfl) (by kernel_rfl) (fun _ _ _ h => h) (Or.inl ⟨by rfl, ?_⟩) (by assumption) ?_
          rotate_left 1
          · intro w' hSw
            try dsimp only at hSw
            go_simp
            try with_reducible rfl
          try simp only [List.getElem_toArray, List.getElem_cons_zero, List.getElem_cons_succ, Act.put, List.setIfInBounds_toArray, List.set_cons_zero, List.set_cons_succ]
          refine late.take (i := 8) [10] (v := ?_) rfl (by kernel_rfl) (by kernel_rfl) (by kernel_rfl) (by kernel_rfl) (fun _ _ _ h => h) (Or.inl ⟨by rfl, ?_⟩) (by assumption) ?_
          rotate_left 1
          · intro w' hSw
            try dsimp only at hSw
            go_simp
            try with_reducible rfl
          try simp only [List.getElem_toArray, List.getElem_cons_zero, List.getElem_cons_succ, Act.put, List.setIfInBounds_toArray, List.set_cons_zero, List.set_cons_succ]
          refine late.ready (rs := [9]) (by kernel_rfl) (by simp) ?_
          refine late.Each.cons rfl (fun K hK => ?_) late.Each.nil
          try simp only [List.getElem_toArray, List.getElem_cons_zero, List.getElem_cons_succ]
          go_simp
          obtain ⟨z1, hz1⟩ : ∃ x, x = z0.alloc (.cells #[.int .i64 0, .int .i64 0, .int .i64 0, .int .i64 0, .int .i64 0] 69) := ⟨_, rfl⟩
          obtain ⟨g, hg⟩ : ∃ x, x = z0.heap.size := ⟨_, rfl⟩
          rw [← hz1, ← hg]
          have ho1 : Only (fun _ => False) wr z1 := by rw [hz1]; exact hou.alloc _
          have hgs : wr.heap.size ≤ g := by rw [hg]; exact hou.size
          have hfive : Five z1 g := by rw [hz1]; exact Five.new hg
          have HFV := Lib.hid hfive
          obtain ⟨⟨y0, hy0'⟩, ⟨y1, hy1'⟩, ⟨y2, hy2'⟩, ⟨y3, hy3'⟩, ⟨y4, hy4'⟩, f0, f1, f2, f3, f4⟩ := hfive
          clear hz1 hg hou
          refine hK.out _ _ (fun _ => HSL.out _ ho1) (fun hHeld1 => ?_)
          replace hHeld1 := hHeld1 rfl
          clear hK K
          try simp only [List.getElem_toArray, List.getElem_cons_zero, List.getElem_cons_succ, Act.put, List.setIfInBounds_toArray, List.set_cons_zero, List.set_cons_succ]
          refine late.ready (rs := [10]) (by kernel_rfl) (by simp) ?_
          refine late.Each.cons rfl (fun K hK => ?_) late.Each.nil
          try simp only [List.getElem_toArray, List.getElem_cons_zero, List.getElem_cons_succ]
          go_simp
          obtain ⟨z2, hz2⟩ : ∃ x, x = put50 z1 g (.int .i64 at_) (.int .i64 ac) (.int .i64 ae) (.int .i64 au) (.int .i64 ah) := ⟨_, rfl⟩
          have HZ2 := Lib.hid hz2
          unfold put50 at hz2
          rw [← hz2]
          have ho2 : Only (fun _ => False) wr z2 := ho1.then (by rw [HZ2.out, put50_eq]; exact put5_only _ _ _ _ _ _ _ _) (fun i hi e => by omega)
          have hbx : (z2.cell? ⟨g, 0, none⟩ = some (.int .i64 at_) ∧ z2.cell? ⟨g, 1, none⟩ = some (.int .i64 ac) ∧ z2.cell? ⟨g, 2, none⟩ = some (.int .i64 ae) ∧ z2.cell? ⟨g, 3, none⟩ = some (.int .i64 au) ∧ z2.cell? ⟨g, 4, none⟩ = some (.int .i64 ah)) := by rw [HZ2.out]; exact HFV.out.put _ _ _ _ _
          obtain ⟨e0, e1, e2, e3, e4⟩ := hbx
          replace f3 : z2.frozen? ⟨g, 3, none⟩ = false := by rw [HZ2.out, put50_eq, put5_froz]; exact f3
          replace f4 : z2.frozen? ⟨g, 4, none⟩ = false := by rw [HZ2.out, put50_eq, put5_froz]; exact f4
          clear hz2 HZ2 HFV hy0' hy1' hy2' hy3' hy4' f0 f1 f2 ho1
          refine hK.out _ _ (fun _ => HSL.out _ ho2) (fun hHeld2 => ?_)
          replace hHeld2 := hHeld2 rfl
          clear hK K
          try simp only [List.getElem_toArray, List.getElem_cons_zero, List.getElem_cons_succ, Act.put, List.setIfInBounds_toArray, List.set_cons_zero, List.set_cons_succ]
          refine late.done (by kernel_rfl) ?_ _
          refine NoPanic.normal ?_
          have HO9 := Lib.hid (HO.out.trans ho2)
          clear ho2 HSL
          by_cases hb1 : au < x
          · have HFA : Hid (E = 20 ∧ A' = A) := Lib.hid (by
              have hbt : badB A (0) (-x) l = true := by
                rw [HDD.out]
                have : au + (-x) < 0 := by omega
                simp [this]
              have e : E = 20 := by rw [HE0.out, if_pos hbt]
              exact ⟨e, by rw [HT0.out, e]; rfl⟩)
            go_wp2_with fail
            go_ret
            exact ⟨by rw [HFA.out.1]; rfl, by rw [HFA.out.2]; exact HB1.out.only HO9.out (fun f => f), Only.p p (HO1.out.trans HO9.out)⟩
          · have HD2 : Hid (badB A (0) (-x) l = badB A (0) (-x) (l.drop (i + 1))) := Lib.hid (by
              rw [HDD.out]
              have h1 : ¬ (ah + (0) < 0) := by have := HUG.out; omega
              have h2 : ¬ (au + (-x) < 0) := by have := HUG.out; omega
              simp only [h1, h2]
              simp)
            go_wp2_with fail
            go_roundw
            case rel => exact ⟨i + 1, by omega, by go_num, HD2, HO9⟩
            case measure => simp [intOf]; omega
        · have hin : i = n := by omega
          subst hin
          obtain ⟨n, hnn⟩ : ∃ n, n = i := ⟨i, rfl⟩
          subst hnn
          have HFA : Hid (E = 0 ∧ A' = shT A l (0) (-x)) := Lib.hid (by
            have e : E = 0 := by rw [HE0.out, HD.out, HBN.out]; rfl
            exact ⟨e, by rw [HT0.out, if_pos e]⟩)
          have HB2 := Lib.hid (HB1.out.only HO.out (fun f => f))
          have HR2 := Lib.hid (HR1.out.only HO.out (fun _ _ f => f))
          have HO2 := Lib.hid (HO1.out.trans HO.out)
          rename World => w2
          clear HDR HD HB1 HR1 HO1 HO HBN
          go_wp2_with fail
          go_loopw [11] (fun iv wr => ∃ i : Nat, i ≤ n ∧ iv = .int .i64 (i : Int) ∧ Hid (BkAt wr p (shT A (l.take i) (0) (-x))) ∧ Hid (Only (fun q => q = p) w2 wr)) (fun iv _ => n - (intOf iv).toNat)
          case atStart => exact ⟨0, by omega, rfl, Lib.hid (by rw [HF0.out]; exact HB2.out), Lib.hid (Only.refl _ _)⟩
          case round =>
            obtain ⟨i, hi, rfl, HBJ, HO⟩ := hrel
            rename World => wr
            by_cases h8 : i < n
            · obtain ⟨b, off, rfl, hcell⟩ := HR2.out.2.2.2.resolve_left (by omega)
              have hbp : ¬ b = p := HPA.out ⟨b, off, none⟩ rfl
              have cx := HO.out.cell' (hcell i h8) hbp
              have hi0 : (0 : Int) ≤ i := by omega
              have hi1 : (i : Int) < n := by omega
              obtain ⟨k, hk, k1, k2⟩ := HPK.out i h8
              rw [hk] at cx
              have hk2 : (k : Int) < 33 := by omega
              have hk0 : (0 : Int) ≤ k := by omega
              have hpt := HND.out (l.getD i 0)
              have hat := HSA.out i h8
              have hss := HSS.out i h8
              have hsl := HSL0.out i
              rw [hat] at hss
              rw [hk, nd_nat] at hpt
              rw [hk, nd_nat, nd_nat] at hat
              rw [hk, nd_nat, Int.toNat_natCast] at hss
              have HSS2 := Lib.hid hss
              have hbj := HBJ.out
              generalize shT A (l.take i) (0) (-x) = AJ at *
              obtain ⟨c0, c1, c2, c3, c4⟩ := hbj.1 k k2
              rw [hat] at c0 c1 c2 c3 c4
              generalize A.getD k zA = ac at *
              obtain ⟨at_, ac, ae, au, ah⟩ := ac
              dsimp only at c0 c1 c2 c3 c4
              obtain ⟨-, -, -, ⟨u1, u2⟩, ⟨g1, g2⟩⟩ := hpt
              dsimp only at u1 u2 g1 g2
              have q1 : IntKind.i64.wrap (ah - x) = ah - x := w64 _ (by omega) (by omega)
              have q2 : IntKind.i64.wrap (au + x) = au + x := w64 _ (by omega) (by omega)
              have q3 : IntKind.i64.wrap (au - x) = au - x := w64 _ (by omega) (by omega)
              have HAT := Lib.hid hat
              have HSLJ := Lib.hid hsl
              have HPUT : Hid (∀ wy, BkAt wy p AJ → BkAt (put5 wy p (k * 5) (.int .i64 at_) (.int .i64 ac) (.int .i64 ae) (.int .i64 (au - x)) (.int .i64 (ah))) p (shT A (l.take (i + 1)) (0) (-x))) := Lib.hid (fun wy hy => by
                have := hy.put HSLJ.out k ⟨at_, ac, ae, au - x, ah⟩ k2
                rw [HSS2.out]
                have e : shB ⟨at_, ac, ae, au, ah⟩ (0) (-x) = ⟨at_, ac, ae, au - x, ah⟩ := by simp only [shB, Ac.mk.injEq, true_and]; omega
                rw [e]
                exact this)
              have HSL : Hid (∀ w', Only (fun _ => False) wr w' → w'.cell? ⟨b, off + i, none⟩ = some (.int .i64 (k : Int)) ∧ w'.cell? ⟨p, k * 5, none⟩ = some (.int .i64 at_) ∧ w'.cell? ⟨p, k * 5 + 1, none⟩ = some (.int .i64 ac) ∧ w'.cell? ⟨p, k * 5 + 2, none⟩ = some (.int .i64 ae) ∧ w'.cell? ⟨p, k * 5 + 3, none⟩ = some (.int .i64 au) ∧ w'.cell? ⟨p, k * 5 + 4, none⟩ = some (.int .i64 ah)) := Lib.hid (fun w' ho => ⟨ho.cell' cx (fun f => f), ho.cell' c0 (fun f => f), ho.cell' c1 (fun f => f), ho.cell' c2 (fun f => f), ho.cell' c3 (fun f => f), ho.cell' c4 (fun f => f)⟩)
              clear hcell hk hat hss hsl hbj u1 u2 g1 g2
              go_upto_region 12 with fail
              refine wp_region_noPanic ?_
              refine late.region (fun w' => w'.cell? ⟨b, off + i, none⟩ = some (.int .i64 (k : Int)) ∧ w'.cell? ⟨p, k * 5, none⟩ = some (.int .i64 at_) ∧ w'.cell? ⟨p, k * 5 + 1, none⟩ = some (.int .i64 ac) ∧ w'.cell? ⟨p, k * 5 + 2, none⟩ = some (.int .i64 ae) ∧ w'.cell? ⟨p, k * 5 + 3, none⟩ = some (.int .i64 au) ∧ w'.cell? ⟨p, k * 5 + 4, none⟩ = some (.int .i64 ah)) (fun j => [].contains j) (by kernel_rfl) (HSL.out _ (Only.refl _ _).drew) (fun hHeld => ?_)
              obtain ⟨z0, hz0⟩ : ∃ x, x = wr.drew := ⟨_, rfl⟩
              rw [← hz0] at hHeld ⊢
              have hou : Only (fun _ => False) wr z0 := by rw [hz0]; exact (Only.refl _ _).drew
              clear hz0
              refine late.take (i := 0) [5, 6, 7, 8, 10] (v := ?_) rfl (by kernel_rfl) (by kernel_rfl) (by kernel_rfl) (by kernel_rfl) (fun _ _ _ h => h) (Or.inl ⟨by rfl, ?_⟩) (by assumption) ?_
              rotate_left 1
              · intro w' hSw
                try dsimp only at hSw
                go_simp
                try with_reducible rfl
              try simp only [List.getElem_toArray, List.getElem_cons_zero, Act.put, List.setIfInBounds_toArray, List.set_cons_zero, List.set_cons_succ]
              refine late.take (i := 1) [3, 4, 7, 8, 10] (v := ?_) rfl (by kernel_rfl) (by kernel_rfl) (by kernel_rfl) (by kernel_rfl) (fun _ _ _ h => h) (Or.inl ⟨by rfl, ?_⟩) (by assumption) ?_
              rotate_left 1
              · intro w' hSw
                try dsimp only at hSw
                go_simp
                try with_reducible rfl
              try simp only [List.getElem_toArray, List.getElem_cons_zero, List.getElem_cons_succ, Act.put, List.setIfInBounds_toArray, List.set_cons_zero, List.set_cons_succ]
              refine late.take (i := 2) [3, 4, 7, 8, 10] (v := ?_) rfl (by kernel_rfl) (by kernel_rfl) (by kernel_rfl) (by kernel_rfl) (fun _ _ _ h => h) (Or.inl ⟨by rfl, ?_⟩) (by assumption) ?_
              rotate_left 1
              · intro w' hSw
                try dsimp only at hSw
                go_simp
                try with_reducible rfl
              try simp only [List.getElem_toArray, List.getElem_cons_zero, List.getElem_cons_succ, Act.put, List.setIfInBounds_toArray, List.set_cons_zero, List.set_cons_succ]
              refine late.take (i := 3) [4, 7, 8, 10] (v := ?_) rfl (by kernel_rfl) (by kernel_rfl) (by kernel_rfl) (by kernel_rfl) (fun _ _ _ h => h) (Or.inl ⟨by rfl, ?_⟩) (by assumption) ?_
              rotate_left 1
              · intro w' hSw
                try dsimp only at hSw
                go_simp
                try with_reducible rfl
              try simp only [List.getElem_toArray, List.getElem_cons_zero, List.getElem_cons_succ, Act.put, List.setIfInBounds_toArray, List.set_cons_zero, List.set_cons_succ]
              refine late.take (i := 4) [7, 8, 10] (v := ?_) rfl (by kernel_rfl) (by kernel_rfl) (by kernel_rfl) (by kernel_rfl) (fun _ _ _ h => h) (Or.inl ⟨by rfl, ?_⟩) (by assumption) ?_
              rotate_left 1
              · intro w' hSw
                try dsimp only at hSw
                go_simp
                try with_reducible rfl
              try simp only [List.getElem_toArray, List.getElem_cons_zero, List.getElem_cons_succ, Act.put, List.setIfInBounds_toArray, List.set_cons_zero, List.set_cons_succ]
              refine late.take (i := 5) [6, 7, 8, 10] (v := ?_) rfl (by kernel_rfl) (by kernel_rfl) (by kernel_rfl) (by kernel_rfl) (fun _ _ _ h => h) (Or.inl ⟨by rfl, ?_⟩) (by assumption) ?_
              rotate_left 1
              · intro w' hSw
                try dsimp only at hSw
                go_simp
                try with_reducible rfl
              try simp only [List.getElem_toArray, List.getElem_cons_zero, List.getElem_cons_succ, Act.put, List.setIfInBounds_toArray, List.set_cons_zero, List.set_cons_succ]
              refine late.take (i := 6) [7, 8, 10] (v := ?_) rfl (by kernel_rfl) (by kernel_rfl) (by kernel_rfl) (by kernel_rfl) (fun _ _ _ h => h) (Or.inl ⟨by rfl, ?_⟩) (by assumption) ?_
              rotate_left 1
              · intro w' hSw
                try dsimp only at hSw
                go_simp
                try with_reducible rfl
              try simp only [List.getElem_toArray, List.getElem_cons_zero, List.getElem_cons_succ, Act.put, List.setIfInBounds_toArray, List.set_cons_zero, List.set_cons_succ]
              refine late.take (i := 7) [8, 10] (v := ?_) rfl (by kernel_rfl) (by kernel_rfl) (by kernel_rfl) (by kernel_rfl) (fun _ _ _ h => h) (Or.inl ⟨by rfl, ?_⟩) (by assumption) ?_
              rotate_left 1
              · intro w' hSw
                try dsimp only at hSw
                go_simp
                try with_reducible rfl
              try simp only [List.getElem_toArray, List.getElem_cons_zero, List.getElem_cons_succ, Act.put, List.setIfInBounds_toArray, List.set_cons_zero, List.set_cons_succ]
              refine late.take (i := 8) [10] (v := ?_) rfl (by kernel_rfl) (by kernel_rfl) (by kernel_rfl) (by kernel_rfl) (fun _ _ _ h => h) (Or.inl ⟨by rfl, ?_⟩) (by assumption) ?_
              rotate_left 1
              · intro w' hSw
                try dsimp only at hSw
                go_simp
                try with_reducible rfl
              try simp only [List.getElem_toArray, List.getElem_cons_zero, List.getElem_cons_succ, Act.put, List.setIfInBounds_toArray, List.set_cons_zero, List.set_cons_succ]
              refine late.ready (rs := [9]) (by kernel_rfl) (by simp) ?_
              refine late.Each.cons rfl (fun K hK => ?_) late.Each.nil
              try simp only [List.getElem_toArray, List.getElem_cons_zero, List.getElem_cons_succ]
              go_simp
              obtain ⟨z1, hz1⟩ : ∃ x, x = z0.alloc (.cells #[.int .i64 0, .int .i64 0, .int .i64 0, .int .i64 0, .int .i64 0] 69) := ⟨_, rfl⟩
              obtain ⟨g, hg⟩ : ∃ x, x = z0.heap.size := ⟨_, rfl⟩
              rw [← hz1, ← hg]
              have ho1 : Only (fun _ => False) wr z1 := by rw [hz1]; exact hou.alloc _
              have hgs : wr.heap.size ≤ g := by rw [hg]; exact hou.size
              have hfive : Five z1 g := by rw [hz1]; exact Five.new hg
              have HFV := Lib.hid hfive
              obtain ⟨⟨y0, hy0'⟩, ⟨y1, hy1'⟩, ⟨y2, hy2'⟩, ⟨y3, hy3'⟩, ⟨y4, hy4'⟩, f0, f1, f2, f3, f4⟩ := hfive
              clear hz1 hg hou
              refine hK.out _ _ (fun _ => HSL.out _ ho1) (fun hHeld1 => ?_)
              replace hHeld1 := hHeld1 rfl
              clear hK K
              try simp only [List.getElem_toArray, List.getElem_cons_zero, List.getElem_cons_succ, Act.put, List.setIfInBounds_toArray, List.set_cons_zero, List.set_cons_succ]
              refine late.ready (rs := [10]) (by kernel_rfl) (by simp) ?_
              refine late.Each.cons rfl (fun K hK => ?_) late.Each.nil
              try simp only [List.getElem_toArray, List.getElem_cons_zero, List.getElem_cons_succ]
              go_simp
              obtain ⟨z2, hz2⟩ : ∃ x, x = put50 z1 g (.int .i64 at_) (.int .i64 ac) (.int .i64 ae) (.int .i64 au) (.int .i64 ah) := ⟨_, rfl⟩
              have HZ2 := Lib.hid hz2
              unfold put50 at hz2
              rw [← hz2]
              have ho2 : Only (fun _ => False) wr z2 := ho1.then (by rw [HZ2.out, put50_eq]; exact put5_only _ _ _ _ _ _ _ _) (fun i hi e => by omega)
              have hbx : (z2.cell? ⟨g, 0, none⟩ = some (.int .i64 at_) ∧ z2.cell? ⟨g, 1, none⟩ = some (.int .i64 ac) ∧ z2.cell? ⟨g, 2, none⟩ = some (.int .i64 ae) ∧ z2.cell? ⟨g, 3, none⟩ = some (.int .i64 au) ∧ z2.cell? ⟨g, 4, none⟩ = some (.int .i64 ah)) := by rw [HZ2.out]; exact HFV.out.put _ _ _ _ _
              obtain ⟨e0, e1, e2, e3, e4⟩ := hbx
              replace f3 : z2.frozen? ⟨g, 3, none⟩ = false := by rw [HZ2.out, put50_eq, put5_froz]; exact f3
              replace f4 : z2.frozen? ⟨g, 4, none⟩ = false := by rw [HZ2.out, put50_eq, put5_froz]; exact f4
              clear hz2 HZ2 HFV hy0' hy1' hy2' hy3' hy4' f0 f1 f2 ho1
              refine hK.out _ _ (fun _ => HSL.out _ ho2) (fun hHeld2 => ?_)
              replace hHeld2 := hHeld2 rfl
              clear hK K
              try simp only [List.getElem_toArray, List.getElem_cons_zero, List.getElem_cons_succ, Act.put, List.setIfInBounds_toArray, List.set_cons_zero, List.set_cons_succ]
              refine late.done (by kernel_rfl) ?_ _
              refine NoPanic.normal ?_
              have ho3 := ho2
              have HO9 := Lib.hid (HO.out.trans (Only.p p ho2))
              have HOZ := Lib.hid ho2
              have f3' := f3
              clear HSL
              go_upto_region 19 with fail
              obtain ⟨w6, hw6⟩ : ∃ zz, zz = z2.setCell ⟨g, 3, none⟩ (.int .i64 (au - x)) := ⟨_, rfl⟩
              simp only [← hw6]
              have d0 : w6.cell? ⟨g, 0, none⟩ = some (.int .i64 (at_)) := by rw [hw6]; rw [cell_other (off_ne (by omega))]; exact e0
              have d1 : w6.cell? ⟨g, 1, none⟩ = some (.int .i64 (ac)) := by rw [hw6]; rw [cell_other (off_ne (by omega))]; exact e1
              have d2 : w6.cell? ⟨g, 2, none⟩ = some (.int .i64 (ae)) := by rw [hw6]; rw [cell_other (off_ne (by omega))]; exact e2
              have d3 : w6.cell? ⟨g, 3, none⟩ = some (.int .i64 (au - x)) := by rw [hw6]; exact cell_same e3
              have d4 : w6.cell? ⟨g, 4, none⟩ = some (.int .i64 (ah)) := by rw [hw6]; rw [cell_other (off_ne (by omega))]; exact e4
              have ho6 : Only (fun _ => False) wr w6 := ho2.then (by rw [hw6]; exact Only.set (fun q => q = g) z2 g 3 _ rfl) (fun i hi e => by omega)
              have cx6 := ho6.cell' cx (fun f => f)
              have HO6 := Lib.hid ho6
              clear hw6 e0 e1 e2 e3 e4 f3 f4 f3' ho2 ho3 ho6 cx HO9 HOZ
              refine wp_region_noPanic ?_
              refine late.region (fun w' => ∀ q, w'.cell? q = w6.cell? q) (fun j => [9].contains j) (by kernel_rfl) (fun q => by simp) (fun hHeld => ?_)
              obtain ⟨z0, hz0⟩ : ∃ x, x = w6.drew := ⟨_, rfl⟩
              rw [← hz0] at hHeld ⊢
              have hou : Only (fun _ => False) w6 z0 := by rw [hz0]; exact (Only.refl _ _).drew
              have ho7 := HO6.out.trans hou
              have hrm := ((HBJ.out.only ho7 (fun f => f)).room k k2)
              obtain ⟨⟨u0, y0⟩, ⟨u1, y1⟩, ⟨u2, y2⟩, ⟨u3, y3⟩, ⟨u4, y4⟩, f0, f1, f2, f3, f4⟩ := hrm
              have HS9 := Lib.hid (HPUT.out _ (HBJ.out.only ho7 (fun f => f)))
              have HO9 := Lib.hid ((Only.p p ho7).trans (put5_only z0 p (k * 5) (.int .i64 at_) (.int .i64 ac) (.int .i64 ae) (.int .i64 (au - x)) (.int .i64 (ah))))
              unfold put5 at HS9 HO9
              clear ho7
              clear hou hz0
              refine late.take (i := 0) [6, 7, 8, 9] (v := ?_) rfl (by kernel_rfl) (by kernel_rfl) (by kernel_rfl) (by kernel_rfl) (fun _ _ _ h => h) (Or.inl ⟨by rfl, ?_⟩) (by assumption) ?_
              rotate_left 1
              · intro w' hSw
                try dsimp only at hSw
                go_simp
                try with_reducible rfl
              try simp only [List.getElem_toArray, List.getElem_cons_zero, Act.put, List.setIfInBounds_toArray, List.set_cons_zero, List.set_cons_succ]
              refine late.take (i := 1) [3, 4, 8, 9] (v := ?_) rfl (by kernel_rfl) (by kernel_rfl) (by kernel_rfl) (by kernel_rfl) (fun _ _ _ h => h) (Or.inl ⟨by rfl, ?_⟩) (by assumption) ?_
              rotate_left 1
              · intro w' hSw
                try dsimp only at hSw
                go_simp
                try with_reducible rfl
              try simp only [List.getElem_toArray, List.getElem_cons_zero, List.getElem_cons_succ, Act.put, List.setIfInBounds_toArray, List.set_cons_zero, List.set_cons_succ]
              refine late.take (i := 2) [3, 4, 8, 9] (v := ?_) rfl (by kernel_rfl) (by kernel_rfl) (by kernel_rfl) (by kernel_rfl) (fun _ _ _ h => h) (Or.inl ⟨by rfl, ?_⟩) (by assumption) ?_
              rotate_left 1
              · intro w' hSw
                try dsimp only at hSw
                go_simp
                try with_reducible rfl
              try simp only [List.getElem_toArray, List.getElem_cons_zero, List.getElem_cons_succ, Act.put, List.setIfInBounds_toArray, List.set_cons_zero, List.set_cons_succ]
              refine late.take (i := 3) [4, 8, 9] (v := ?_) rfl (by kernel_rfl) (by kernel_rfl) (by kernel_rfl) (by kernel_rfl) (fun _ _ _ h => h) (Or.inl ⟨by rfl, ?_⟩) (by assumption) ?_
              rotate_left 1
              · intro w' hSw
                try dsimp only at hSw
                go_simp
                try with_reducible rfl
              try simp only [List.getElem_toArray, List.getElem_cons_zero, List.getElem_cons_succ, Act.put, List.setIfInBounds_toArray, List.set_cons_zero, List.set_cons_succ]
              refine late.take (i := 4) [8, 9] (v := ?_) rfl (by kernel_rfl) (by kernel_rfl) (by kernel_rfl) (by kernel_rfl) (fun _ _ _ h => h) (Or.inl ⟨by rfl, ?_⟩) (by assumption) ?_
              rotate_left 1
              · intro w' hSw
                try dsimp only at hSw
                go_simp
                try with_reducible rfl
              try simp only [List.getElem_toArray, List.getElem_cons_zero, List.getElem_cons_succ, Act.put, List.setIfInBounds_toArray, List.set_cons_zero, List.set_cons_succ]
              refine late.take (i := 5) [8, 9] (v := ?_) rfl (by kernel_rfl) (by kernel_rfl) (by kernel_rfl) (by kernel_rfl) (fun _ _ _ h => h) (Or.inl ⟨by rfl, ?_⟩) (by assumption) ?_
              rotate_left 1
              · intro w' hSw
                try dsimp only at hSw
                go_simp
                try with_reducible rfl
              try simp only [List.getElem_toArray, List.getElem_cons_zero, List.getElem_cons_succ, Act.put, List.setIfInBounds_toArray, List.set_cons_zero, List.set_cons_succ]
              refine late.take (i := 6) [7, 8, 9] (v := ?_) rfl (by kernel_rfl) (by kernel_rfl) (by kernel_rfl) (by kernel_rfl) (fun _ _ _ h => h) (Or.inl ⟨by rfl, ?_⟩) (by assumption) ?_
              rotate_left 1
              · intro w' hSw
                try dsimp only at hSw
                go_simp
                try with_reducible rfl
              try simp only [List.getElem_toArray, List.getElem_cons_zero, List.getElem_cons_succ, Act.put, List.setIfInBounds_toArray, List.set_cons_zero, List.set_cons_succ]
              refine late.take (i := 7) [8, 9] (v := ?_) rfl (by kernel_rfl) (by kernel_rfl) (by kernel_rfl) (by kernel_rfl) (fun _ _ _ h => h) (Or.inl ⟨by rfl, ?_⟩) (by assumption) ?_
              rotate_left 1
              · intro w' hSw
                try dsimp only at hSw
                go_simp
                try with_reducible rfl
              try simp only [List.getElem_toArray, List.getElem_cons_zero, List.getElem_cons_succ, Act.put, List.setIfInBounds_toArray, List.set_cons_zero, List.set_cons_succ]
              refine late.take (i := 8) [9] (v := ?_) rfl (by kernel_rfl) (by kernel_rfl) (by kernel_rfl) (by kernel_rfl) (fun _ _ _ h => h) (Or.inl ⟨by rfl, ?_⟩) (by assumption) ?_
              rotate_left 1
              · intro w' hSw
                try dsimp only at hSw
                go_simp
                try with_reducible rfl
              try simp only [List.getElem_toArray, List.getElem_cons_zero, List.getElem_cons_succ, Act.put, List.setIfInBounds_toArray, List.set_cons_zero, List.set_cons_succ]
              refine late.ready (rs := [9]) (by kernel_rfl) (by simp) ?_
              refine late.Each.cons rfl (fun K hK => ?_) late.Each.nil
              clear hHeld
              try simp only [List.getElem_toArray, List.getElem_cons_zero, List.getElem_cons_succ]
              go_simp
              refine hK.out _ _ (fun h => by cases h) (fun _ => ?_)
              clear hK K
              try simp only [List.getElem_toArray, List.getElem_cons_zero, List.getElem_cons_succ, Act.put, List.setIfInBounds_toArray, List.set_cons_zero, List.set_cons_succ]
              refine late.done (by kernel_rfl) ?_ _
              refine NoPanic.normal ?_
              go_wp2_with fail
              go_roundw
              case rel => exact ⟨i + 1, by omega, by go_num, HS9, Lib.hid (HO.out.trans HO9.out)⟩
              case measure => simp [intOf]; omega
            · obtain rfl : i = n := by omega
              have HEN : Hid (BkAt wr p A' ∧ Only (fun q => q = p) w wr) := Lib.hid ⟨by rw [HFA.out.2, ← HFN.out]; exact HBJ.out, (Only.p p HO2.out).trans HO.out⟩
              go_wp2_with fail
              go_ret
              exact ⟨by rw [HFA.out.1]; rfl, HEN.out⟩
    · rw [HDP.out] at HIS
      have hE : shE A l x (0) (-x) = 1 := by unfold shE; rw [if_neg (fun q => hx q.2)]
      have hT : shA A l x (0) (-x) = A := by unfold shA; rw [hE]; rfl
      rw [hE, hT]
      clear hE hT
      clear hp HDP
      by_cases x1 : 1 ≤ x
      · have x2 : ¬ x ≤ 9007199254740992 := fun q => hx ⟨x1, q⟩
        clear hx
        go_enter Try.func68, Try.ntmps68
        go_wp2_with fail
        refine (HIS.out).mono ?_
        rintro _ w1 ⟨rfl, ho⟩
        have HO := Lib.hid ho
        clear ho
        go_wp2_with fail
        go_ret
        exact ⟨rfl, HB.out.only HO.out (fun f => f), Only.p p HO.out⟩
      · clear hx
        go_enter Try.func68, Try.ntmps68
        go_wp2_with fail
        refine (HIS.out).mono ?_
        rintro _ w1 ⟨rfl, ho⟩
        have HO := Lib.hid ho
        clear ho
        go_wp2_with fail
        go_ret
        exact ⟨rfl, HB.out.only HO.out (fun f => f), Only.p p HO.out⟩
  · have HDP : Hid (decide (PathOk l) = false) := Lib.hid (decide_eq_false hp)
    rw [HDP.out] at HIS
    have hE : shE A l x (0) (-x) = 1 := by unfold shE; rw [if_neg (fun q => hp q.1)]
    have hT : shA A l x (0) (-x) = A := by unfold shA; rw [hE]; rfl
    rw [hE, hT]
    clear hE hT
    clear hp HDP
    go_enter Try.func68, Try.ntmps68
    go_wp2_with fail
    refine (HIS.out).mono ?_
    rintro _ w1 ⟨rfl, ho⟩
    have HO := Lib.hid ho
    clear ho
    go_wp2_with fail
    go_ret
    exact ⟨rfl, HB.out.only HO.out (fun f => f), Only.p p HO.out⟩
end Go.Proofs.Ytfpeimihlihphaa.fnd
