/- Books: Roll. -/
import Derived.Test.YtkbaafgaaiekpaaFuC
namespace Go.Proofs.Ytkbaafgaaiekpaa.fnd
open Go.RowKit mem tre
set_option linter.unusedVariables false

def RollDid (p : Nat) (A' : List Ac) (n E : Int) (w : World) (e : Ending) (w' : World) : Prop := e = .returned (.tuple #[.int .i64 n, .int .i64 E]) ∧ BkAt w' p A' ∧ Only (fun q => q = p) w w'
set_option maxRecDepth 100000 in
set_option maxHeartbeats 400000 in
theorem roll_any (p : Nat) (A : List Ac) (n : Int) (carry : Bool) (w : World) (h : BkAt w p A) (hA : Bok A) : Calls Try.prog 33 #[.pointer (some ⟨p, 0, none⟩), .int .i64 n, .bool carry] w (RollDid p (rollA A n carry) (rollN A n carry) (rollE n) w) := by
  have HB := Lib.hid h
  have HA := Lib.hid hA
  clear h hA
  by_cases hn : NodeOk n
  · have hE : rollE n = 0 := by unfold rollE; rw [if_pos hn]
    have hT : rollA A n carry = A.set n.toNat (rolled (acG A n) carry) := by unfold rollA; rw [if_pos hn]
    have hN : rollN A n carry = goneN (acG A n) carry := by unfold rollN; rw [if_pos hn]
    rw [hE, hT, hN]
    clear hE hT hN
    have hok := acG_ok HA.out n
    obtain ⟨i1, i2⟩ := hn
    obtain ⟨k, rfl⟩ : ∃ k : Nat, n = k := ⟨n.toNat, by omega⟩
    have hk : k < 33 := by omega
    have hk2 : (k : Int) < 33 := by omega
    have hk0 : (0 : Int) ≤ k := by omega
    rw [acG_nat (by omega) hk] at hok ⊢
    rw [Int.toNat_natCast]
    obtain ⟨c0, c1, c2, c3, c4⟩ := HB.out.1 k hk
    generalize A.getD k zA = a at *
    have HAV : Hid (∀ w1, _) := Lib.hid (fun w1 => avail_any a w1 hok.1)
    obtain ⟨at_, ac, ae, au, ah⟩ := a
    unfold aggA at HAV
    dsimp only at c0 c1 c2 c3 c4 HAV
    obtain ⟨⟨⟨a1, a2⟩, ⟨b1, b2⟩, ⟨d1, d2⟩, ⟨f1, f2⟩, ⟨g1, g2⟩⟩, hs, hl⟩ := hok
    unfold left at hl
    dsimp only at a1 a2 b1 b2 d1 d2 f1 f2 g1 g2 hs hl
    have q1 : IntKind.i64.wrap (at_ + ac) = at_ + ac := w64 _ (by omega) (by omega)
    have q2 : IntKind.i64.wrap (at_ + ac - ae) = at_ + ac - ae := w64 _ (by omega) (by omega)
    have HGB : Hid (∀ b, -100000000000000000 ≤ goneN ⟨at_, ac, ae, au, ah⟩ b ∧ goneN ⟨at_, ac, ae, au, ah⟩ b ≤ 100000000000000000) := Lib.hid (fun b => by cases b <;> simp [goneN, left] <;> omega)
    have HGD : Hid (goneN ⟨at_, ac, ae, au, ah⟩ false = left ⟨at_, ac, ae, au, ah⟩ ∧ goneN ⟨at_, ac, ae, au, ah⟩ true = 0) := Lib.hid ⟨rfl, rfl⟩
    have HW2 : Hid (∀ b, IntKind.i64.wrap (at_ + ac - ae - goneN ⟨at_, ac, ae, au, ah⟩ b) = at_ + ac - ae - goneN ⟨at_, ac, ae, au, ah⟩ b ∧ IntKind.i64.wrap (at_ + ac - ae - goneN ⟨at_, ac, ae, au, ah⟩ b - au) = at_ + ac - ae - goneN ⟨at_, ac, ae, au, ah⟩ b - au) := Lib.hid (fun b => by
      have := HGB.out b
      exact ⟨w64 _ (by omega) (by omega), w64 _ (by omega) (by omega)⟩)
    have HST : Hid (∀ w1 b, Only (fun _ => False) w w1 → BkAt (put5 w1 p (k * 5) (.int .i64 0) (.int .i64 (at_ + ac - ae - goneN ⟨at_, ac, ae, au, ah⟩ b - au)) (.int .i64 0) (.int .i64 0) (.int .i64 ah)) p (A.set k (rolled ⟨at_, ac, ae, au, ah⟩ b))) := Lib.hid (fun w1 b ho => (HB.out.only ho (fun f => f)).put HA.out.len k (rolled ⟨at_, ac, ae, au, ah⟩ b) hk)
    have HRM : Hid (∀ w1, Only (fun _ => False) w w1 → _) := Lib.hid (fun w1 ho => (HB.out.only ho (fun f => f)).room k hk)
    clear a1 a2 b1 b2 d1 d2 f1 f2 g1 g2 hs hl HGB
    cases carry
    · have hgn := HGD.out.1
      obtain ⟨q3, q4⟩ := HW2.out false
      have HST2 : Hid (∀ w1, Only (fun _ => False) w w1 → _) := Lib.hid (fun w1 ho => HST.out w1 false ho)
      rw [hgn] at q3 q4 HST2 ⊢
      clear hgn HGD HW2 HST
      generalize left ⟨at_, ac, ae, au, ah⟩ = gn at *
      go_enter Try.func33, Try.ntmps33
      go_wp2_with fail
      refine (isNode_yes _ _ i1 i2).mono ?_
      rintro _ _ ⟨rfl, rfl⟩
      go_wp2_with fail
      refine (HAV.out _).mono ?_
      rintro _ w2 ⟨rfl, ho⟩
      have HO2 := Lib.hid ho
      have x0 := ho.cell' c0 (fun f => f)
      have x1 := ho.cell' c1 (fun f => f)
      have x2 := ho.cell' c2 (fun f => f)
      have x3 := ho.cell' c3 (fun f => f)
      have x4 := ho.cell' c4 (fun f => f)
      clear ho c0 c1 c2 c3 c4
      go_upto_region 7 with fail
      refine wp_region_noPanic ?_
      refine late.region (fun w' => ∀ q, w'.cell? q = w2.cell? q) (fun j => [].contains j) (by kernel_rfl) (fun q => by simp) (fun hHeld => ?_)
      refine late.take (i := 0) [1, 2, 3, 8, 13, 15, 20, 21] (v := ?_) rfl (by kernel_rfl) (by kernel_rfl) (by kernel_rfl) (by kernel_rfl) (fun _ _ _ h => h) (Or.inl ⟨by rfl, ?_⟩) (by assumption) ?_
      rotate_left 1
      · intro w' hSw
        try dsimp only at hSw
        go_simp
        try with_reducible rfl
      try simp only [List.getElem_toArray, List.getElem_cons_zero, Act.put, List.setIfInBounds_toArray, List.set_cons_zero, List.set_cons_succ]
      refine late.take (i := 1) [2, 3, 8, 13, 15, 20, 21] (v := ?_) rfl (by kernel_rfl) (by kernel_rfl) (by kernel_rfl) (by kernel_rfl) (fun _ _ _ h => h) (Or.inl ⟨by rfl, ?_⟩) (by assumption) ?_
      rotate_left 1
      · intro w' hSw
        try dsimp only at hSw
        go_simp
        try with_reducible rfl
      try simp only [List.getElem_toArray, List.getElem_cons_zero, List.getElem_cons_succ, Act.put, List.setIfInBounds_toArray, List.set_cons_zero, List.set_cons_succ]
      refine late.take (i := 2) [3, 8, 13, 15, 20, 21] (v := ?_) rfl (by kernel_rfl) (by kernel_rfl) (by kernel_rfl) (by kernel_rfl) (fun _ _ _ h => h) (Or.inl ⟨by rfl, ?_⟩) (by assumption) ?_
      rotate_left 1
      · intro w' hSw
        try dsimp only at hSw
        go_simp
        try with_reducible rfl
      try simp only [List.getElem_toArray, List.getElem_cons_zero, List.getElem_cons_succ, Act.put, List.setIfInBounds_toArray, List.set_cons_zero, List.set_cons_succ]
      refine late.take (i := 3) [8, 13, 15, 20, 21] (v := ?_) rfl (by kernel_rfl) (by kernel_rfl) (by kernel_rfl) (by kernel_rfl) (fun _ _ _ h => h) (Or.inl ⟨by rfl, ?_⟩) (by assumption) ?_
      rotate_left 1
      · intro w' hSw
        try dsimp only at hSw
        go_simp
        try with_reducible rfl
      try simp only [List.getElem_toArray, List.getElem_cons_zero, List.getElem_cons_succ, Act.put, List.setIfInBounds_toArray, List.set_cons_zero, List.set_cons_succ]
      refine late.take (i := 4) [5, 6, 7, 8, 13, 15, 20, 21] (v := ?_) rfl (by kernel_rfl) (by kernel_rfl) (by kernel_rfl) (by kernel_rfl) (fun _ _ _ h => h) (Or.inl ⟨by rfl, ?_⟩) (by assumption) ?_
      rotate_left 1
      · intro w' hSw
        try dsimp only at hSw
        go_simp
        try with_reducible rfl
      try simp only [List.getElem_toArray, List.getElem_cons_zero, List.getElem_cons_succ, Act.put, List.setIfInBounds_toArray, List.set_cons_zero, List.set_cons_succ]
      refine late.take (i := 5) [6, 7, 8, 13, 15, 20, 21] (v := ?_) rfl (by kernel_rfl) (by kernel_rfl) (by kernel_rfl) (by kernel_rfl) (fun _ _ _ h => h) (Or.inl ⟨by rfl, ?_⟩) (by assumption) ?_
      rotate_left 1
      · intro w' hSw
        try dsimp only at hSw
        go_simp
        try with_reducible rfl
      try simp only [List.getElem_toArray, List.getElem_cons_zero, List.getElem_cons_succ, Act.put, List.setIfInBounds_toArray, List.set_cons_zero, List.set_cons_succ]
      refine late.take (i := 6) [7, 8, 13, 15, 20, 21] (v := ?_) rfl (by kernel_rfl) (by kernel_rfl) (by kernel_rfl) (by kernel_rfl) (fun _ _ _ h => h) (Or.inl ⟨by rfl, ?_⟩) (by assumption) ?_
      rotate_left 1
      · intro w' hSw
        try dsimp only at hSw
        go_simp
        try with_reducible rfl
      try simp only [List.getElem_toArray, List.getElem_cons_zero, List.getElem_cons_succ, Act.put, List.setIfInBounds_toArray, List.set_cons_zero, List.set_cons_succ]
      refine late.take (i := 7) [8, 13, 15, 20, 21] (v := ?_) rfl (by kernel_rfl) (by kernel_rfl) (by kernel_rfl) (by kernel_rfl) (fun _ _ _ h => h) (Or.inl ⟨by rfl, ?_⟩) (by assumption) ?_
      rotate_left 1
      · intro w' hSw
        try dsimp only at hSw
        go_simp
        try with_reducible rfl
      try simp only [List.getElem_toArray, List.getElem_cons_zero, List.getElem_cons_succ, Act.put, List.setIfInBounds_toArray, List.set_cons_zero, List.set_cons_succ]
      refine late.take (i := 8) [13, 15, 20, 21] (v := ?_) rfl (by kernel_rfl) (by kernel_rfl) (by kernel_rfl) (by kernel_rfl) (fun _ _ _ h => h) (Or.inl ⟨by rfl, ?_⟩) (by assumption) ?_
      rotate_left 1
      · intro w' hSw
        try dsimp only at hSw
        go_simp
        try with_reducible rfl
      try simp only [List.getElem_toArray, List.getElem_cons_zero, List.getElem_cons_succ, Act.put, List.setIfInBounds_toArray, List.set_cons_zero, List.set_cons_succ]
      refine late.take (i := 9) [10, 11, 12, 13, 15, 20, 21] (v := ?_) rfl (by kernel_rfl) (by kernel_rfl) (by kernel_rfl) (by kernel_rfl) (fun _ _ _ h => h) (Or.inl ⟨by rfl, ?_⟩) (by assumption) ?_
      rotate_left 1
      · intro w' hSw
        try dsimp only at hSw
        go_simp
        try with_reducible rfl
      try simp only [List.getElem_toArray, List.getElem_cons_zero, List.getElem_cons_succ, Act.put, List.setIfInBounds_toArray, List.set_cons_zero, List.set_cons_succ]
      refine late.take (i := 10) [11, 12, 13, 15, 20, 21] (v := ?_) rfl (by kernel_rfl) (by kernel_rfl) (by kernel_rfl) (by kernel_rfl) (fun _ _ _ h => h) (Or.inl ⟨by rfl, ?_⟩) (by assumption) ?_
      rotate_left 1
      · intro w' hSw
        try dsimp only at hSw
        go_simp
        try with_reducible rfl
      try simp only [List.getElem_toArray, List.getElem_cons_zero, List.getElem_cons_succ, Act.put, List.setIfInBounds_toArray, List.set_cons_zero, List.set_cons_succ]
      refine late.take (i := 11) [12, 13, 15, 20, 21] (v := ?_) rfl (by kernel_rfl) (by kernel_rfl) (by kernel_rfl) (by kernel_rfl) (fun _ _ _ h => h) (Or.inl ⟨by rfl, ?_⟩) (by assumption) ?_
      rotate_left 1
      · intro w' hSw
        try dsimp only at hSw
        go_simp
        try with_reducible rfl
      try simp only [List.getElem_toArray, List.getElem_cons_zero, List.getElem_cons_succ, Act.put, List.setIfInBounds_toArray, List.set_cons_zero, List.set_cons_succ]
      refine late.take (i := 12) [13, 15, 20, 21] (v := ?_) rfl (by kernel_rfl) (by kernel_rfl) (by kernel_rfl) (by kernel_rfl) (fun _ _ _ h => h) (Or.inl ⟨by rfl, ?_⟩) (by assumption) ?_
      rotate_left 1
      · intro w' hSw
        try dsimp only at hSw
        go_simp
        try with_reducible rfl
      try simp only [List.getElem_toArray, List.getElem_cons_zero, List.getElem_cons_succ, Act.put, List.setIfInBounds_toArray, List.set_cons_zero, List.set_cons_succ]
      refine late.take (i := 13) [15, 20, 21] (v := ?_) rfl (by kernel_rfl) (by kernel_rfl) (by kernel_rfl) (by kernel_rfl) (fun _ _ _ h => h) (Or.inl ⟨by rfl, ?_⟩) (by assumption) ?_
      rotate_left 1
      · intro w' hSw
        try dsimp only at hSw
        go_simp
        try with_reducible rfl
      try simp only [List.getElem_toArray, List.getElem_cons_zero, List.getElem_cons_succ, Act.put, List.setIfInBounds_toArray, List.set_cons_zero, List.set_cons_succ]
      refine late.take (i := 14) [15, 20, 21] (v := ?_) rfl (by kernel_rfl) (by kernel_rfl) (by kernel_rfl) (by kernel_rfl) (fun _ _ _ h => h) (Or.inl ⟨by rfl, ?_⟩) (by assumption) ?_
      rotate_left 1
      · intro w' hSw
        try dsimp only at hSw
        go_simp
        try with_reducible rfl
      try simp only [List.getElem_toArray, List.getElem_cons_zero, List.getElem_cons_succ, Act.put, List.setIfInBounds_toArray, List.set_cons_zero, List.set_cons_succ]
      refine late.take (i := 15) [20, 21] (v := ?_) rfl (by kernel_rfl) (by kernel_rfl) (by kernel_rfl) (by kernel_rfl) (fun _ _ _ h => h) (Or.inl ⟨by rfl, ?_⟩) (by assumption) ?_
      rotate_left 1
      · intro w' hSw
        try dsimp only at hSw
        go_simp
        try with_reducible rfl
      try simp only [List.getElem_toArray, List.getElem_cons_zero, List.getElem_cons_succ, Act.put, List.setIfInBounds_toArray, List.set_cons_zero, List.set_cons_succ]
      refine late.take (i := 16) [17, 18, 19, 20, 21] (v := ?_) rfl (by kernel_rfl) (by kernel_rfl) (by kernel_rfl) (by kernel_rfl) (fun _ _ _ h => h) (Or.inl ⟨by rfl, ?_⟩) (by assumption) ?_
      rotate_left 1
      · intro w' hSw
        try dsimp only at hSw
        go_simp
        try with_reducible rfl
      try simp only [List.getElem_toArray, List.getElem_cons_zero, List.getElem_cons_succ, Act.put, List.setIfInBounds_toArray, List.set_cons_zero, List.set_cons_succ]
      refine late.take (i := 17) [18, 19, 20, 21] (v := ?_) rfl (by kernel_rfl) (by kernel_rfl) (by kernel_rfl) (by kernel_rfl) (fun _ _ _ h => h) (Or.inl ⟨by rfl, ?_⟩) (by assumption) ?_
      rotate_left 1
      · intro w' hSw
        try dsimp only at hSw
        go_simp
        try with_reducible rfl
      try simp only [List.getElem_toArray, List.getElem_cons_zero, List.getElem_cons_succ, Act.put, List.setIfInBounds_toArray, List.set_cons_zero, List.set_cons_succ]
      refine late.take (i := 18) [19, 20, 21] (v := ?_) rfl (by kernel_rfl) (by kernel_rfl) (by kernel_rfl) (by kernel_rfl) (fun _ _ _ h => h) (Or.inl ⟨by rfl, ?_⟩) (by assumption) ?_
      rotate_left 1
      · intro w' hSw
        try dsimp only at hSw
        go_simp
        try with_reducible rfl
      try simp only [List.getElem_toArray, List.getElem_cons_zero, List.getElem_cons_succ, Act.put, List.setIfInBounds_toArray, List.set_cons_zero, List.set_cons_succ]
      refine late.take (i := 19) [20, 21] (v := ?_) rfl (by kernel_rfl) (by kernel_rfl) (by kernel_rfl) (by kernel_rfl) (fun _ _ _ h => h) (Or.inl ⟨by rfl, ?_⟩) (by assumption) ?_
      rotate_left 1
      · intro w' hSw
        try dsimp only at hSw
        go_simp
        try with_reducible rfl
      try simp only [List.getElem_toArray, List.getElem_cons_zero, List.getElem_cons_succ, Act.put, List.setIfInBounds_toArray, List.set_cons_zero, List.set_cons_succ]
      refine late.take (i := 20) [21] (v := ?_) rfl (by kernel_rfl) (by kernel_rfl) (by kernel_rfl) (by kernel_rfl) (fun _ _ _ h => h) (Or.inl ⟨by rfl, ?_⟩) (by assumption) ?_
      rotate_left 1
      · intro w' hSw
        try dsimp only at hSw
        go_simp
        try with_reducible rfl
      try simp only [List.getElem_toArray, List.getElem_cons_zero, List.getElem_cons_succ, Act.put, List.setIfInBounds_toArray, List.set_cons_zero, List.set_cons_succ]
      refine late.take (i := 21) [] (v := ?_) rfl (by kernel_rfl) (by kernel_rfl) (by kernel_rfl) (by kernel_rfl) (fun _ _ _ h => h) (Or.inl ⟨by rfl, ?_⟩) (by assumption) ?_
      rotate_left 1
      · intro w' hSw
        try dsimp only at hSw
        go_simp
        try with_reducible rfl
      try simp only [List.getElem_toArray, List.getElem_cons_zero, List.getElem_cons_succ, Act.put, List.setIfInBounds_toArray, List.set_cons_zero, List.set_cons_succ]
      refine late.done (by kernel_rfl) ?_ _
      refine NoPanic.normal ?_
      have ho5 : Only (fun _ => False) w w2.drew := HO2.out.drew
      obtain ⟨w5, hw5⟩ : ∃ x, x = w2.drew := ⟨_, rfl⟩
      rw [← hw5] at ho5 ⊢
      obtain ⟨⟨u0, y0⟩, ⟨u1, y1⟩, ⟨u2, y2⟩, ⟨u3, y3⟩, ⟨u4, y4⟩, f0, f1, f2, f3, f4⟩ := HRM.out _ ho5
      have x4' : w5.cell? ⟨p, k * 5 + 4, none⟩ = some (.int .i64 ah) := by rw [hw5]; simpa using x4
      have HS9 := Lib.hid (HST2.out _ ho5)
      have HO9 := Lib.hid ((Only.p p ho5).trans (put5_only w5 p (k * 5) (.int .i64 0) (.int .i64 (at_ + ac - ae - gn - au)) (.int .i64 0) (.int .i64 0) (.int .i64 ah)))
      unfold put5 at HS9 HO9
      clear ho5 hw5 HST2 HRM x0 x1 x2 x3 x4 hHeld y4
      go_wp2_with fail
      go_ret2
      exact ⟨rfl, HS9.out, HO9.out⟩
    · have hgn := HGD.out.2
      obtain ⟨q3, q4⟩ := HW2.out true
      have HST2 : Hid (∀ w1, Only (fun _ => False) w w1 → _) := Lib.hid (fun w1 ho => HST.out w1 true ho)
      rw [hgn] at q3 q4 HST2 ⊢
      clear hgn HGD HW2 HST
      simp only [Int.sub_zero] at q3 q4 HST2
      have ho : Only (fun _ => False) w w := Only.refl _ _
      go_enter Try.func33, Try.ntmps33
      go_wp2_with fail
      refine (isNode_yes _ _ i1 i2).mono ?_
      rintro _ _ ⟨rfl, rfl⟩
      have HO2 := Lib.hid ho
      have x0 := ho.cell' c0 (fun f => f)
      have x1 := ho.cell' c1 (fun f => f)
      have x2 := ho.cell' c2 (fun f => f)
      have x3 := ho.cell' c3 (fun f => f)
      have x4 := ho.cell' c4 (fun f => f)
      clear ho c0 c1 c2 c3 c4
      go_upto_region 7 with fail
      refine wp_region_noPanic ?_
      refine late.region (fun w' => ∀ q, w'.cell? q = w.cell? q) (fun j => [].contains j) (by kernel_rfl) (fun q => by simp) (fun hHeld => ?_)
      refine late.take (i := 0) [1, 2, 3, 8, 13, 15, 20, 21] (v := ?_) rfl (by kernel_rfl) (by kernel_rfl) (by kernel_rfl) (by kernel_rfl) (fun _ _ _ h => h) (Or.inl ⟨by rfl, ?_⟩) (by assumption) ?_
      rotate_left 1
      · intro w' hSw
        try dsimp only at hSw
        go_simp
        try with_reducible rfl
      try simp only [List.getElem_toArray, List.getElem_cons_zero, Act.put, List.setIfInBounds_toArray, List.set_cons_zero, List.set_cons_succ]
      refine late.take (i := 1) [2, 3, 8, 13, 15, 20, 21] (v := ?_) rfl (by kernel_rfl) (by kernel_rfl) (by kernel_rfl) (by kernel_rfl) (fun _ _ _ h => h) (Or.inl ⟨by rfl, ?_⟩) (by assumption) ?_
      rotate_left 1
      · intro w' hSw
        try dsimp only at hSw
        go_simp
        try with_reducible rfl
      try simp only [List.getElem_toArray, List.getElem_cons_zero, List.getElem_cons_succ, Act.put, List.setIfInBounds_toArray, List.set_cons_zero, List.set_cons_succ]
      refine late.take (i := 2) [3, 8, 13, 15, 20, 21] (v := ?_) rfl (by kernel_rfl) (by kernel_rfl) (by kernel_rfl) (by kernel_rfl) (fun _ _ _ h => h) (Or.inl ⟨by rfl, ?_⟩) (by assumption) ?_
      rotate_left 1
      · intro w' hSw
        try dsimp only at hSw
        go_simp
        try with_reducible rfl
      try simp only [List.getElem_toArray, List.getElem_cons_zero, List.getElem_cons_succ, Act.put, List.setIfInBounds_toArray, List.set_cons_zero, List.set_cons_succ]
      refine late.take (i := 3) [8, 13, 15, 20, 21] (v := ?_) rfl (by kernel_rfl) (by kernel_rfl) (by kernel_rfl) (by kernel_rfl) (fun _ _ _ h => h) (Or.inl ⟨by rfl, ?_⟩) (by assumption) ?_
      rotate_left 1
      · intro w' hSw
        try dsimp only at hSw
        go_simp
        try with_reducible rfl
      try simp only [List.getElem_toArray, List.getElem_cons_zero, List.getElem_cons_succ, Act.put, List.setIfInBounds_toArray, List.set_cons_zero, List.set_cons_succ]
      refine late.take (i := 4) [5, 6, 7, 8, 13, 15, 20, 21] (v := ?_) rfl (by kernel_rfl) (by kernel_rfl) (by kernel_rfl) (by kernel_rfl) (fun _ _ _ h => h) (Or.inl ⟨by rfl, ?_⟩) (by assumption) ?_
      rotate_left 1
      · intro w' hSw
        try dsimp only at hSw
        go_simp
        try with_reducible rfl
      try simp only [List.getElem_toArray, List.getElem_cons_zero, List.getElem_cons_succ, Act.put, List.setIfInBounds_toArray, List.set_cons_zero, List.set_cons_succ]
      refine late.take (i := 5) [6, 7, 8, 13, 15, 20, 21] (v := ?_) rfl (by kernel_rfl) (by kernel_rfl) (by kernel_rfl) (by kernel_rfl) (fun _ _ _ h => h) (Or.inl ⟨by rfl, ?_⟩) (by assumption) ?_
      rotate_left 1
      · intro w' hSw
        try dsimp only at hSw
        go_simp
        try with_reducible rfl
      try simp only [List.getElem_toArray, List.getElem_cons_zero, List.getElem_cons_succ, Act.put, List.setIfInBounds_toArray, List.set_cons_zero, List.set_cons_succ]
      refine late.take (i := 6) [7, 8, 13, 15, 20, 21] (v := ?_) rfl (by kernel_rfl) (by kernel_rfl) (by kernel_rfl) (by kernel_rfl) (fun _ _ _ h => h) (Or.inl ⟨by rfl, ?_⟩) (by assumption) ?_
      rotate_left 1
      · intro w' hSw
        try dsimp only at hSw
        go_simp
        try with_reducible rfl
      try simp only [List.getElem_toArray, List.getElem_cons_zero, List.getElem_cons_succ, Act.put, List.setIfInBounds_toArray, List.set_cons_zero, List.set_cons_succ]
      refine late.take (i := 7) [8, 13, 15, 20, 21] (v := ?_) rfl (by kernel_rfl) (by kernel_rfl) (by kernel_rfl) (by kernel_rfl) (fun _ _ _ h => h) (Or.inl ⟨by rfl, ?_⟩) (by assumption) ?_
      rotate_left 1
      · intro w' hSw
        try dsimp only at hSw
        go_simp
        try with_reducible rfl
      try simp only [List.getElem_toArray, List.getElem_cons_zero, List.getElem_cons_succ, Act.put, List.setIfInBounds_toArray, List.set_cons_zero, List.set_cons_succ]
      refine late.take (i := 8) [13, 15, 20, 21] (v := ?_) rfl (by kernel_rfl) (by kernel_rfl) (by kernel_rfl) (by kernel_rfl) (fun _ _ _ h => h) (Or.inl ⟨by rfl, ?_⟩) (by assumption) ?_
      rotate_left 1
      · intro w' hSw
        try dsimp only at hSw
        go_simp
        try with_reducible rfl
      try simp only [List.getElem_toArray, List.getElem_cons_zero, List.getElem_cons_succ, Act.put, List.setIfInBounds_toArray, List.set_cons_zero, List.set_cons_succ]
      refine late.take (i := 9) [10, 11, 12, 13, 15, 20, 21] (v := ?_) rfl (by kernel_rfl) (by kernel_rfl) (by kernel_rfl) (by kernel_rfl) (fun _ _ _ h => h) (Or.inl ⟨by rfl, ?_⟩) (by assumption) ?_
      rotate_left 1
      · intro w' hSw
        try dsimp only at hSw
        go_simp
        try with_reducible rfl
      try simp only [List.getElem_toArray, List.getElem_cons_zero, List.getElem_cons_succ, Act.put, List.setIfInBounds_toArray, List.set_cons_zero, List.set_cons_succ]
      refine late.take (i := 10) [11, 12, 13, 15, 20, 21] (v := ?_) rfl (by kernel_rfl) (by kernel_rfl) (by kernel_rfl) (by kernel_rfl) (fun _ _ _ h => h) (Or.inl ⟨by rfl, ?_⟩) (by assumption) ?_
      rotate_left 1
      · intro w' hSw
        try dsimp only at hSw
        go_simp
        try with_reducible rfl
      try simp only [List.getElem_toArray, List.getElem_cons_zero, List.getElem_cons_succ, Act.put, List.setIfInBounds_toArray, List.set_cons_zero, List.set_cons_succ]
      refine late.take (i := 11) [12, 13, 15, 20, 21] (v := ?_) rfl (by kernel_rfl) (by kernel_rfl) (by kernel_rfl) (by kernel_rfl) (fun _ _ _ h => h) (Or.inl ⟨by rfl, ?_⟩) (by assumption) ?_
      rotate_left 1
      · intro w' hSw
        try dsimp only at hSw
        go_simp
        try with_reducible rfl
      try simp only [List.getElem_toArray, List.getElem_cons_zero, List.getElem_cons_succ, Act.put, List.setIfInBounds_toArray, List.set_cons_zero, List.set_cons_succ]
      refine late.take (i := 12) [13, 15, 20, 21] (v := ?_) rfl (by kernel_rfl) (by kernel_rfl) (by kernel_rfl) (by kernel_rfl) (fun _ _ _ h => h) (Or.inl ⟨by rfl, ?_⟩) (by assumption) ?_
      rotate_left 1
      · intro w' hSw
        try dsimp only at hSw
        go_simp
        try with_reducible rfl
      try simp only [List.getElem_toArray, List.getElem_cons_zero, List.getElem_cons_succ, Act.put, List.setIfInBounds_toArray, List.set_cons_zero, List.set_cons_succ]
      refine late.take (i := 13) [15, 20, 21] (v := ?_) rfl (by kernel_rfl) (by kernel_rfl) (by kernel_rfl) (by kernel_rfl) (fun _ _ _ h => h) (Or.inl ⟨by rfl, ?_⟩) (by assumption) ?_
      rotate_left 1
      · intro w' hSw
        try dsimp only at hSw
        go_simp
        try with_reducible rfl
      try simp only [List.getElem_toArray, List.getElem_cons_zero, List.getElem_cons_succ, Act.put, List.setIfInBounds_toArray, List.set_cons_zero, List.set_cons_succ]
      refine late.take (i := 14) [15, 20, 21] (v := ?_) rfl (by kernel_rfl) (by kernel_rfl) (by kernel_rfl) (by kernel_rfl) (fun _ _ _ h => h) (Or.inl ⟨by rfl, ?_⟩) (by assumption) ?_
      rotate_left 1
      · intro w' hSw
        try dsimp only at hSw
        go_simp
        try with_reducible rfl
      try simp only [List.getElem_toArray, List.getElem_cons_zero, List.getElem_cons_succ, Act.put, List.setIfInBounds_toArray, List.set_cons_zero, List.set_cons_succ]
      refine late.take (i := 15) [20, 21] (v := ?_) rfl (by kernel_rfl) (by kernel_rfl) (by kernel_rfl) (by kernel_rfl) (fun _ _ _ h => h) (Or.inl ⟨by rfl, ?_⟩) (by assumption) ?_
      rotate_left 1
      · intro w' hSw
        try dsimp only at hSw
        go_simp
        try with_reducible rfl
      try simp only [List.getElem_toArray, List.getElem_cons_zero, List.getElem_cons_succ, Act.put, List.setIfInBounds_toArray, List.set_cons_zero, List.set_cons_succ]
      refine late.take (i := 16) [17, 18, 19, 20, 21] (v := ?_) rfl (by kernel_rfl) (by kernel_rfl) (by kernel_rfl) (by kernel_rfl) (fun _ _ _ h => h) (Or.inl ⟨by rfl, ?_⟩) (by assumption) ?_
      rotate_left 1
      · intro w' hSw
        try dsimp only at hSw
        go_simp
        try with_reducible rfl
      try simp only [List.getElem_toArray, List.getElem_cons_zero, List.getElem_cons_succ, Act.put, List.setIfInBounds_toArray, List.set_cons_zero, List.set_cons_succ]
      refine late.take (i := 17) [18, 19, 20, 21] (v := ?_) rfl (by kernel_rfl) (by kernel_rfl) (by kernel_rfl) (by kernel_rfl) (fun _ _ _ h => h) (Or.inl ⟨by rfl, ?_⟩) (by assumption) ?_
      rotate_left 1
      · intro w' hSw
        try dsimp only at hSw
        go_simp
        try with_reducible rfl
      try simp only [List.getElem_toArray, List.getElem_cons_zero, List.getElem_cons_succ, Act.put, List.setIfInBounds_toArray, List.set_cons_zero, List.set_cons_succ]
      refine late.take (i := 18) [19, 20, 21] (v := ?_) rfl (by kernel_rfl) (by kernel_rfl) (by kernel_rfl) (by kernel_rfl) (fun _ _ _ h => h) (Or.inl ⟨by rfl, ?_⟩) (by assumption) ?_
      rotate_left 1
      · intro w' hSw
        try dsimp only at hSw
        go_simp
        try with_reducible rfl
      try simp only [List.getElem_toArray, List.getElem_cons_zero, List.getElem_cons_succ, Act.put, List.setIfInBounds_toArray, List.set_cons_zero, List.set_cons_succ]
      refine late.take (i := 19) [20, 21] (v := ?_) rfl (by kernel_rfl) (by kernel_rfl) (by kernel_rfl) (by kernel_rfl) (fun _ _ _ h => h) (Or.inl ⟨by rfl, ?_⟩) (by assumption) ?_
      rotate_left 1
      · intro w' hSw
        try dsimp only at hSw
        go_simp
        try with_reducible rfl
      try simp only [List.getElem_toArray, List.getElem_cons_zero, List.getElem_cons_succ, Act.put, List.setIfInBounds_toArray, List.set_cons_zero, List.set_cons_succ]
      refine late.take (i := 20) [21] (v := ?_) rfl (by kernel_rfl) (by kernel_rfl) (by kernel_rfl) (by kernel_rfl) (fun _ _ _ h => h) (Or.inl ⟨by rfl, ?_⟩) (by assumption) ?_
      rotate_left 1
      · intro w' hSw
        try dsimp only at hSw
        go_simp
        try with_reducible rfl
      try simp only [List.getElem_toArray, List.getElem_cons_zero, List.getElem_cons_succ, Act.put, List.setIfInBounds_toArray, List.set_cons_zero, List.set_cons_succ]
      refine late.take (i := 21) [] (v := ?_) rfl (by kernel_rfl) (by kernel_rfl) (by kernel_rfl) (by kernel_rfl) (fun _ _ _ h => h) (Or.inl ⟨by rfl, ?_⟩) (by assumption) ?_
      rotate_left 1
      · intro w' hSw
        try dsimp only at hSw
        go_simp
        try with_reducible rfl
      try simp only [List.getElem_toArray, List.getElem_cons_zero, List.getElem_cons_succ, Act.put, List.setIfInBounds_toArray, List.set_cons_zero, List.set_cons_succ]
      refine late.done (by kernel_rfl) ?_ _
      refine NoPanic.normal ?_
      have ho5 : Only (fun _ => False) w w.drew := HO2.out.drew
      obtain ⟨w5, hw5⟩ : ∃ x, x = w.drew := ⟨_, rfl⟩
      rw [← hw5] at ho5 ⊢
      obtain ⟨⟨u0, y0⟩, ⟨u1, y1⟩, ⟨u2, y2⟩, ⟨u3, y3⟩, ⟨u4, y4⟩, f0, f1, f2, f3, f4⟩ := HRM.out _ ho5
      have x4' : w5.cell? ⟨p, k * 5 + 4, none⟩ = some (.int .i64 ah) := by rw [hw5]; simpa using x4
      have HS9 := Lib.hid (HST2.out _ ho5)
      have HO9 := Lib.hid ((Only.p p ho5).trans (put5_only w5 p (k * 5) (.int .i64 0) (.int .i64 (at_ + ac - ae - au)) (.int .i64 0) (.int .i64 0) (.int .i64 ah)))
      unfold put5 at HS9 HO9
      clear ho5 hw5 HST2 HRM x0 x1 x2 x3 x4 hHeld y4
      go_wp2_with fail
      go_ret2
      exact ⟨rfl, HS9.out, HO9.out⟩
  · have hE : rollE n = 1 := by unfold rollE; rw [if_neg hn]
    have hT : rollA A n carry = A := by unfold rollA; rw [if_neg hn]
    have hN : rollN A n carry = 0 := by unfold rollN; rw [if_neg hn]
    rw [hE, hT, hN]
    clear hE hT hN
    have hn' : ¬ (1 ≤ n ∧ n ≤ 32) := hn
    clear hn
    go_enter Try.func33, Try.ntmps33
    go_wp2_with fail
    refine (isNode_no _ _ hn').mono ?_
    rintro _ _ ⟨rfl, rfl⟩
    go_wp2_with fail
    go_ret2
    exact ⟨rfl, HB.out, Only.refl _ _⟩
theorem Parts.mk' {t c e u h : Int} (h0 : InM t) (h1 : InM c) (h2 : InM e) (h3 : InM u) (h4 : InM h) : Parts ⟨t, c, e, u, h⟩ := ⟨h0, h1, h2, h3, h4⟩
theorem Bok.setA {A : List Ac} (h : Bok A) (n : Int) (a : Ac) : Bok (setA A n a) := by
  unfold fnd.setA
  by_cases e : setE n a = 0
  · rw [if_pos e]
    unfold setE at e
    by_cases q : NodeOk n ∧ Right a
    · obtain ⟨⟨n1, n2⟩, r⟩ := q
      exact h.set (by omega) (by omega) r
    · rw [if_neg q] at e; simp at e
  · rw [if_neg e]; exact h
theorem Bok.topA {A : List Ac} (h : Bok A) (n x : Int) : Bok (topA A n x) := by
  unfold fnd.topA
  by_cases e : topE A n x = 0
  · rw [if_pos e]
    unfold topE at e
    by_cases q : NodeOk n ∧ AmtOk x
    · rw [if_pos q] at e
      obtain ⟨⟨n1, n2⟩, x1, x2⟩ := q
      have hr := acG_ok h n
      generalize acG A n = a at *
      obtain ⟨at_, ac, ae, au, ah⟩ := a
      obtain ⟨⟨⟨a1, a2⟩, ⟨b1, b2⟩, c1, d1, g1⟩, hs, hl⟩ := hr
      unfold left at hl
      dsimp only at a1 a2 b1 b2 c1 d1 g1 hs hl e ⊢
      have h6 : ¬ 9007199254740992 < at_ + ac + x := by
        intro h6; rw [if_pos h6] at e; simp at e
      refine h.set (by omega) (by omega) ⟨⟨⟨?_, ?_⟩, ⟨b1, b2⟩, c1, d1, g1⟩, ?_, ?_⟩
      · show 0 ≤ at_ + x; omega
      · show at_ + x ≤ _; omega
      · show at_ + x + ac ≤ _; omega
      · show 0 ≤ left _; unfold left; dsimp only; omega
    · rw [if_neg q] at e; simp at e
  · rw [if_neg e]; exact h
theorem Bok.rollA {A : List Ac} (h : Bok A) (n : Int) (carry : Bool) : Bok (rollA A n carry) := by
  unfold fnd.rollA
  by_cases q : NodeOk n
  · rw [if_pos q]
    obtain ⟨n1, n2⟩ := q
    have hr := acG_ok h n
    generalize acG A n = a at *
    obtain ⟨at_, ac, ae, au, ah⟩ := a
    obtain ⟨⟨⟨a1, a2⟩, ⟨b1, b2⟩, ⟨c1, c2⟩, ⟨d1, d2⟩, ⟨g1, g2⟩⟩, hs, hl⟩ := hr
    unfold left at hl
    dsimp only at a1 a2 b1 b2 c1 c2 d1 d2 g1 g2 hs hl
    have hz : InM 0 := ⟨by omega, by omega⟩
    refine h.set (by omega) (by omega) ⟨⟨hz, ?_, hz, hz, ⟨g1, g2⟩⟩, ?_, ?_⟩
    · cases carry <;> simp [rolled, goneN, left, InM] <;> omega
    · cases carry <;> simp [rolled, goneN, left] <;> omega
    · cases carry <;> simp [rolled, goneN, left] <;> omega
  · rw [if_neg q]; exact h
end Go.Proofs.Ytkbaafgaaiekpaa.fnd
