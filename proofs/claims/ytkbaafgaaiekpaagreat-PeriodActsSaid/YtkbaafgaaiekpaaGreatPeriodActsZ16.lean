/- Several texts together: FuC, FuD. -/
import Derived.Test.YtkbaafgaaiekpaaGreatPeriodActsZ1
import Derived.Test.YtkbaafgaaiekpaaGreatPeriodActsZ14
namespace Go.Proofs.YtkbaafgaaiekpaaGreat.fnd
open Go.RowKit mem tre
set_option linter.unusedVariables false

def FDid (p : Nat) (A' : List Ac) (E : Int) (w : World) (e : Ending) (w' : World) : Prop := e = .returned (.int .i64 E) ∧ BkAt w' p A' ∧ Only (fun q => q = p) w w'
def setE (n : Int) (a : Ac) : Int := if NodeOk n ∧ Right a then 0 else 1
def setA (A : List Ac) (n : Int) (a : Ac) : List Ac := if setE n a = 0 then A.set n.toNat a else A
def topE (A : List Ac) (n x : Int) : Int := if NodeOk n ∧ AmtOk x then (if 9007199254740992 < (acG A n).t + (acG A n).c + x then 6 else 0) else 1
def topA (A : List Ac) (n x : Int) : List Ac := if topE A n x = 0 then A.set n.toNat { acG A n with t := (acG A n).t + x } else A
def goneN (a : Ac) (carry : Bool) : Int := if carry = true then 0 else left a
def rollE (n : Int) : Int := if NodeOk n then 0 else 1
def rollN (A : List Ac) (n : Int) (carry : Bool) : Int := if NodeOk n then goneN (acG A n) carry else 0
def rolled (a : Ac) (carry : Bool) : Ac := ⟨0, a.t + a.c - a.e - goneN a carry - a.u, 0, 0, a.h⟩
def rollA (A : List Ac) (n : Int) (carry : Bool) : List Ac := if NodeOk n then A.set n.toNat (rolled (acG A n) carry) else A
theorem acG_nat {A : List Ac} {k : Nat} (h1 : 1 ≤ k) (h2 : k < 33) : acG A (k : Int) = A.getD k zA := by
  unfold acG
  rw [if_pos ⟨by omega, by omega⟩, Int.toNat_natCast]
set_option maxRecDepth 100000 in
set_option maxHeartbeats 4000000 in
theorem set_any (p : Nat) (A : List Ac) (n : Int) (a : Ac) (w : World) (h : BkAt w p A) (hl : A.length = 33) : Calls Tryz.prog 65 #[.pointer (some ⟨p, 0, none⟩), .int .i64 n, aggA a] w (FDid p (setA A n a) (setE n a) w) := by
  have HIS : Hid (∀ w1, _) := Lib.hid (fun w1 => isacc_any a w1)
  have HB := Lib.hid h
  have HL := Lib.hid hl
  have HPB : Hid (p < w.heap.size) := Lib.hid h.lt
  clear h hl
  by_cases hn : NodeOk n
  · by_cases hr : Right a
    · have hE : setE n a = 0 := by unfold setE; rw [if_pos ⟨hn, hr⟩]
      have hT : setA A n a = A.set n.toNat a := by unfold setA; rw [hE, if_pos rfl]
      rw [hE, hT]
      have HR : Hid (decide (Right a) = true) := Lib.hid (decide_eq_true hr)
      rw [HR.out] at HIS
      clear hr hE hT
      obtain ⟨i1, i2⟩ := hn
      obtain ⟨k, rfl⟩ : ∃ k : Nat, n = k := ⟨n.toNat, by omega⟩
      rw [Int.toNat_natCast]
      have hk : k < 33 := by omega
      have hk2 : (k : Int) < 33 := by omega
      have hk0 : (0 : Int) ≤ k := by omega
      obtain ⟨at_, ac, ae, au, ah⟩ := a
      unfold aggA at HIS ⊢
      obtain ⟨e0, e1, e2, e3, e4, ho9⟩ := node_box 58 (.int .i64 at_) (.int .i64 ac) (.int .i64 ae) (.int .i64 au) (.int .i64 ah) (Only.refl (fun _ => False) w)
      have HO9 := Lib.hid ho9
      clear ho9
      dsimp only at HIS ⊢
      go_enter Tryz.func65, Tryz.ntmps65
      go_wp2_with fail
      refine (isNode_yes _ _ i1 i2).mono ?_
      rintro _ _ ⟨rfl, rfl⟩
      go_wp2_with fail
      refine (HIS.out _).mono ?_
      rintro _ w2 ⟨rfl, ho⟩
      replace e0 := ho.cell' e0 (fun f => f)
      replace e1 := ho.cell' e1 (fun f => f)
      replace e2 := ho.cell' e2 (fun f => f)
      replace e3 := ho.cell' e3 (fun f => f)
      replace e4 := ho.cell' e4 (fun f => f)
      have HO2 := Lib.hid (HO9.out.trans ho)
      clear ho HO9
      go_upto_region 3 with fail
      refine wp_region_noPanic ?_
      refine late.region (fun w' => ∀ q, w'.cell? q = w2.cell? q) (fun j => [6].contains j) (by kernel_rfl) (fun q => by simp) (fun hHeld => ?_)
      obtain ⟨z0, hz0⟩ : ∃ x, x = w2.drew := ⟨_, rfl⟩
      rw [← hz0] at hHeld ⊢
      have hou : Only (fun _ => False) w2 z0 := by rw [hz0]; exact (Only.refl _ _).drew
      have hb1 := HB.out.only (HO2.out.trans hou) (fun f => f)
      obtain ⟨⟨u0, d0⟩, ⟨u1, d1⟩, ⟨u2, d2⟩, ⟨u3, d3⟩, ⟨u4, d4⟩, f0, f1, f2, f3, f4⟩ := hb1.room k hk
      have HW9 := Lib.hid (hb1.put HL.out k ⟨at_, ac, ae, au, ah⟩ hk)
      have HW8 := Lib.hid ((Only.p p (HO2.out.trans hou)).trans (put5_only z0 p (k * 5) (.int .i64 at_) (.int .i64 ac) (.int .i64 ae) (.int .i64 au) (.int .i64 ah)))
      unfold put5 at HW9 HW8
      clear hb1
      clear hou hz0
      refine sho.lt 0 [3, 4, 5, 6] ?_
      refine sho.lt 1 [5, 6] ?_
      refine sho.lt 2 [5, 6] ?_
      refine sho.lt 3 [4, 5, 6] ?_
      refine sho.lt 4 [5, 6] ?_
      refine sho.lt 5 [6] ?_
      refine late.ready (rs := [6]) (by kernel_rfl) (by simp) ?_
      refine late.Each.cons rfl (fun K hK => ?_) late.Each.nil
      clear hHeld
      try simp only [List.getElem_toArray, List.getElem_cons_zero, List.getElem_cons_succ]
      go_simp
      refine hK.out _ _ (fun h => by cases h) (fun _ => ?_)
      clear hK K
      try simp only [List.getElem_toArray, List.getElem_cons_zero, List.getElem_cons_succ, Act.put, List.setIfInBounds_toArray, List.set_cons_zero, List.set_cons_succ]
      refine late.done (by kernel_rfl) ?_ _
      refine NoPanic.normal ?_
      go_wp2_with fail
      go_ret
      exact ⟨rfl, HW9.out, HW8.out⟩
    · obtain ⟨i1, i2⟩ := hn
      have hE : setE n a = 1 := by unfold setE; rw [if_neg (fun q => hr q.2)]
      have hT : setA A n a = A := by unfold setA; rw [hE]; rfl
      rw [hE, hT]
      clear hE hT
      have HR : Hid (decide (Right a) = false) := Lib.hid (decide_eq_false hr)
      rw [HR.out] at HIS
      clear hr
      obtain ⟨at_, ac, ae, au, ah⟩ := a
      unfold aggA at HIS ⊢
      obtain ⟨e0, e1, e2, e3, e4, ho9⟩ := node_box 58 (.int .i64 at_) (.int .i64 ac) (.int .i64 ae) (.int .i64 au) (.int .i64 ah) (Only.refl (fun _ => False) w)
      have HO9 := Lib.hid ho9
      clear ho9
      dsimp only at HIS ⊢
      go_enter Tryz.func65, Tryz.ntmps65
      go_wp2_with fail
      refine (isNode_yes _ _ i1 i2).mono ?_
      rintro _ _ ⟨rfl, rfl⟩
      go_wp2_with fail
      refine (HIS.out _).mono ?_
      rintro _ w2 ⟨rfl, ho⟩
      have HO2 := Lib.hid (HO9.out.trans ho)
      clear ho
      go_wp2_with fail
      go_ret
      exact ⟨rfl, HB.out.only HO2.out (fun f => f), Only.p p HO2.out⟩
  · have hE : setE n a = 1 := by unfold setE; rw [if_neg (fun q => hn q.1)]
    have hT : setA A n a = A := by unfold setA; rw [hE]; rfl
    rw [hE, hT]
    clear hE hT
    have hn' : ¬ (1 ≤ n ∧ n ≤ 32) := hn
    clear hn
    obtain ⟨at_, ac, ae, au, ah⟩ := a
    unfold aggA at HIS ⊢
    obtain ⟨e0, e1, e2, e3, e4, ho9⟩ := node_box 58 (.int .i64 at_) (.int .i64 ac) (.int .i64 ae) (.int .i64 au) (.int .i64 ah) (Only.refl (fun _ => False) w)
    have HO9 := Lib.hid ho9
    clear ho9
    dsimp only at HIS ⊢
    go_enter Tryz.func65, Tryz.ntmps65
    go_wp2_with fail
    refine (isNode_no _ _ hn').mono ?_
    rintro _ _ ⟨rfl, rfl⟩
    go_wp2_with fail
    go_ret
    exact ⟨rfl, HB.out.only HO9.out (fun f => f), Only.p p HO9.out⟩
set_option maxRecDepth 100000 in
set_option maxHeartbeats 4000000 in
theorem topup_any (p : Nat) (A : List Ac) (n x : Int) (w : World) (h : BkAt w p A) (hA : Bok A) : Calls Tryz.prog 39 #[.pointer (some ⟨p, 0, none⟩), .int .i64 n, .int .i64 x] w (FDid p (topA A n x) (topE A n x) w) := by
  have HB := Lib.hid h
  have HA := Lib.hid hA
  clear h hA
  by_cases hn : NodeOk n
  · by_cases hx : AmtOk x
    · have hE0 : topE A n x = if 9007199254740992 < (acG A n).t + (acG A n).c + x then 6 else 0 := by unfold topE; rw [if_pos ⟨hn, hx⟩]
      have hT0 : topA A n x = if topE A n x = 0 then A.set n.toNat { acG A n with t := (acG A n).t + x } else A := rfl
      have hok := acG_ok HA.out n
      obtain ⟨i1, i2⟩ := hn
      obtain ⟨x1, x2⟩ := hx
      obtain ⟨k, rfl⟩ : ∃ k : Nat, n = k := ⟨n.toNat, by omega⟩
      have hk : k < 33 := by omega
      have hk2 : (k : Int) < 33 := by omega
      have hk0 : (0 : Int) ≤ k := by omega
      rw [acG_nat (by omega) hk] at hE0 hT0 hok
      rw [Int.toNat_natCast] at hT0
      obtain ⟨c0, c1, c2, c3, c4⟩ := HB.out.1 k hk
      have HG : Hid (A.getD k zA = A.getD k zA) := Lib.hid rfl
      generalize hg : A.getD k zA = a at *
      have HGQ := Lib.hid hg
      obtain ⟨at_, ac, ae, au, ah⟩ := a
      dsimp only at c0 c1 c2 c3 c4 hE0 hT0
      obtain ⟨⟨⟨a1, a2⟩, ⟨b1, b2⟩, -⟩, hs, -⟩ := hok
      dsimp only at a1 a2 b1 b2 hs
      have q1 : IntKind.i64.wrap (at_ + ac) = at_ + ac := w64 _ (by omega) (by omega)
      have q2 : IntKind.i64.wrap (at_ + ac + x) = at_ + ac + x := w64 _ (by omega) (by omega)
      have q3 : IntKind.i64.wrap (at_ + x) = at_ + x := w64 _ (by omega) (by omega)
      clear hg HG
      by_cases ho : 9007199254740992 < at_ + ac + x
      · rw [if_pos ho] at hE0
        rw [hE0] at hT0
        rw [hE0, hT0, if_neg (by decide)]
        clear hE0 hT0 a1 a2 b1 b2 hs
        go_enter Tryz.func39, Tryz.ntmps39
        go_wp2_with fail
        refine (isNode_yes _ _ i1 i2).mono ?_
        rintro _ _ ⟨rfl, rfl⟩
        go_wp2_with fail
        refine (isAmt_yes _ _ x1 x2).mono ?_
        rintro _ _ ⟨rfl, rfl⟩
        go_upto_region 4 with fail
        refine wp_region_noPanic ?_
        refine late.region (fun w' => ∀ q, w'.cell? q = w.cell? q) (fun j => [].contains j) (by kernel_rfl) (fun q => by simp) (fun hHeld => ?_)
        refine sho.lt 0 [1, 2, 3, 8, 10, 11] ?_
        refine sho.lt 1 [2, 3, 8, 10, 11] ?_
        refine sho.lt 2 [3, 8, 10, 11] ?_
        refine sho.lt 3 [8, 10, 11] ?_
        refine sho.lt 4 [5, 6, 7, 8, 10, 11] ?_
        refine sho.lt 5 [6, 7, 8, 10, 11] ?_
        refine sho.lt 6 [7, 8, 10, 11] ?_
        refine sho.lt 7 [8, 10, 11] ?_
        refine sho.lt 8 [10, 11] ?_
        refine sho.lt 9 [10, 11] ?_
        refine sho.lt 10 [11] ?_
        refine sho.lt 11 [] ?_
        refine late.done (by kernel_rfl) ?_ _
        refine NoPanic.normal ?_
        go_wp2_with fail
        go_ret
        exact ⟨rfl, HB.out.only (Only.refl (fun _ => False) _).drew (fun f => f), (Only.refl _ _).drew⟩
      · rw [if_neg ho] at hE0
        rw [hE0, if_pos rfl] at hT0
        rw [hE0, hT0]
        clear hE0 hT0 a1 a2 b1 b2 hs
        have HST : Hid (∀ w1, Only (fun _ => False) w w1 → BkAt (w1.setCell ⟨p, k * 5, none⟩ (.int .i64 (at_ + x))) p (A.set k ⟨at_ + x, ac, ae, au, ah⟩)) := Lib.hid (fun w1 ho => (HB.out.only ho (fun f => f)).store HA.out.len k 0 _ _ hk (by omega) (by rw [HGQ.out]; rfl))
        have HFZ : Hid (∀ w1, Only (fun _ => False) w w1 → w1.frozen? ⟨p, k * 5, none⟩ = false) := Lib.hid (fun w1 ho => (ho.frozen (p := ⟨p, k * 5, none⟩) HB.out.lt (fun f => f)).trans (HB.out.2 _ (by omega)))
        have f0 := HFZ.out w (Only.refl _ _)
        go_enter Tryz.func39, Tryz.ntmps39
        go_wp2_with fail
        refine (isNode_yes _ _ i1 i2).mono ?_
        rintro _ _ ⟨rfl, rfl⟩
        go_wp2_with fail
        refine (isAmt_yes _ _ x1 x2).mono ?_
        rintro _ _ ⟨rfl, rfl⟩
        go_upto_region 4 with fail
        refine wp_region_noPanic ?_
        refine late.region (fun w' => ∀ q, w'.cell? q = w.cell? q) (fun j => [].contains j) (by kernel_rfl) (fun q => by simp) (fun hHeld => ?_)
        refine sho.lt 0 [1, 2, 3, 8, 10, 11] ?_
        refine sho.lt 1 [2, 3, 8, 10, 11] ?_
        refine sho.lt 2 [3, 8, 10, 11] ?_
        refine sho.lt 3 [8, 10, 11] ?_
        refine sho.lt 4 [5, 6, 7, 8, 10, 11] ?_
        refine sho.lt 5 [6, 7, 8, 10, 11] ?_
        refine sho.lt 6 [7, 8, 10, 11] ?_
        refine sho.lt 7 [8, 10, 11] ?_
        refine sho.lt 8 [10, 11] ?_
        refine sho.lt 9 [10, 11] ?_
        refine sho.lt 10 [11] ?_
        refine sho.lt 11 [] ?_
        refine late.done (by kernel_rfl) ?_ _
        refine NoPanic.normal ?_
        have hdr : Only (fun _ => False) w w.drew := (Only.refl _ _).drew
        have f0' := HFZ.out _ hdr
        have HS9 := Lib.hid (HST.out _ hdr)
        have HO9 := Lib.hid ((Only.p p hdr).trans (Only.set (fun q => q = p) w.drew p (k * 5) (.int .i64 (at_ + x)) rfl))
        clear hdr HFZ HST
        go_wp2_with fail
        go_ret
        exact ⟨rfl, HS9.out, HO9.out⟩
    · have hE : topE A n x = 1 := by unfold topE; rw [if_neg (fun q => hx q.2)]
      have hT : topA A n x = A := by unfold topA; rw [hE]; rfl
      rw [hE, hT]
      clear hE hT
      have hx' : ¬ (1 ≤ x ∧ x ≤ 9007199254740992) := hx
      clear hx
      obtain ⟨i1, i2⟩ := hn
      go_enter Tryz.func39, Tryz.ntmps39
      go_wp2_with fail
      refine (isNode_yes _ _ i1 i2).mono ?_
      rintro _ _ ⟨rfl, rfl⟩
      go_wp2_with fail
      refine (isAmt_no _ _ hx').mono ?_
      rintro _ _ ⟨rfl, rfl⟩
      go_wp2_with fail
      go_ret
      exact ⟨rfl, HB.out, Only.refl _ _⟩
  · have hE : topE A n x = 1 := by unfold topE; rw [if_neg (fun q => hn q.1)]
    have hT : topA A n x = A := by unfold topA; rw [hE]; rfl
    rw [hE, hT]
    clear hE hT
    have hn' : ¬ (1 ≤ n ∧ n ≤ 32) := hn
    clear hn
    go_enter Tryz.func39, Tryz.ntmps39
    go_wp2_with fail
    refine (isNode_no _ _ hn').mono ?_
    rintro _ _ ⟨rfl, rfl⟩
    go_wp2_with fail
    go_ret
    exact ⟨rfl, HB.out, Only.refl _ _⟩
end Go.Proofs.YtkbaafgaaiekpaaGreat.fnd
namespace Go.Proofs.YtkbaafgaaiekpaaGreat.fnd
open Go.RowKit mem tre
set_option linter.unusedVariables false

def RollDid (p : Nat) (A' : List Ac) (n E : Int) (w : World) (e : Ending) (w' : World) : Prop := e = .returned (.tuple #[.int .i64 n, .int .i64 E]) ∧ BkAt w' p A' ∧ Only (fun q => q = p) w w'
set_option maxRecDepth 100000 in
set_option maxHeartbeats 400000 in
theorem roll_any (p : Nat) (A : List Ac) (n : Int) (carry : Bool) (w : World) (h : BkAt w p A) (hA : Bok A) : Calls Tryz.prog 33 #[.pointer (some ⟨p, 0, none⟩), .int .i64 n, .bool carry] w (RollDid p (rollA A n carry) (rollN A n carry) (rollE n) w) := by
  have HB := Lib.hid h
  have HA := Lib.hid hA
  clear h hA
  by_cases hn : NodeOk n
  · have hE : rollE n = 0 := by unfold rollE; rw [if_pos hn]
    have hT : rollA A n carry = A.set n.toNat (rolled (acG A n) carry) := by unfold rollA; rw [if_pos hn]
    have hN : rollN A n carry = goneN (acG A n) carry := by unfold rollN; rw [if_pos hn]
    rw [hE, hT, hN]
    clear hE hT hN
    have hok := acG_ok HA.out n
    obtain ⟨i1, i2⟩ := hn
    obtain ⟨k, rfl⟩ : ∃ k : Nat, n = k := ⟨n.toNat, by omega⟩
    have hk : k < 33 := by omega
    have hk2 : (k : Int) < 33 := by omega
    have hk0 : (0 : Int) ≤ k := by omega
    rw [acG_nat (by omega) hk] at hok ⊢
    rw [Int.toNat_natCast]
    obtain ⟨c0, c1, c2, c3, c4⟩ := HB.out.1 k hk
    generalize A.getD k zA = a at *
    have HAV : Hid (∀ w1, _) := Lib.hid (fun w1 => avail_any a w1 hok.1)
    obtain ⟨at_, ac, ae, au, ah⟩ := a
    unfold aggA at HAV
    dsimp only at c0 c1 c2 c3 c4 HAV
    obtain ⟨⟨⟨a1, a2⟩, ⟨b1, b2⟩, ⟨d1, d2⟩, ⟨f1, f2⟩, ⟨g1, g2⟩⟩, hs, hl⟩ := hok
    unfold left at hl
    dsimp only at a1 a2 b1 b2 d1 d2 f1 f2 g1 g2 hs hl
    have q1 : IntKind.i64.wrap (at_ + ac) = at_ + ac := w64 _ (by omega) (by omega)
    have q2 : IntKind.i64.wrap (at_ + ac - ae) = at_ + ac - ae := w64 _ (by omega) (by omega)
    have HGB : Hid (∀ b, -100000000000000000 ≤ goneN ⟨at_, ac, ae, au, ah⟩ b ∧ goneN ⟨at_, ac, ae, au, ah⟩ b ≤ 100000000000000000) := Lib.hid (fun b => by cases b <;> simp [goneN, left] <;> omega)
    have HGD : Hid (goneN ⟨at_, ac, ae, au, ah⟩ false = left ⟨at_, ac, ae, au, ah⟩ ∧ goneN ⟨at_, ac, ae, au, ah⟩ true = 0) := Lib.hid ⟨rfl, rfl⟩
    have HW2 : Hid (∀ b, IntKind.i64.wrap (at_ + ac - ae - goneN ⟨at_, ac, ae, au, ah⟩ b) = at_ + ac - ae - goneN ⟨at_, ac, ae, au, ah⟩ b ∧ IntKind.i64.wrap (at_ + ac - ae - goneN ⟨at_, ac, ae, au, ah⟩ b - au) = at_ + ac - ae - goneN ⟨at_, ac, ae, au, ah⟩ b - au) := Lib.hid (fun b => by
      have := HGB.out b
      exact ⟨w64 _ (by omega) (by omega), w64 _ (by omega) (by omega)⟩)
    have HST : Hid (∀ w1 b, Only (fun _ => False) w w1 → BkAt (put5 w1 p (k * 5) (.int .i64 0) (.int .i64 (at_ + ac - ae - goneN ⟨at_, ac, ae, au, ah⟩ b - au)) (.int .i64 0) (.int .i64 0) (.int .i64 ah)) p (A.set k (rolled ⟨at_, ac, ae, au, ah⟩ b))) := Lib.hid (fun w1 b ho => (HB.out.only ho (fun f => f)).put HA.out.len k (rolled ⟨at_, ac, ae, au, ah⟩ b) hk)
    have HRM : Hid (∀ w1, Only (fun _ => False) w w1 → _) := Lib.hid (fun w1 ho => (HB.out.only ho (fun f => f)).room k hk)
    clear a1 a2 b1 b2 d1 d2 f1 f2 g1 g2 hs hl HGB
    cases carry
    · have hgn := HGD.out.1
      obtain ⟨q3, q4⟩ := HW2.out false
      have HST2 : Hid (∀ w1, Only (fun _ => False) w w1 → _) := Lib.hid (fun w1 ho => HST.out w1 false ho)
      rw [hgn] at q3 q4 HST2 ⊢
      clear hgn HGD HW2 HST
      generalize left ⟨at_, ac, ae, au, ah⟩ = gn at *
      go_enter Tryz.func33, Tryz.ntmps33
      go_wp2_with fail
      refine (isNode_yes _ _ i1 i2).mono ?_
      rintro _ _ ⟨rfl, rfl⟩
      go_wp2_with fail
      refine (HAV.out _).mono ?_
      rintro _ w2 ⟨rfl, ho⟩
      have HO2 := Lib.hid ho
      have x0 := ho.cell' c0 (fun f => f)
      have x1 := ho.cell' c1 (fun f => f)
      have x2 := ho.cell' c2 (fun f => f)
      have x3 := ho.cell' c3 (fun f => f)
      have x4 := ho.cell' c4 (fun f => f)
      clear ho c0 c1 c2 c3 c4
      go_upto_region 7 with fail
      refine wp_region_noPanic ?_
      refine late.region (fun w' => ∀ q, w'.cell? q = w2.cell? q) (fun j => [].contains j) (by kernel_rfl) (fun q => by simp) (fun hHeld => ?_)
      refine sho.lt 0 [1, 2, 3, 8, 13, 15, 20, 21] ?_
      refine sho.lt 1 [2, 3, 8, 13, 15, 20, 21] ?_
      refine sho.lt 2 [3, 8, 13, 15, 20, 21] ?_
      refine sho.lt 3 [8, 13, 15, 20, 21] ?_
      refine sho.lt 4 [5, 6, 7, 8, 13, 15, 20, 21] ?_
      refine sho.lt 5 [6, 7, 8, 13, 15, 20, 21] ?_
      refine sho.lt 6 [7, 8, 13, 15, 20, 21] ?_
      refine sho.lt 7 [8, 13, 15, 20, 21] ?_
      refine sho.lt 8 [13, 15, 20, 21] ?_
      refine sho.lt 9 [10, 11, 12, 13, 15, 20, 21] ?_
      refine sho.lt 10 [11, 12, 13, 15, 20, 21] ?_
      refine sho.lt 11 [12, 13, 15, 20, 21] ?_
      refine sho.lt 12 [13, 15, 20, 21] ?_
      refine sho.lt 13 [15, 20, 21] ?_
      refine sho.lt 14 [15, 20, 21] ?_
      refine sho.lt 15 [20, 21] ?_
      refine sho.lt 16 [17, 18, 19, 20, 21] ?_
      refine sho.lt 17 [18, 19, 20, 21] ?_
      refine sho.lt 18 [19, 20, 21] ?_
      refine sho.lt 19 [20, 21] ?_
      refine sho.lt 20 [21] ?_
      refine sho.lt 21 [] ?_
      refine late.done (by kernel_rfl) ?_ _
      refine NoPanic.normal ?_
      have ho5 : Only (fun _ => False) w w2.drew := HO2.out.drew
      obtain ⟨w5, hw5⟩ : ∃ x, x = w2.drew := ⟨_, rfl⟩
      rw [← hw5] at ho5 ⊢
      obtain ⟨⟨u0, y0⟩, ⟨u1, y1⟩, ⟨u2, y2⟩, ⟨u3, y3⟩, ⟨u4, y4⟩, f0, f1, f2, f3, f4⟩ := HRM.out _ ho5
      have x4' : w5.cell? ⟨p, k * 5 + 4, none⟩ = some (.int .i64 ah) := by rw [hw5]; simpa using x4
      have HS9 := Lib.hid (HST2.out _ ho5)
      have HO9 := Lib.hid ((Only.p p ho5).trans (put5_only w5 p (k * 5) (.int .i64 0) (.int .i64 (at_ + ac - ae - gn - au)) (.int .i64 0) (.int .i64 0) (.int .i64 ah)))
      unfold put5 at HS9 HO9
      clear ho5 hw5 HST2 HRM x0 x1 x2 x3 x4 hHeld y4
      go_wp2_with fail
      go_ret2
      exact ⟨rfl, HS9.out, HO9.out⟩
    · have hgn := HGD.out.2
      obtain ⟨q3, q4⟩ := HW2.out true
      have HST2 : Hid (∀ w1, Only (fun _ => False) w w1 → _) := Lib.hid (fun w1 ho => HST.out w1 true ho)
      rw [hgn] at q3 q4 HST2 ⊢
      clear hgn HGD HW2 HST
      simp only [Int.sub_zero] at q3 q4 HST2
      have ho : Only (fun _ => False) w w := Only.refl _ _
      go_enter Tryz.func33, Tryz.ntmps33
      go_wp2_with fail
      refine (isNode_yes _ _ i1 i2).mono ?_
      rintro _ _ ⟨rfl, rfl⟩
      have HO2 := Lib.hid ho
      have x0 := ho.cell' c0 (fun f => f)
      have x1 := ho.cell' c1 (fun f => f)
      have x2 := ho.cell' c2 (fun f => f)
      have x3 := ho.cell' c3 (fun f => f)
      have x4 := ho.cell' c4 (fun f => f)
      clear ho c0 c1 c2 c3 c4
      go_upto_region 7 with fail
      refine wp_region_noPanic ?_
      refine late.region (fun w' => ∀ q, w'.cell? q = w.cell? q) (fun j => [].contains j) (by kernel_rfl) (fun q => by simp) (fun hHeld => ?_)
      refine sho.lt 0 [1, 2, 3, 8, 13, 15, 20, 21] ?_
      refine sho.lt 1 [2, 3, 8, 13, 15, 20, 21] ?_
      refine sho.lt 2 [3, 8, 13, 15, 20, 21] ?_
      refine sho.lt 3 [8, 13, 15, 20, 21] ?_
      refine sho.lt 4 [5, 6, 7, 8, 13, 15, 20, 21] ?_
      refine sho.lt 5 [6, 7, 8, 13, 15, 20, 21] ?_
      refine sho.lt 6 [7, 8, 13, 15, 20, 21] ?_
      refine sho.lt 7 [8, 13, 15, 20, 21] ?_
      refine sho.lt 8 [13, 15, 20, 21] ?_
      refine sho.lt 9 [10, 11, 12, 13, 15, 20, 21] ?_
      refine sho.lt 10 [11, 12, 13, 15, 20, 21] ?_
      refine sho.lt 11 [12, 13, 15, 20, 21] ?_
      refine sho.lt 12 [13, 15, 20, 21] ?_
      refine sho.lt 13 [15, 20, 21] ?_
      refine sho.lt 14 [15, 20, 21] ?_
      refine sho.lt 15 [20, 21] ?_
      refine sho.lt 16 [17, 18, 19, 20, 21] ?_
      refine sho.lt 17 [18, 19, 20, 21] ?_
      refine sho.lt 18 [19, 20, 21] ?_
      refine sho.lt 19 [20, 21] ?_
      refine sho.lt 20 [21] ?_
      refine sho.lt 21 [] ?_
      refine late.done (by kernel_rfl) ?_ _
      refine NoPanic.normal ?_
      have ho5 : Only (fun _ => False) w w.drew := HO2.out.drew
      obtain ⟨w5, hw5⟩ : ∃ x, x = w.drew := ⟨_, rfl⟩
      rw [← hw5] at ho5 ⊢
      obtain ⟨⟨u0, y0⟩, ⟨u1, y1⟩, ⟨u2, y2⟩, ⟨u3, y3⟩, ⟨u4, y4⟩, f0, f1, f2, f3, f4⟩ := HRM.out _ ho5
      have x4' : w5.cell? ⟨p, k * 5 + 4, none⟩ = some (.int .i64 ah) := by rw [hw5]; simpa using x4
      have HS9 := Lib.hid (HST2.out _ ho5)
      have HO9 := Lib.hid ((Only.p p ho5).trans (put5_only w5 p (k * 5) (.int .i64 0) (.int .i64 (at_ + ac - ae - au)) (.int .i64 0) (.int .i64 0) (.int .i64 ah)))
      unfold put5 at HS9 HO9
      clear ho5 hw5 HST2 HRM x0 x1 x2 x3 x4 hHeld y4
      go_wp2_with fail
      go_ret2
      exact ⟨rfl, HS9.out, HO9.out⟩
  · have hE : rollE n = 1 := by unfold rollE; rw [if_neg hn]
    have hT : rollA A n carry = A := by unfold rollA; rw [if_neg hn]
    have hN : rollN A n carry = 0 := by unfold rollN; rw [if_neg hn]
    rw [hE, hT, hN]
    clear hE hT hN
    have hn' : ¬ (1 ≤ n ∧ n ≤ 32) := hn
    clear hn
    go_enter Tryz.func33, Tryz.ntmps33
    go_wp2_with fail
    refine (isNode_no _ _ hn').mono ?_
    rintro _ _ ⟨rfl, rfl⟩
    go_wp2_with fail
    go_ret2
    exact ⟨rfl, HB.out, Only.refl _ _⟩
theorem Bok.setA {A : List Ac} (h : Bok A) (n : Int) (a : Ac) : Bok (setA A n a) := by
  unfold fnd.setA
  by_cases e : setE n a = 0
  · rw [if_pos e]
    unfold setE at e
    by_cases q : NodeOk n ∧ Right a
    · obtain ⟨⟨n1, n2⟩, r⟩ := q
      exact h.set (by omega) (by omega) r
    · rw [if_neg q] at e; simp at e
  · rw [if_neg e]; exact h
theorem Bok.topA {A : List Ac} (h : Bok A) (n x : Int) : Bok (topA A n x) := by
  unfold fnd.topA
  by_cases e : topE A n x = 0
  · rw [if_pos e]
    unfold topE at e
    by_cases q : NodeOk n ∧ AmtOk x
    · rw [if_pos q] at e
      obtain ⟨⟨n1, n2⟩, x1, x2⟩ := q
      have hr := acG_ok h n
      generalize acG A n = a at *
      obtain ⟨at_, ac, ae, au, ah⟩ := a
      obtain ⟨⟨⟨a1, a2⟩, ⟨b1, b2⟩, c1, d1, g1⟩, hs, hl⟩ := hr
      unfold left at hl
      dsimp only at a1 a2 b1 b2 c1 d1 g1 hs hl e ⊢
      have h6 : ¬ 9007199254740992 < at_ + ac + x := by
        intro h6; rw [if_pos h6] at e; simp at e
      refine h.set (by omega) (by omega) ⟨⟨⟨?_, ?_⟩, ⟨b1, b2⟩, c1, d1, g1⟩, ?_, ?_⟩
      · show 0 ≤ at_ + x; omega
      · show at_ + x ≤ _; omega
      · show at_ + x + ac ≤ _; omega
      · show 0 ≤ left _; unfold left; dsimp only; omega
    · rw [if_neg q] at e; simp at e
  · rw [if_neg e]; exact h
theorem Bok.rollA {A : List Ac} (h : Bok A) (n : Int) (carry : Bool) : Bok (rollA A n carry) := by
  unfold fnd.rollA
  by_cases q : NodeOk n
  · rw [if_pos q]
    obtain ⟨n1, n2⟩ := q
    have hr := acG_ok h n
    generalize acG A n = a at *
    obtain ⟨at_, ac, ae, au, ah⟩ := a
    obtain ⟨⟨⟨a1, a2⟩, ⟨b1, b2⟩, ⟨c1, c2⟩, ⟨d1, d2⟩, ⟨g1, g2⟩⟩, hs, hl⟩ := hr
    unfold left at hl
    dsimp only at a1 a2 b1 b2 c1 c2 d1 d2 g1 g2 hs hl
    have hz : InM 0 := ⟨by omega, by omega⟩
    refine h.set (by omega) (by omega) ⟨⟨hz, ?_, hz, hz, ⟨g1, g2⟩⟩, ?_, ?_⟩
    · cases carry <;> simp [rolled, goneN, left, InM] <;> omega
    · cases carry <;> simp [rolled, goneN, left] <;> omega
    · cases carry <;> simp [rolled, goneN, left] <;> omega
  · rw [if_neg q]; exact h
end Go.Proofs.YtkbaafgaaiekpaaGreat.fnd
