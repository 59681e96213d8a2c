/- Several texts together: DbA. -/
import Derived.Test.YtkbaafgaaiekpaaGreatPeriodActsZ1
import Derived.Test.YtkbaafgaaiekpaaGreatPeriodActsZ16
import Derived.Test.YtkbaafgaaiekpaaGreatPeriodActsZ18
namespace Go.Proofs.YtkbaafgaaiekpaaGreat.dbk
open Go.RowKit mem tre fnd
set_option linter.unusedVariables false

structure Tl where
  a : Value
  b : Value
  c : Value
def BkJ (T : Tl) (w : World) (p : Nat) (A : List Ac) : Prop := (∀ k, k < 33 → AcAt w p (k * 5) (A.getD k zA)) ∧ (∀ j, j < 168 → w.frozen? ⟨p, j, none⟩ = false) ∧ w.cell? ⟨p, 165, none⟩ = some T.a ∧ w.cell? ⟨p, 166, none⟩ = some T.b ∧ w.cell? ⟨p, 167, none⟩ = some T.c
theorem BkJ.fz {T : Tl} {w : World} {p : Nat} {A : List Ac} (h : BkJ T w p A) (j : Nat) (hj : j < 168) : w.frozen? ⟨p, j, none⟩ = false := h.2.1 j hj
theorem BkJ.bk {T : Tl} {w : World} {p : Nat} {A : List Ac} (h : BkJ T w p A) : BkAt w p A := ⟨h.1, fun j hj => h.2.1 j (by omega)⟩
theorem BkJ.lt {T : Tl} {w : World} {p : Nat} {A : List Ac} (h : BkJ T w p A) : p < w.heap.size := h.bk.lt
theorem BkJ.only {S : Nat → Prop} {T : Tl} {w w' : World} {p : Nat} {A : List Ac} (h : BkJ T w p A) (ho : Only S w w') (hs : ¬ S p) : BkJ T w' p A :=
  ⟨fun k hk => (h.1 k hk).only ho hs, fun j hj => (ho.frozen (p := ⟨p, j, none⟩) h.lt hs).trans (h.2.1 j hj), ho.cell' h.2.2.1 hs, ho.cell' h.2.2.2.1 hs, ho.cell' h.2.2.2.2 hs⟩
theorem BkJ.put {T : Tl} {w : World} {p : Nat} {A : List Ac} (hl : A.length = 33) (h : BkJ T w p A) (k : Nat) (n : Ac) (hk : k < 33) : BkJ T (put5 w p (k * 5) (.int .i64 n.t) (.int .i64 n.c) (.int .i64 n.e) (.int .i64 n.u) (.int .i64 n.h)) p (A.set k n) :=
  ⟨(BkAt.put hl h.bk k n hk).1, fun j hj => (put5_froz _ _ _ _ _ _ _ _ _).trans (h.2.1 j hj), (put5_far _ _ _ _ _ _ _ _ _ (by omega)).trans h.2.2.1, (put5_far _ _ _ _ _ _ _ _ _ (by omega)).trans h.2.2.2.1, (put5_far _ _ _ _ _ _ _ _ _ (by omega)).trans h.2.2.2.2⟩
theorem BkJ.store {J : Tl} {w : World} {p : Nat} {T : List Ac} (hl : T.length = 33) (h : BkJ J w p T) (k c : Nat) (v : Value) (n' : Ac) (hk : k < 33) (hc : c < 5) (he : encA n' = (encA (T.getD k zA)).set c v) : BkJ J (w.setCell ⟨p, k * 5 + c, none⟩ v) p (T.set k n') :=
  ⟨(BkAt.store hl h.bk k c v n' hk hc he).1, fun j hj => frozen_set.trans (h.2.1 j hj), (cell_other (off_ne (by omega))).trans h.2.2.1, (cell_other (off_ne (by omega))).trans h.2.2.2.1, (cell_other (off_ne (by omega))).trans h.2.2.2.2⟩
theorem BkJ.room {w : World} {p : Nat} {J : Tl} {T : List Ac} (h : BkJ J w p T) (k : Nat) (hk : k < 33) : (∃ u, w.cell? ⟨p, k * 5, none⟩ = some u) ∧ (∃ u, w.cell? ⟨p, k * 5 + 1, none⟩ = some u) ∧ (∃ u, w.cell? ⟨p, k * 5 + 2, none⟩ = some u) ∧ (∃ u, w.cell? ⟨p, k * 5 + 3, none⟩ = some u) ∧ (∃ u, w.cell? ⟨p, k * 5 + 4, none⟩ = some u) ∧
  w.frozen? ⟨p, k * 5, none⟩ = false ∧ w.frozen? ⟨p, k * 5 + 1, none⟩ = false ∧ w.frozen? ⟨p, k * 5 + 2, none⟩ = false ∧ w.frozen? ⟨p, k * 5 + 3, none⟩ = false ∧ w.frozen? ⟨p, k * 5 + 4, none⟩ = false := h.bk.room k hk
def JDid (T : Tl) (p : Nat) (A' : List Ac) (E : Int) (w : World) (e : Ending) (w' : World) : Prop := e = .returned (.int .i64 E) ∧ BkJ T w' p A' ∧ Only (fun q => q = p) w w'
def JRollDid (T : Tl) (p : Nat) (A' : List Ac) (n E : Int) (w : World) (e : Ending) (w' : World) : Prop := e = .returned (.tuple #[.int .i64 n, .int .i64 E]) ∧ BkJ T w' p A' ∧ Only (fun q => q = p) w w'
set_option maxRecDepth 100000 in
set_option maxHeartbeats 4000000 in
theorem rtop_any (T : Tl) (p : Nat) (A : List Ac) (n x : Int) (w : World) (h : BkJ T w p A) (hA : Bok A) : Calls Tryz.prog 82 #[.pointer (some ⟨p, 0, none⟩), .int .i64 n, .int .i64 x] w (JDid T p (topA A n x) (topE A n x) w) := by
  have HB := Lib.hid h
  have HA := Lib.hid hA
  clear h hA
  by_cases hn : NodeOk n
  · by_cases hx : AmtOk x
    · have hE0 : topE A n x = if 9007199254740992 < (acG A n).t + (acG A n).c + x then 6 else 0 := by unfold topE; rw [if_pos ⟨hn, hx⟩]
      have hT0 : topA A n x = if topE A n x = 0 then A.set n.toNat { acG A n with t := (acG A n).t + x } else A := rfl
      have hok := acG_ok HA.out n
      obtain ⟨i1, i2⟩ := hn
      obtain ⟨x1, x2⟩ := hx
      obtain ⟨k, rfl⟩ : ∃ k : Nat, n = k := ⟨n.toNat, by omega⟩
      have hk : k < 33 := by omega
      have hk2 : (k : Int) < 33 := by omega
      have hk0 : (0 : Int) ≤ k := by omega
      rw [acG_nat (by omega) hk] at hE0 hT0 hok
      rw [Int.toNat_natCast] at hT0
      obtain ⟨c0, c1, c2, c3, c4⟩ := HB.out.1 k hk
      have HG : Hid (A.getD k zA = A.getD k zA) := Lib.hid rfl
      generalize hg : A.getD k zA = a at *
      have HGQ := Lib.hid hg
      obtain ⟨at_, ac, ae, au, ah⟩ := a
      dsimp only at c0 c1 c2 c3 c4 hE0 hT0
      obtain ⟨⟨⟨a1, a2⟩, ⟨b1, b2⟩, -⟩, hs, -⟩ := hok
      dsimp only at a1 a2 b1 b2 hs
      have q1 : IntKind.i64.wrap (at_ + ac) = at_ + ac := w64 _ (by omega) (by omega)
      have q2 : IntKind.i64.wrap (at_ + ac + x) = at_ + ac + x := w64 _ (by omega) (by omega)
      have q3 : IntKind.i64.wrap (at_ + x) = at_ + x := w64 _ (by omega) (by omega)
      clear hg HG
      by_cases ho : 9007199254740992 < at_ + ac + x
      · rw [if_pos ho] at hE0
        rw [hE0] at hT0
        rw [hE0, hT0, if_neg (by decide)]
        clear hE0 hT0 a1 a2 b1 b2 hs
        go_enter Tryz.func82, Tryz.ntmps82
        go_wp2_with fail
        refine (rNode_yes _ _ i1 i2).mono ?_
        rintro _ _ ⟨rfl, rfl⟩
        go_upto_region 3 with fail
        refine wp_region_noPanic ?_
        refine late.region (fun w' => ∀ q, w'.cell? q = w.cell? q) (fun j => [].contains j) (by kernel_rfl) (fun q => by simp) (fun hHeld => ?_)
        refine sho.lt 0 [2, 3, 4, 5, 6, 14, 16, 17] ?_
        refine sho.lt 1 [4, 5, 6, 14, 16, 17] ?_
        refine sho.lt 2 [3, 4, 5, 6, 14, 16, 17] ?_
        refine sho.lt 3 [4, 5, 6, 14, 16, 17] ?_
        refine sho.lt 4 [5, 6, 14, 16, 17] ?_
        refine sho.lt 5 [6, 14, 16, 17] ?_
        refine sho.lt 6 [14, 16, 17] ?_
        refine sho.lt 7 [9, 10, 11, 12, 13, 14, 16, 17] ?_
        refine sho.lt 8 [11, 12, 13, 14, 16, 17] ?_
        refine sho.lt 9 [10, 11, 12, 13, 14, 16, 17] ?_
        refine sho.lt 10 [11, 12, 13, 14, 16, 17] ?_
        refine sho.lt 11 [12, 13, 14, 16, 17] ?_
        refine sho.lt 12 [13, 14, 16, 17] ?_
        refine sho.lt 13 [14, 16, 17] ?_
        refine sho.lt 14 [16, 17] ?_
        refine sho.lt 15 [16, 17] ?_
        refine sho.lt 16 [17] ?_
        refine sho.lt 17 [] ?_
        refine late.done (by kernel_rfl) ?_ _
        refine NoPanic.normal ?_
        go_wp2_with fail
        go_ret
        exact ⟨rfl, HB.out.only (Only.refl (fun _ => False) _).drew (fun f => f), (Only.refl _ _).drew⟩
      · rw [if_neg ho] at hE0
        rw [hE0, if_pos rfl] at hT0
        rw [hE0, hT0]
        clear hE0 hT0 a1 a2 b1 b2 hs
        have HST : Hid (∀ w1, Only (fun _ => False) w w1 → BkJ T (w1.setCell ⟨p, k * 5, none⟩ (.int .i64 (at_ + x))) p (A.set k ⟨at_ + x, ac, ae, au, ah⟩)) := Lib.hid (fun w1 ho => (HB.out.only ho (fun f => f)).store HA.out.len k 0 _ _ hk (by omega) (by rw [HGQ.out]; rfl))
        have HFZ : Hid (∀ w1, Only (fun _ => False) w w1 → w1.frozen? ⟨p, k * 5, none⟩ = false) := Lib.hid (fun w1 ho => (ho.frozen (p := ⟨p, k * 5, none⟩) HB.out.lt (fun f => f)).trans (HB.out.fz _ (by omega)))
        go_enter Tryz.func82, Tryz.ntmps82
        go_wp2_with fail
        refine (rNode_yes _ _ i1 i2).mono ?_
        rintro _ _ ⟨rfl, rfl⟩
        go_upto_region 3 with fail
        refine wp_region_noPanic ?_
        refine late.region (fun w' => ∀ q, w'.cell? q = w.cell? q) (fun j => [].contains j) (by kernel_rfl) (fun q => by simp) (fun hHeld => ?_)
        refine sho.lt 0 [2, 3, 4, 5, 6, 14, 16, 17] ?_
        refine sho.lt 1 [4, 5, 6, 14, 16, 17] ?_
        refine sho.lt 2 [3, 4, 5, 6, 14, 16, 17] ?_
        refine sho.lt 3 [4, 5, 6, 14, 16, 17] ?_
        refine sho.lt 4 [5, 6, 14, 16, 17] ?_
        refine sho.lt 5 [6, 14, 16, 17] ?_
        refine sho.lt 6 [14, 16, 17] ?_
        refine sho.lt 7 [9, 10, 11, 12, 13, 14, 16, 17] ?_
        refine sho.lt 8 [11, 12, 13, 14, 16, 17] ?_
        refine sho.lt 9 [10, 11, 12, 13, 14, 16, 17] ?_
        refine sho.lt 10 [11, 12, 13, 14, 16, 17] ?_
        refine sho.lt 11 [12, 13, 14, 16, 17] ?_
        refine sho.lt 12 [13, 14, 16, 17] ?_
        refine sho.lt 13 [14, 16, 17] ?_
        refine sho.lt 14 [16, 17] ?_
        refine sho.lt 15 [16, 17] ?_
        refine sho.lt 16 [17] ?_
        refine sho.lt 17 [] ?_
        refine late.done (by kernel_rfl) ?_ _
        refine NoPanic.normal ?_
        have hdr : Only (fun _ => False) w w.drew := (Only.refl _ _).drew
        obtain ⟨w5, hw5⟩ : ∃ x, x = w.drew := ⟨_, rfl⟩
        rw [← hw5] at hdr ⊢
        replace c0 := hdr.cell' c0 (fun f => f)
        replace c1 := hdr.cell' c1 (fun f => f)
        have HD5 := Lib.hid hdr
        clear hdr hw5 hHeld
        go_upto_region 5 with fail
        refine wp_region_noPanic ?_
        refine late.region (fun w' => ∀ q, w'.cell? q = w5.cell? q) (fun j => [15].contains j) (by kernel_rfl) (fun q => by simp) (fun hHeld => ?_)
        obtain ⟨z0, hz0⟩ : ∃ x, x = w5.drew := ⟨_, rfl⟩
        rw [← hz0] at hHeld ⊢
        have hou : Only (fun _ => False) w5 z0 := by rw [hz0]; exact (Only.refl _ _).drew
        have ho5 := HD5.out.trans hou
        have hc0 := hou.cell' c0 (fun f => f)
        have f0 := HFZ.out _ ho5
        have HS9 := Lib.hid (HST.out _ ho5)
        have HO9 := Lib.hid ((Only.p p ho5).trans (Only.set (fun q => q = p) z0 p (k * 5) (.int .i64 (at_ + x)) rfl))
        clear ho5
        clear hou hz0
        refine sho.lt 0 [11, 12, 13, 14, 15] ?_
        refine sho.lt 1 [13, 14, 15] ?_
        refine sho.lt 2 [4, 5, 6, 7, 8, 10, 13, 14, 15] ?_
        refine sho.lt 3 [6, 7, 8, 10, 13, 14, 15] ?_
        refine sho.lt 4 [5, 6, 7, 8, 10, 13, 14, 15] ?_
        refine sho.lt 5 [6, 7, 8, 10, 13, 14, 15] ?_
        refine sho.lt 6 [7, 8, 10, 13, 14, 15] ?_
        refine sho.lt 7 [8, 10, 13, 14, 15] ?_
        refine sho.lt 8 [10, 13, 14, 15] ?_
        refine sho.lt 9 [10, 13, 14, 15] ?_
        refine sho.lt 10 [13, 14, 15] ?_
        refine sho.lt 11 [12, 13, 14, 15] ?_
        refine sho.lt 12 [13, 14, 15] ?_
        refine sho.lt 13 [14, 15] ?_
        refine sho.lt 14 [15] ?_
        refine late.ready (rs := [15]) (by kernel_rfl) (by simp) ?_
        refine late.Each.cons rfl (fun K hK => ?_) late.Each.nil
        clear hHeld
        try simp only [List.getElem_toArray, List.getElem_cons_zero, List.getElem_cons_succ]
        go_simp
        refine hK.out _ _ (fun h => by cases h) (fun _ => ?_)
        clear hK K
        try simp only [List.getElem_toArray, List.getElem_cons_zero, List.getElem_cons_succ, Act.put, List.setIfInBounds_toArray, List.set_cons_zero, List.set_cons_succ]
        refine late.done (by kernel_rfl) ?_ _
        refine NoPanic.normal ?_
        go_wp2_with fail
        go_ret
        exact ⟨rfl, HS9.out, HO9.out⟩
    · have hx' : ¬ (1 ≤ x ∧ x ≤ 9007199254740992) := hx
      have hE : topE A n x = 1 := by unfold topE; rw [if_neg (fun q => hx q.2)]
      have hT : topA A n x = A := by unfold topA; rw [hE]; rfl
      rw [hE, hT]
      clear hE hT
      by_cases x1 : 1 ≤ x
      · have x2 : ¬ x ≤ 9007199254740992 := fun q => hx ⟨x1, q⟩
        clear hx hx'
        obtain ⟨i1, i2⟩ := hn
        go_enter Tryz.func82, Tryz.ntmps82
        go_wp2_with fail
        refine (rNode_yes _ _ i1 i2).mono ?_
        rintro _ _ ⟨rfl, rfl⟩
        go_wp2_with fail
        go_ret
        exact ⟨rfl, HB.out, Only.refl _ _⟩
      · clear hx hx'
        obtain ⟨i1, i2⟩ := hn
        go_enter Tryz.func82, Tryz.ntmps82
        go_wp2_with fail
        refine (rNode_yes _ _ i1 i2).mono ?_
        rintro _ _ ⟨rfl, rfl⟩
        go_wp2_with fail
        go_ret
        exact ⟨rfl, HB.out, Only.refl _ _⟩
  · have hE : topE A n x = 1 := by unfold topE; rw [if_neg (fun q => hn q.1)]
    have hT : topA A n x = A := by unfold topA; rw [hE]; rfl
    rw [hE, hT]
    clear hE hT
    have hn' : ¬ (1 ≤ n ∧ n ≤ 32) := hn
    clear hn
    go_enter Tryz.func82, Tryz.ntmps82
    go_wp2_with fail
    refine (rNode_no _ _ hn').mono ?_
    rintro _ _ ⟨rfl, rfl⟩
    go_wp2_with fail
    go_ret
    exact ⟨rfl, HB.out, Only.refl _ _⟩
set_option maxRecDepth 100000 in
set_option maxHeartbeats 400000 in
theorem rroll_any (T : Tl) (p : Nat) (A : List Ac) (n : Int) (carry : Bool) (w : World) (h : BkJ T w p A) (hA : Bok A) : Calls Tryz.prog 85 #[.pointer (some ⟨p, 0, none⟩), .int .i64 n, .bool carry] w (JRollDid T p (rollA A n carry) (rollN A n carry) (rollE n) w) := by
  have HB := Lib.hid h
  have HA := Lib.hid hA
  clear h hA
  by_cases hn : NodeOk n
  · have hE : rollE n = 0 := by unfold rollE; rw [if_pos hn]
    have hT : rollA A n carry = A.set n.toNat (rolled (acG A n) carry) := by unfold rollA; rw [if_pos hn]
    have hN : rollN A n carry = goneN (acG A n) carry := by unfold rollN; rw [if_pos hn]
    rw [hE, hT, hN]
    clear hE hT hN
    have hok := acG_ok HA.out n
    obtain ⟨i1, i2⟩ := hn
    obtain ⟨k, rfl⟩ : ∃ k : Nat, n = k := ⟨n.toNat, by omega⟩
    have hk : k < 33 := by omega
    have hk2 : (k : Int) < 33 := by omega
    have hk0 : (0 : Int) ≤ k := by omega
    rw [acG_nat (by omega) hk] at hok ⊢
    rw [Int.toNat_natCast]
    obtain ⟨c0, c1, c2, c3, c4⟩ := HB.out.1 k hk
    generalize A.getD k zA = a at *
    have HAV : Hid (∀ w1, _) := Lib.hid (fun w1 => left_any a w1 hok.1)
    obtain ⟨at_, ac, ae, au, ah⟩ := a
    unfold aggA at HAV
    dsimp only at c0 c1 c2 c3 c4 HAV
    obtain ⟨⟨⟨a1, a2⟩, ⟨b1, b2⟩, ⟨d1, d2⟩, ⟨f1, f2⟩, ⟨g1, g2⟩⟩, hs, hl⟩ := hok
    unfold left at hl
    dsimp only at a1 a2 b1 b2 d1 d2 f1 f2 g1 g2 hs hl
    have q1 : IntKind.i64.wrap (at_ + ac) = at_ + ac := w64 _ (by omega) (by omega)
    have q2 : IntKind.i64.wrap (at_ + ac - ae) = at_ + ac - ae := w64 _ (by omega) (by omega)
    have HGB : Hid (∀ b, -100000000000000000 ≤ goneN ⟨at_, ac, ae, au, ah⟩ b ∧ goneN ⟨at_, ac, ae, au, ah⟩ b ≤ 100000000000000000) := Lib.hid (fun b => by cases b <;> simp [goneN, left] <;> omega)
    have HGD : Hid (goneN ⟨at_, ac, ae, au, ah⟩ false = left ⟨at_, ac, ae, au, ah⟩ ∧ goneN ⟨at_, ac, ae, au, ah⟩ true = 0) := Lib.hid ⟨rfl, rfl⟩
    have HW2 : Hid (∀ b, IntKind.i64.wrap (at_ + ac - ae - goneN ⟨at_, ac, ae, au, ah⟩ b) = at_ + ac - ae - goneN ⟨at_, ac, ae, au, ah⟩ b ∧ IntKind.i64.wrap (at_ + ac - ae - goneN ⟨at_, ac, ae, au, ah⟩ b - au) = at_ + ac - ae - goneN ⟨at_, ac, ae, au, ah⟩ b - au) := Lib.hid (fun b => by
      have := HGB.out b
      exact ⟨w64 _ (by omega) (by omega), w64 _ (by omega) (by omega)⟩)
    have HST : Hid (∀ w1 b, Only (fun _ => False) w w1 → BkJ T (put5 w1 p (k * 5) (.int .i64 0) (.int .i64 (at_ + ac - ae - goneN ⟨at_, ac, ae, au, ah⟩ b - au)) (.int .i64 0) (.int .i64 0) (.int .i64 ah)) p (A.set k (rolled ⟨at_, ac, ae, au, ah⟩ b))) := Lib.hid (fun w1 b ho => (HB.out.only ho (fun f => f)).put HA.out.len k (rolled ⟨at_, ac, ae, au, ah⟩ b) hk)
    have HRM : Hid (∀ w1, Only (fun _ => False) w w1 → _) := Lib.hid (fun w1 ho => (HB.out.only ho (fun f => f)).room k hk)
    clear a1 a2 b1 b2 d1 d2 f1 f2 g1 g2 hs hl HGB
    cases carry
    · have hgn := HGD.out.1
      obtain ⟨q3, q4⟩ := HW2.out false
      have HST2 : Hid (∀ w1, Only (fun _ => False) w w1 → _) := Lib.hid (fun w1 ho => HST.out w1 false ho)
      rw [hgn] at q3 q4 HST2 ⊢
      clear hgn HGD HW2 HST
      generalize left ⟨at_, ac, ae, au, ah⟩ = gn at *
      obtain ⟨e0, e1, e2, e3, e4, ho9⟩ := node_box 41 (.int .i64 at_) (.int .i64 ac) (.int .i64 ae) (.int .i64 au) (.int .i64 ah) (Only.refl (fun _ => False) w)
      obtain ⟨w1, hw1⟩ : ∃ x, x = w.alloc (.cells #[.int .i64 at_, .int .i64 ac, .int .i64 ae, .int .i64 au, .int .i64 ah] 41) := ⟨_, rfl⟩
      obtain ⟨g, hg⟩ : ∃ x, x = w.heap.size := ⟨_, rfl⟩
      simp only [← hw1, ← hg] at e0 e1 e2 e3 e4 ho9
      go_enter Tryz.func85, Tryz.ntmps85
      go_wp2_with fail
      refine (rNode_yes _ _ i1 i2).mono ?_
      rintro _ _ ⟨rfl, rfl⟩
      go_upto_region 5 with fail
      simp only [← hw1, ← hg]
      clear hw1 hg
      go_wp2_with fail
      refine (HAV.out _).mono ?_
      rintro _ w2 ⟨rfl, ho⟩
      have HO2 := Lib.hid (ho9.trans ho)
      replace e0 := ho.cell' e0 (fun f => f)
      replace e1 := ho.cell' e1 (fun f => f)
      replace e2 := ho.cell' e2 (fun f => f)
      replace e3 := ho.cell' e3 (fun f => f)
      replace e4 := ho.cell' e4 (fun f => f)
      clear ho ho9 c0 c1 c2 c3 c4
      go_upto_region 7 with fail
      refine wp_region_noPanic ?_
      refine late.region (fun w' => ∀ q, w'.cell? q = w2.cell? q) (fun j => [21].contains j) (by kernel_rfl) (fun q => by simp) (fun hHeld => ?_)
      obtain ⟨z0, hz0⟩ : ∃ x, x = w2.drew := ⟨_, rfl⟩
      rw [← hz0] at hHeld ⊢
      have hou : Only (fun _ => False) w2 z0 := by rw [hz0]; exact (Only.refl _ _).drew
      have ho5 := HO2.out.trans hou
      obtain ⟨⟨u0, y0⟩, ⟨u1, y1⟩, ⟨u2, y2⟩, ⟨u3, y3⟩, ⟨u4, y4⟩, f0, f1, f2, f3, f4⟩ := HRM.out _ ho5
      have HS9 := Lib.hid (HST2.out _ ho5)
      have HO9 := Lib.hid ((Only.p p ho5).trans (put5_only z0 p (k * 5) (.int .i64 0) (.int .i64 (at_ + ac - ae - gn - au)) (.int .i64 0) (.int .i64 0) (.int .i64 ah)))
      unfold put5 at HS9 HO9
      clear ho5 HST2 HRM
      clear hou hz0
      refine sho.lt 0 [18, 19, 20, 21] ?_
      refine sho.lt 1 [20, 21] ?_
      refine sho.lt 2 [3, 6, 9, 11, 14, 17, 20, 21] ?_
      refine sho.lt 3 [6, 9, 11, 14, 17, 20, 21] ?_
      refine sho.lt 4 [5, 6, 9, 11, 14, 17, 20, 21] ?_
      refine sho.lt 5 [6, 9, 11, 14, 17, 20, 21] ?_
      refine sho.lt 6 [9, 11, 14, 17, 20, 21] ?_
      refine sho.lt 7 [8, 9, 11, 14, 17, 20, 21] ?_
      refine sho.lt 8 [9, 11, 14, 17, 20, 21] ?_
      refine sho.lt 9 [11, 14, 17, 20, 21] ?_
      refine sho.lt 10 [11, 14, 17, 20, 21] ?_
      refine sho.lt 11 [14, 17, 20, 21] ?_
      refine sho.lt 12 [13, 14, 17, 20, 21] ?_
      refine sho.lt 13 [14, 17, 20, 21] ?_
      refine sho.lt 14 [17, 20, 21] ?_
      refine sho.lt 15 [16, 17, 20, 21] ?_
      refine sho.lt 16 [17, 20, 21] ?_
      refine sho.lt 17 [20, 21] ?_
      refine sho.lt 18 [19, 20, 21] ?_
      refine sho.lt 19 [20, 21] ?_
      refine sho.lt 20 [21] ?_
      refine late.ready (rs := [21]) (by kernel_rfl) (by simp) ?_
      refine late.Each.cons rfl (fun K hK => ?_) late.Each.nil
      clear hHeld
      try simp only [List.getElem_toArray, List.getElem_cons_zero, List.getElem_cons_succ]
      go_simp
      refine hK.out _ _ (fun h => by cases h) (fun _ => ?_)
      clear hK K
      try simp only [List.getElem_toArray, List.getElem_cons_zero, List.getElem_cons_succ, Act.put, List.setIfInBounds_toArray, List.set_cons_zero, List.set_cons_succ]
      refine late.done (by kernel_rfl) ?_ _
      refine NoPanic.normal ?_
      go_wp2_with fail
      go_ret2
      exact ⟨rfl, HS9.out, HO9.out⟩
    · have hgn := HGD.out.2
      obtain ⟨q3, q4⟩ := HW2.out true
      have HST2 : Hid (∀ w1, Only (fun _ => False) w w1 → _) := Lib.hid (fun w1 ho => HST.out w1 true ho)
      rw [hgn] at q3 q4 HST2 ⊢
      clear hgn HGD HW2 HST
      simp only [Int.sub_zero] at q3 q4 HST2
      obtain ⟨e0, e1, e2, e3, e4, ho9⟩ := node_box 41 (.int .i64 at_) (.int .i64 ac) (.int .i64 ae) (.int .i64 au) (.int .i64 ah) (Only.refl (fun _ => False) w)
      obtain ⟨w1, hw1⟩ : ∃ x, x = w.alloc (.cells #[.int .i64 at_, .int .i64 ac, .int .i64 ae, .int .i64 au, .int .i64 ah] 41) := ⟨_, rfl⟩
      obtain ⟨g, hg⟩ : ∃ x, x = w.heap.size := ⟨_, rfl⟩
      simp only [← hw1, ← hg] at e0 e1 e2 e3 e4 ho9
      go_enter Tryz.func85, Tryz.ntmps85
      go_wp2_with fail
      refine (rNode_yes _ _ i1 i2).mono ?_
      rintro _ _ ⟨rfl, rfl⟩
      go_upto_region 5 with fail
      simp only [← hw1, ← hg]
      clear hw1 hg
      have ho : Only (fun _ => False) w1 w1 := Only.refl _ _
      have HO2 := Lib.hid (ho9.trans ho)
      replace e0 := ho.cell' e0 (fun f => f)
      replace e1 := ho.cell' e1 (fun f => f)
      replace e2 := ho.cell' e2 (fun f => f)
      replace e3 := ho.cell' e3 (fun f => f)
      replace e4 := ho.cell' e4 (fun f => f)
      clear ho ho9 c0 c1 c2 c3 c4
      go_upto_region 7 with fail
      refine wp_region_noPanic ?_
      refine late.region (fun w' => ∀ q, w'.cell? q = w1.cell? q) (fun j => [21].contains j) (by kernel_rfl) (fun q => by simp) (fun hHeld => ?_)
      obtain ⟨z0, hz0⟩ : ∃ x, x = w1.drew := ⟨_, rfl⟩
      rw [← hz0] at hHeld ⊢
      have hou : Only (fun _ => False) w1 z0 := by rw [hz0]; exact (Only.refl _ _).drew
      have ho5 := HO2.out.trans hou
      obtain ⟨⟨u0, y0⟩, ⟨u1, y1⟩, ⟨u2, y2⟩, ⟨u3, y3⟩, ⟨u4, y4⟩, f0, f1, f2, f3, f4⟩ := HRM.out _ ho5
      have HS9 := Lib.hid (HST2.out _ ho5)
      have HO9 := Lib.hid ((Only.p p ho5).trans (put5_only z0 p (k * 5) (.int .i64 0) (.int .i64 (at_ + ac - ae - au)) (.int .i64 0) (.int .i64 0) (.int .i64 ah)))
      unfold put5 at HS9 HO9
      clear ho5 HST2 HRM
      clear hou hz0
      refine sho.lt 0 [18, 19, 20, 21] ?_
      refine sho.lt 1 [20, 21] ?_
      refine sho.lt 2 [3, 6, 9, 11, 14, 17, 20, 21] ?_
      refine sho.lt 3 [6, 9, 11, 14, 17, 20, 21] ?_
      refine sho.lt 4 [5, 6, 9, 11, 14, 17, 20, 21] ?_
      refine sho.lt 5 [6, 9, 11, 14, 17, 20, 21] ?_
      refine sho.lt 6 [9, 11, 14, 17, 20, 21] ?_
      refine sho.lt 7 [8, 9, 11, 14, 17, 20, 21] ?_
      refine sho.lt 8 [9, 11, 14, 17, 20, 21] ?_
      refine sho.lt 9 [11, 14, 17, 20, 21] ?_
      refine sho.lt 10 [11, 14, 17, 20, 21] ?_
      refine sho.lt 11 [14, 17, 20, 21] ?_
      refine sho.lt 12 [13, 14, 17, 20, 21] ?_
      refine sho.lt 13 [14, 17, 20, 21] ?_
      refine sho.lt 14 [17, 20, 21] ?_
      refine sho.lt 15 [16, 17, 20, 21] ?_
      refine sho.lt 16 [17, 20, 21] ?_
      refine sho.lt 17 [20, 21] ?_
      refine sho.lt 18 [19, 20, 21] ?_
      refine sho.lt 19 [20, 21] ?_
      refine sho.lt 20 [21] ?_
      refine late.ready (rs := [21]) (by kernel_rfl) (by simp) ?_
      refine late.Each.cons rfl (fun K hK => ?_) late.Each.nil
      clear hHeld
      try simp only [List.getElem_toArray, List.getElem_cons_zero, List.getElem_cons_succ]
      go_simp
      refine hK.out _ _ (fun h => by cases h) (fun _ => ?_)
      clear hK K
      try simp only [List.getElem_toArray, List.getElem_cons_zero, List.getElem_cons_succ, Act.put, List.setIfInBounds_toArray, List.set_cons_zero, List.set_cons_succ]
      refine late.done (by kernel_rfl) ?_ _
      refine NoPanic.normal ?_
      go_wp2_with fail
      go_ret2
      exact ⟨rfl, HS9.out, HO9.out⟩
  · have hE : rollE n = 1 := by unfold rollE; rw [if_neg hn]
    have hT : rollA A n carry = A := by unfold rollA; rw [if_neg hn]
    have hN : rollN A n carry = 0 := by unfold rollN; rw [if_neg hn]
    rw [hE, hT, hN]
    clear hE hT hN
    have hn' : ¬ (1 ≤ n ∧ n ≤ 32) := hn
    clear hn
    go_enter Tryz.func85, Tryz.ntmps85
    go_wp2_with fail
    refine (rNode_no _ _ hn').mono ?_
    rintro _ _ ⟨rfl, rfl⟩
    go_wp2_with fail
    go_ret2
    exact ⟨rfl, HB.out, Only.refl _ _⟩
set_option maxRecDepth 100000 in
set_option maxHeartbeats 4000000 in
theorem rmove0_any (T : Tl) (p : Nat) (A : List Ac) (a : Option Addr) (n c : Nat) (l : List Int) (x : Int) (w : World) (h : BkJ T w p A) (hA : Bok A) (hr : ReadsI w a n l) (hc : n ≤ c) (hpa : ∀ y, a = some y → y.block ≠ p) : Calls Tryz.prog 84 #[.pointer (some ⟨p, 0, none⟩), .int .i64 0, .slice a n c, .int .i64 x] w (JDid T p (shA A l x (-x) (0)) (shE A l x (-x) (0)) w) := by
  have HB := Lib.hid h
  have HA := Lib.hid hA
  have HR := Lib.hid hr
  have HPA := Lib.hid hpa
  have HIS := Lib.hid (rpath_any a n c l w hr hc)
  have hm := hr.2.1
  unfold maxLen at hm
  have HLN := Lib.hid hr.1
  clear h hA hr hpa
  by_cases hp : PathOk l
  · have HDP : Hid (decide (PathOk l) = true) := Lib.hid (decide_eq_true hp)
    by_cases hx : AmtOk x
    · have HE0 : Hid (shE A l x (-x) (0) = if badB A (-x) (0) l = true then 20 else 0) := Lib.hid (by unfold shE; rw [if_pos ⟨hp, hx⟩])
      have HT0 : Hid (shA A l x (-x) (0) = if shE A l x (-x) (0) = 0 then shT A l (-x) (0) else A) := Lib.hid rfl
      have HPK : Hid (∀ i, i < n → ∃ k : Nat, l.getD i 0 = k ∧ 1 ≤ k ∧ k < 33) := Lib.hid (fun i hi => by obtain ⟨k, q1, q2, q3, _⟩ := path_toNat hp i (by rw [HLN.out]; exact hi); exact ⟨k, q1, q2, q3⟩)
      have HSA : Hid (∀ i, i < n → nd (shT A (l.take i) (-x) (0)) (l.getD i 0) = nd A (l.getD i 0)) := Lib.hid (fun i hi => shT_at hp i (by rw [HLN.out]; exact hi) (-x) (0))
      have HSS : Hid (∀ i, i < n → shT A (l.take (i + 1)) (-x) (0) = (shT A (l.take i) (-x) (0)).set (l.getD i 0).toNat (shB (nd (shT A (l.take i) (-x) (0)) (l.getD i 0)) (-x) (0))) := Lib.hid (fun i hi => shT_take A l (-x) (0) i (by rw [HLN.out]; exact hi))
      have HDR : Hid (∀ i, i < n → badB A (-x) (0) (l.drop i) = ((decide ((nd A (l.getD i 0)).h + (-x) < 0) || decide ((nd A (l.getD i 0)).u + (0) < 0)) || badB A (-x) (0) (l.drop (i + 1)))) := Lib.hid (fun i hi => by rw [drop_at l i (by rw [HLN.out]; exact hi)]; rfl)
      have HND : Hid (∀ i, Parts (nd A i)) := Lib.hid (fun i => (HA.out.ok _).1)
      have HSL0 : Hid (∀ i, (shT A (l.take i) (-x) (0)).length = 33) := Lib.hid (fun i => (shT_len _ _ _ _).trans HA.out.len)
      have HF0 : Hid (shT A (l.take 0) (-x) (0) = A) := Lib.hid rfl
      have HFN : Hid (shT A (l.take n) (-x) (0) = shT A l (-x) (0)) := Lib.hid (by rw [List.take_of_length_le (by rw [HLN.out]; exact Nat.le_refl _)])
      have HBN : Hid (badB A (-x) (0) (l.drop n) = false) := Lib.hid (by rw [List.drop_eq_nil_of_le (by rw [HLN.out]; exact Nat.le_refl _)]; rfl)
      rw [HDP.out] at HIS
      obtain ⟨x1, x2⟩ := hx
      clear hp HDP
      generalize shE A l x (-x) (0) = E at *
      generalize shA A l x (-x) (0) = A' at *
      go_enter Tryz.func84, Tryz.ntmps84
      go_wp2_with fail
      refine (HIS.out).mono ?_
      rintro _ w1 ⟨rfl, ho⟩
      have HO1 := Lib.hid ho
      have HR1 := Lib.hid (HR.out.only ho (fun _ _ f => f))
      have HB1 := Lib.hid (HB.out.only ho (fun f => f))
      clear ho
      go_wp2_with fail
      go_loopw [9] (fun iv wr => ∃ i : Nat, i ≤ n ∧ iv = .int .i64 (i : Int) ∧ Hid (badB A (-x) (0) l = badB A (-x) (0) (l.drop i)) ∧ Hid (Only (fun _ => False) w1 wr)) (fun iv _ => n - (intOf iv).toNat)
      case atStart => exact ⟨0, by omega, rfl, Lib.hid rfl, Lib.hid (Only.refl _ _)⟩
      case round =>
        obtain ⟨i, hi, rfl, HD, HO⟩ := hrel
        rename World => wr
        by_cases h8 : i < n
        · obtain ⟨b, off, rfl, hcell⟩ := HR1.out.2.2.2.resolve_left (by omega)
          have cx := HO.out.cell' (hcell i h8) (fun f => f)
          have hi0 : (0 : Int) ≤ i := by omega
          have hi1 : (i : Int) < n := by omega
          obtain ⟨k, hk, k1, k2⟩ := HPK.out i h8
          rw [hk] at cx
          have hk2 : (k : Int) < 33 := by omega
          have hk0 : (0 : Int) ≤ k := by omega
          have hdd := HDR.out i h8
          have hpt := HND.out (l.getD i 0)
          rw [hk, nd_nat] at hdd hpt
          obtain ⟨c0, c1, c2, c3, c4⟩ := (HB1.out.only HO.out (fun f => f)).1 k k2
          generalize A.getD k zA = ac at *
          obtain ⟨at_, ac, ae, au, ah⟩ := ac
          dsimp only at c0 c1 c2 c3 c4 hdd
          obtain ⟨-, -, -, ⟨u1, u2⟩, ⟨g1, g2⟩⟩ := hpt
          dsimp only at u1 u2 g1 g2
          have HDD := Lib.hid (HD.out.trans hdd)
          have HUG : Hid (0 ≤ au ∧ 0 ≤ ah) := Lib.hid ⟨u1, g1⟩
          have HSL : Hid (∀ w', Only (fun _ => False) wr w' → w'.cell? ⟨b, off + i, none⟩ = some (.int .i64 (k : Int)) ∧ w'.cell? ⟨p, k * 5, none⟩ = some (.int .i64 at_) ∧ w'.cell? ⟨p, k * 5 + 1, none⟩ = some (.int .i64 ac) ∧ w'.cell? ⟨p, k * 5 + 2, none⟩ = some (.int .i64 ae) ∧ w'.cell? ⟨p, k * 5 + 3, none⟩ = some (.int .i64 au) ∧ w'.cell? ⟨p, k * 5 + 4, none⟩ = some (.int .i64 ah)) := Lib.hid (fun w' ho => ⟨ho.cell' cx (fun f => f), ho.cell' c0 (fun f => f), ho.cell' c1 (fun f => f), ho.cell' c2 (fun f => f), ho.cell' c3 (fun f => f), ho.cell' c4 (fun f => f)⟩)
          clear hcell hdd hk u1 u2 g1 g2
          go_upto_region 6 with fail
          refine wp_region_noPanic ?_
          refine late.region (fun w' => w'.cell? ⟨b, off + i, none⟩ = some (.int .i64 (k : Int)) ∧ w'.cell? ⟨p, k * 5, none⟩ = some (.int .i64 at_) ∧ w'.cell? ⟨p, k * 5 + 1, none⟩ = some (.int .i64 ac) ∧ w'.cell? ⟨p, k * 5 + 2, none⟩ = some (.int .i64 ae) ∧ w'.cell? ⟨p, k * 5 + 3, none⟩ = some (.int .i64 au) ∧ w'.cell? ⟨p, k * 5 + 4, none⟩ = some (.int .i64 ah)) (fun j => [].contains j) (by kernel_rfl) (HSL.out _ (Only.refl _ _).drew) (fun hHeld => ?_)
          obtain ⟨z0, hz0⟩ : ∃ x, x = wr.drew := ⟨_, rfl⟩
          rw [← hz0] at hHeld ⊢
          have hou : Only (fun _ => False) wr z0 := by rw [hz0]; exact (Only.refl _ _).drew
          clear hz0
          refine sho.lt 0 [5, 6, 7, 8, 10] ?_
          refine sho.lt 1 [3, 4, 7, 8, 10] ?_
          refine sho.lt 2 [3, 4, 7, 8, 10] ?_
          refine sho.lt 3 [4, 7, 8, 10] ?_
          refine sho.lt 4 [7, 8, 10] ?_
          refine sho.lt 5 [6, 7, 8, 10] ?_
          refine sho.lt 6 [7, 8, 10] ?_
          refine sho.lt 7 [8, 10] ?_
          refine sho.lt 8 [10] ?_
          refine late.ready (rs := [9]) (by kernel_rfl) (by simp) ?_
          refine late.Each.cons rfl (fun K hK => ?_) late.Each.nil
          try simp only [List.getElem_toArray, List.getElem_cons_zero, List.getElem_cons_succ]
          go_simp
          obtain ⟨z1, hz1⟩ : ∃ x, x = z0.alloc (.cells #[.int .i64 0, .int .i64 0, .int .i64 0, .int .i64 0, .int .i64 0] 41) := ⟨_, rfl⟩
          obtain ⟨g, hg⟩ : ∃ x, x = z0.heap.size := ⟨_, rfl⟩
          rw [← hz1, ← hg]
          have ho1 : Only (fun _ => False) wr z1 := by rw [hz1]; exact hou.alloc _
          have hgs : wr.heap.size ≤ g := by rw [hg]; exact hou.size
          have hfive : Five z1 g := by rw [hz1]; exact Five.new hg
          have HFV := Lib.hid hfive
          obtain ⟨⟨y0, hy0'⟩, ⟨y1, hy1'⟩, ⟨y2, hy2'⟩, ⟨y3, hy3'⟩, ⟨y4, hy4'⟩, f0, f1, f2, f3, f4⟩ := hfive
          clear hz1 hg hou
          refine hK.out _ _ (fun _ => HSL.out _ ho1) (fun hHeld1 => ?_)
          replace hHeld1 := hHeld1 rfl
          clear hK K
          try simp only [List.getElem_toArray, List.getElem_cons_zero, List.getElem_cons_succ, Act.put, List.setIfInBounds_toArray, List.set_cons_zero, List.set_cons_succ]
          refine late.ready (rs := [10]) (by kernel_rfl) (by simp) ?_
          refine late.Each.cons rfl (fun K hK => ?_) late.Each.nil
          try simp only [List.getElem_toArray, List.getElem_cons_zero, List.getElem_cons_succ]
          go_simp
          obtain ⟨z2, hz2⟩ : ∃ x, x = put50 z1 g (.int .i64 at_) (.int .i64 ac) (.int .i64 ae) (.int .i64 au) (.int .i64 ah) := ⟨_, rfl⟩
          have HZ2 := Lib.hid hz2
          unfold put50 at hz2
          rw [← hz2]
          have ho2 : Only (fun _ => False) wr z2 := ho1.then (by rw [HZ2.out, put50_eq]; exact put5_only _ _ _ _ _ _ _ _) (fun i hi e => by omega)
          have hbx : (z2.cell? ⟨g, 0, none⟩ = some (.int .i64 at_) ∧ z2.cell? ⟨g, 1, none⟩ = some (.int .i64 ac) ∧ z2.cell? ⟨g, 2, none⟩ = some (.int .i64 ae) ∧ z2.cell? ⟨g, 3, none⟩ = some (.int .i64 au) ∧ z2.cell? ⟨g, 4, none⟩ = some (.int .i64 ah)) := by rw [HZ2.out]; exact HFV.out.put _ _ _ _ _
          obtain ⟨e0, e1, e2, e3, e4⟩ := hbx
          replace f3 : z2.frozen? ⟨g, 3, none⟩ = false := by rw [HZ2.out, put50_eq, put5_froz]; exact f3
          replace f4 : z2.frozen? ⟨g, 4, none⟩ = false := by rw [HZ2.out, put50_eq, put5_froz]; exact f4
          clear hz2 HZ2 HFV hy0' hy1' hy2' hy3' hy4' f0 f1 f2 ho1
          refine hK.out _ _ (fun _ => HSL.out _ ho2) (fun hHeld2 => ?_)
          replace hHeld2 := hHeld2 rfl
          clear hK K
          try simp only [List.getElem_toArray, List.getElem_cons_zero, List.getElem_cons_succ, Act.put, List.setIfInBounds_toArray, List.set_cons_zero, List.set_cons_succ]
          refine late.done (by kernel_rfl) ?_ _
          refine NoPanic.normal ?_
          have HO9 := Lib.hid (HO.out.trans ho2)
          clear ho2 HSL
          by_cases hb1 : ah < x
          · have HFA : Hid (E = 20 ∧ A' = A) := Lib.hid (by
              have hbt : badB A (-x) (0) l = true := by
                rw [HDD.out]
                have : ah + (-x) < 0 := by omega
                simp [this]
              have e : E = 20 := by rw [HE0.out, if_pos hbt]
              exact ⟨e, by rw [HT0.out, e]; rfl⟩)
            go_wp2_with fail
            go_ret
            exact ⟨by rw [HFA.out.1]; rfl, by rw [HFA.out.2]; exact HB1.out.only HO9.out (fun f => f), Only.p p (HO1.out.trans HO9.out)⟩
          · have HD2 : Hid (badB A (-x) (0) l = badB A (-x) (0) (l.drop (i + 1))) := Lib.hid (by
              rw [HDD.out]
              have h1 : ¬ (ah + (-x) < 0) := by have := HUG.out; omega
              have h2 : ¬ (au + (0) < 0) := by have := HUG.out; omega
              simp only [h1, h2]
              simp)
            go_wp2_with fail
            go_roundw
            case rel => exact ⟨i + 1, by omega, by go_num, HD2, HO9⟩
            case measure => simp [intOf]; omega
        · have hin : i = n := by omega
          subst hin
          obtain ⟨n, hnn⟩ : ∃ n, n = i := ⟨i, rfl⟩
          subst hnn
          have HFA : Hid (E = 0 ∧ A' = shT A l (-x) (0)) := Lib.hid (by
            have e : E = 0 := by rw [HE0.out, HD.out, HBN.out]; rfl
            exact ⟨e, by rw [HT0.out, if_pos e]⟩)
          have HB2 := Lib.hid (HB1.out.only HO.out (fun f => f))
          have HR2 := Lib.hid (HR1.out.only HO.out (fun _ _ f => f))
          have HO2 := Lib.hid (HO1.out.trans HO.out)
          rename World => w2
          clear HDR HD HB1 HR1 HO1 HO HBN
          go_wp2_with fail
          go_loopw [11] (fun iv wr => ∃ i : Nat, i ≤ n ∧ iv = .int .i64 (i : Int) ∧ Hid (BkJ T wr p (shT A (l.take i) (-x) (0))) ∧ Hid (Only (fun q => q = p) w2 wr)) (fun iv _ => n - (intOf iv).toNat)
          case atStart => exact ⟨0, by omega, rfl, Lib.hid (by rw [HF0.out]; exact HB2.out), Lib.hid (Only.refl _ _)⟩
          case round =>
            obtain ⟨i, hi, rfl, HBJ, HO⟩ := hrel
            rename World => wr
            by_cases h8 : i < n
            · obtain ⟨b, off, rfl, hcell⟩ := HR2.out.2.2.2.resolve_left (by omega)
              have hbp : ¬ b = p := HPA.out ⟨b, off, none⟩ rfl
              have cx := HO.out.cell' (hcell i h8) hbp
              have hi0 : (0 : Int) ≤ i := by omega
              have hi1 : (i : Int) < n := by omega
              obtain ⟨k, hk, k1, k2⟩ := HPK.out i h8
              rw [hk] at cx
              have hk2 : (k : Int) < 33 := by omega
              have hk0 : (0 : Int) ≤ k := by omega
              have hpt := HND.out (l.getD i 0)
              have hat := HSA.out i h8
              have hss := HSS.out i h8
              have hsl := HSL0.out i
              rw [hat] at hss
              rw [hk, nd_nat] at hpt
              rw [hk, nd_nat, nd_nat] at hat
              rw [hk, nd_nat, Int.toNat_natCast] at hss
              have HSS2 := Lib.hid hss
              have hbj := HBJ.out
              generalize shT A (l.take i) (-x) (0) = AJ at *
              obtain ⟨c0, c1, c2, c3, c4⟩ := hbj.1 k k2
              rw [hat] at c0 c1 c2 c3 c4
              generalize A.getD k zA = ac at *
              obtain ⟨at_, ac, ae, au, ah⟩ := ac
              dsimp only at c0 c1 c2 c3 c4
              obtain ⟨-, -, -, ⟨u1, u2⟩, ⟨g1, g2⟩⟩ := hpt
              dsimp only at u1 u2 g1 g2
              have q1 : IntKind.i64.wrap (ah - x) = ah - x := w64 _ (by omega) (by omega)
              have q2 : IntKind.i64.wrap (au + x) = au + x := w64 _ (by omega) (by omega)
              have q3 : IntKind.i64.wrap (au - x) = au - x := w64 _ (by omega) (by omega)
              have HAT := Lib.hid hat
              have HSLJ := Lib.hid hsl
              have HPUT : Hid (∀ wy, BkJ T wy p AJ → BkJ T (put5 wy p (k * 5) (.int .i64 at_) (.int .i64 ac) (.int .i64 ae) (.int .i64 (au)) (.int .i64 (ah - x))) p (shT A (l.take (i + 1)) (-x) (0))) := Lib.hid (fun wy hy => by
                have := hy.put HSLJ.out k ⟨at_, ac, ae, au, ah - x⟩ k2
                rw [HSS2.out]
                have e : shB ⟨at_, ac, ae, au, ah⟩ (-x) (0) = ⟨at_, ac, ae, au, ah - x⟩ := by simp only [shB, Ac.mk.injEq, true_and]; omega
                rw [e]
                exact this)
              have HSL : Hid (∀ w', Only (fun _ => False) wr w' → w'.cell? ⟨b, off + i, none⟩ = some (.int .i64 (k : Int)) ∧ w'.cell? ⟨p, k * 5, none⟩ = some (.int .i64 at_) ∧ w'.cell? ⟨p, k * 5 + 1, none⟩ = some (.int .i64 ac) ∧ w'.cell? ⟨p, k * 5 + 2, none⟩ = some (.int .i64 ae) ∧ w'.cell? ⟨p, k * 5 + 3, none⟩ = some (.int .i64 au) ∧ w'.cell? ⟨p, k * 5 + 4, none⟩ = some (.int .i64 ah)) := Lib.hid (fun w' ho => ⟨ho.cell' cx (fun f => f), ho.cell' c0 (fun f => f), ho.cell' c1 (fun f => f), ho.cell' c2 (fun f => f), ho.cell' c3 (fun f => f), ho.cell' c4 (fun f => f)⟩)
              clear hcell hk hat hss hsl hbj u1 u2 g1 g2
              go_upto_region 12 with fail
              refine wp_region_noPanic ?_
              refine late.region (fun w' => w'.cell? ⟨b, off + i, none⟩ = some (.int .i64 (k : Int)) ∧ w'.cell? ⟨p, k * 5, none⟩ = some (.int .i64 at_) ∧ w'.cell? ⟨p, k * 5 + 1, none⟩ = some (.int .i64 ac) ∧ w'.cell? ⟨p, k * 5 + 2, none⟩ = some (.int .i64 ae) ∧ w'.cell? ⟨p, k * 5 + 3, none⟩ = some (.int .i64 au) ∧ w'.cell? ⟨p, k * 5 + 4, none⟩ = some (.int .i64 ah)) (fun j => [].contains j) (by kernel_rfl) (HSL.out _ (Only.refl _ _).drew) (fun hHeld => ?_)
              obtain ⟨z0, hz0⟩ : ∃ x, x = wr.drew := ⟨_, rfl⟩
              rw [← hz0] at hHeld ⊢
              have hou : Only (fun _ => False) wr z0 := by rw [hz0]; exact (Only.refl _ _).drew
              clear hz0
              refine sho.lt 0 [5, 6, 7, 8, 10] ?_
              refine sho.lt 1 [3, 4, 7, 8, 10] ?_
              refine sho.lt 2 [3, 4, 7, 8, 10] ?_
              refine sho.lt 3 [4, 7, 8, 10] ?_
              refine sho.lt 4 [7, 8, 10] ?_
              refine sho.lt 5 [6, 7, 8, 10] ?_
              refine sho.lt 6 [7, 8, 10] ?_
              refine sho.lt 7 [8, 10] ?_
              refine sho.lt 8 [10] ?_
              refine late.ready (rs := [9]) (by kernel_rfl) (by simp) ?_
              refine late.Each.cons rfl (fun K hK => ?_) late.Each.nil
              try simp only [List.getElem_toArray, List.getElem_cons_zero, List.getElem_cons_succ]
              go_simp
              obtain ⟨z1, hz1⟩ : ∃ x, x = z0.alloc (.cells #[.int .i64 0, .int .i64 0, .int .i64 0, .int .i64 0, .int .i64 0] 41) := ⟨_, rfl⟩
              obtain ⟨g, hg⟩ : ∃ x, x = z0.heap.size := ⟨_, rfl⟩
              rw [← hz1, ← hg]
              have ho1 : Only (fun _ => False) wr z1 := by rw [hz1]; exact hou.alloc _
              have hgs : wr.heap.size ≤ g := by rw [hg]; exact hou.size
              have hfive : Five z1 g := by rw [hz1]; exact Five.new hg
              have HFV := Lib.hid hfive
              obtain ⟨⟨y0, hy0'⟩, ⟨y1, hy1'⟩, ⟨y2, hy2'⟩, ⟨y3, hy3'⟩, ⟨y4, hy4'⟩, f0, f1, f2, f3, f4⟩ := hfive
              clear hz1 hg hou
              refine hK.out _ _ (fun _ => HSL.out _ ho1) (fun hHeld1 => ?_)
              replace hHeld1 := hHeld1 rfl
              clear hK K
              try simp only [List.getElem_toArray, List.getElem_cons_zero, List.getElem_cons_succ, Act.put, List.setIfInBounds_toArray, List.set_cons_zero, List.set_cons_succ]
              refine late.ready (rs := [10]) (by kernel_rfl) (by simp) ?_
              refine late.Each.cons rfl (fun K hK => ?_) late.Each.nil
              try simp only [List.getElem_toArray, List.getElem_cons_zero, List.getElem_cons_succ]
              go_simp
              obtain ⟨z2, hz2⟩ : ∃ x, x = put50 z1 g (.int .i64 at_) (.int .i64 ac) (.int .i64 ae) (.int .i64 au) (.int .i64 ah) := ⟨_, rfl⟩
              have HZ2 := Lib.hid hz2
              unfold put50 at hz2
              rw [← hz2]
              have ho2 : Only (fun _ => False) wr z2 := ho1.then (by rw [HZ2.out, put50_eq]; exact put5_only _ _ _ _ _ _ _ _) (fun i hi e => by omega)
              have hbx : (z2.cell? ⟨g, 0, none⟩ = some (.int .i64 at_) ∧ z2.cell? ⟨g, 1, none⟩ = some (.int .i64 ac) ∧ z2.cell? ⟨g, 2, none⟩ = some (.int .i64 ae) ∧ z2.cell? ⟨g, 3, none⟩ = some (.int .i64 au) ∧ z2.cell? ⟨g, 4, none⟩ = some (.int .i64 ah)) := by rw [HZ2.out]; exact HFV.out.put _ _ _ _ _
              obtain ⟨e0, e1, e2, e3, e4⟩ := hbx
              replace f3 : z2.frozen? ⟨g, 3, none⟩ = false := by rw [HZ2.out, put50_eq, put5_froz]; exact f3
              replace f4 : z2.frozen? ⟨g, 4, none⟩ = false := by rw [HZ2.out, put50_eq, put5_froz]; exact f4
              clear hz2 HZ2 HFV hy0' hy1' hy2' hy3' hy4' f0 f1 f2 ho1
              refine hK.out _ _ (fun _ => HSL.out _ ho2) (fun hHeld2 => ?_)
              replace hHeld2 := hHeld2 rfl
              clear hK K
              try simp only [List.getElem_toArray, List.getElem_cons_zero, List.getElem_cons_succ, Act.put, List.setIfInBounds_toArray, List.set_cons_zero, List.set_cons_succ]
              refine late.done (by kernel_rfl) ?_ _
              refine NoPanic.normal ?_
              have ho3 := ho2
              have HO9 := Lib.hid (HO.out.trans (Only.p p ho2))
              have HOZ := Lib.hid ho2
              have f3' := f3
              clear HSL
              go_upto_region 19 with fail
              obtain ⟨w6, hw6⟩ : ∃ zz, zz = z2.setCell ⟨g, 4, none⟩ (.int .i64 (ah - x)) := ⟨_, rfl⟩
              simp only [← hw6]
              have d0 : w6.cell? ⟨g, 0, none⟩ = some (.int .i64 (at_)) := by rw [hw6]; rw [cell_other (off_ne (by omega))]; exact e0
              have d1 : w6.cell? ⟨g, 1, none⟩ = some (.int .i64 (ac)) := by rw [hw6]; rw [cell_other (off_ne (by omega))]; exact e1
              have d2 : w6.cell? ⟨g, 2, none⟩ = some (.int .i64 (ae)) := by rw [hw6]; rw [cell_other (off_ne (by omega))]; exact e2
              have d3 : w6.cell? ⟨g, 3, none⟩ = some (.int .i64 (au)) := by rw [hw6]; rw [cell_other (off_ne (by omega))]; exact e3
              have d4 : w6.cell? ⟨g, 4, none⟩ = some (.int .i64 (ah - x)) := by rw [hw6]; exact cell_same e4
              have ho6 : Only (fun _ => False) wr w6 := ho2.then (by rw [hw6]; exact Only.set (fun q => q = g) z2 g 4 _ rfl) (fun i hi e => by omega)
              have cx6 := ho6.cell' cx (fun f => f)
              have HO6 := Lib.hid ho6
              clear hw6 e0 e1 e2 e3 e4 f3 f4 f3' ho2 ho3 ho6 cx HO9 HOZ
              refine wp_region_noPanic ?_
              refine late.region (fun w' => ∀ q, w'.cell? q = w6.cell? q) (fun j => [9].contains j) (by kernel_rfl) (fun q => by simp) (fun hHeld => ?_)
              obtain ⟨z0, hz0⟩ : ∃ x, x = w6.drew := ⟨_, rfl⟩
              rw [← hz0] at hHeld ⊢
              have hou : Only (fun _ => False) w6 z0 := by rw [hz0]; exact (Only.refl _ _).drew
              have ho7 := HO6.out.trans hou
              have hrm := ((HBJ.out.only ho7 (fun f => f)).room k k2)
              obtain ⟨⟨u0, y0⟩, ⟨u1, y1⟩, ⟨u2, y2⟩, ⟨u3, y3⟩, ⟨u4, y4⟩, f0, f1, f2, f3, f4⟩ := hrm
              have HS9 := Lib.hid (HPUT.out _ (HBJ.out.only ho7 (fun f => f)))
              have HO9 := Lib.hid ((Only.p p ho7).trans (put5_only z0 p (k * 5) (.int .i64 at_) (.int .i64 ac) (.int .i64 ae) (.int .i64 (au)) (.int .i64 (ah - x))))
              unfold put5 at HS9 HO9
              clear ho7
              clear hou hz0
              refine sho.lt 0 [6, 7, 8, 9] ?_
              refine sho.lt 1 [3, 4, 8, 9] ?_
              refine sho.lt 2 [3, 4, 8, 9] ?_
              refine sho.lt 3 [4, 8, 9] ?_
              refine sho.lt 4 [8, 9] ?_
              refine sho.lt 5 [8, 9] ?_
              refine sho.lt 6 [7, 8, 9] ?_
              refine sho.lt 7 [8, 9] ?_
              refine sho.lt 8 [9] ?_
              refine late.ready (rs := [9]) (by kernel_rfl) (by simp) ?_
              refine late.Each.cons rfl (fun K hK => ?_) late.Each.nil
              clear hHeld
              try simp only [List.getElem_toArray, List.getElem_cons_zero, List.getElem_cons_succ]
              go_simp
              refine hK.out _ _ (fun h => by cases h) (fun _ => ?_)
              clear hK K
              try simp only [List.getElem_toArray, List.getElem_cons_zero, List.getElem_cons_succ, Act.put, List.setIfInBounds_toArray, List.set_cons_zero, List.set_cons_succ]
              refine late.done (by kernel_rfl) ?_ _
              refine NoPanic.normal ?_
              go_wp2_with fail
              go_roundw
              case rel => exact ⟨i + 1, by omega, by go_num, HS9, Lib.hid (HO.out.trans HO9.out)⟩
              case measure => simp [intOf]; omega
            · obtain rfl : i = n := by omega
              have HEN : Hid (BkJ T wr p A' ∧ Only (fun q => q = p) w wr) := Lib.hid ⟨by rw [HFA.out.2, ← HFN.out]; exact HBJ.out, (Only.p p HO2.out).trans HO.out⟩
              go_wp2_with fail
              go_ret
              exact ⟨by rw [HFA.out.1]; rfl, HEN.out⟩
    · rw [HDP.out] at HIS
      have hE : shE A l x (-x) (0) = 1 := by unfold shE; rw [if_neg (fun q => hx q.2)]
      have hT : shA A l x (-x) (0) = A := by unfold shA; rw [hE]; rfl
      rw [hE, hT]
      clear hE hT
      clear hp HDP
      by_cases x1 : 1 ≤ x
      · have x2 : ¬ x ≤ 9007199254740992 := fun q => hx ⟨x1, q⟩
        clear hx
        go_enter Tryz.func84, Tryz.ntmps84
        go_wp2_with fail
        refine (HIS.out).mono ?_
        rintro _ w1 ⟨rfl, ho⟩
        have HO := Lib.hid ho
        clear ho
        go_wp2_with fail
        go_ret
        exact ⟨rfl, HB.out.only HO.out (fun f => f), Only.p p HO.out⟩
      · clear hx
        go_enter Tryz.func84, Tryz.ntmps84
        go_wp2_with fail
        refine (HIS.out).mono ?_
        rintro _ w1 ⟨rfl, ho⟩
        have HO := Lib.hid ho
        clear ho
        go_wp2_with fail
        go_ret
        exact ⟨rfl, HB.out.only HO.out (fun f => f), Only.p p HO.out⟩
  · have HDP : Hid (decide (PathOk l) = false) := Lib.hid (decide_eq_false hp)
    rw [HDP.out] at HIS
    have hE : shE A l x (-x) (0) = 1 := by unfold shE; rw [if_neg (fun q => hp q.1)]
    have hT : shA A l x (-x) (0) = A := by unfold shA; rw [hE]; rfl
    rw [hE, hT]
    clear hE hT
    clear hp HDP
    go_enter Tryz.func84, Tryz.ntmps84
    go_wp2_with fail
    refine (HIS.out).mono ?_
    rintro _ w1 ⟨rfl, ho⟩
    have HO := Lib.hid ho
    clear ho
    go_wp2_with fail
    go_ret
    exact ⟨rfl, HB.out.only HO.out (fun f => f), Only.p p HO.out⟩
set_option maxRecDepth 100000 in
set_option maxHeartbeats 4000000 in
theorem rmove1_any (T : Tl) (p : Nat) (A : List Ac) (a : Option Addr) (n c : Nat) (l : List Int) (x : Int) (w : World) (h : BkJ T w p A) (hA : Bok A) (hr : ReadsI w a n l) (hc : n ≤ c) (hpa : ∀ y, a = some y → y.block ≠ p) : Calls Tryz.prog 84 #[.pointer (some ⟨p, 0, none⟩), .int .i64 1, .slice a n c, .int .i64 x] w (JDid T p (shA A l x (-x) (x)) (shE A l x (-x) (x)) w) := by
  have HB := Lib.hid h
  have HA := Lib.hid hA
  have HR := Lib.hid hr
  have HPA := Lib.hid hpa
  have HIS := Lib.hid (rpath_any a n c l w hr hc)
  have hm := hr.2.1
  unfold maxLen at hm
  have HLN := Lib.hid hr.1
  clear h hA hr hpa
  by_cases hp : PathOk l
  · have HDP : Hid (decide (PathOk l) = true) := Lib.hid (decide_eq_true hp)
    by_cases hx : AmtOk x
    · have HE0 : Hid (shE A l x (-x) (x) = if badB A (-x) (x) l = true then 20 else 0) := Lib.hid (by unfold shE; rw [if_pos ⟨hp, hx⟩])
      have HT0 : Hid (shA A l x (-x) (x) = if shE A l x (-x) (x) = 0 then shT A l (-x) (x) else A) := Lib.hid rfl
      have HPK : Hid (∀ i, i < n → ∃ k : Nat, l.getD i 0 = k ∧ 1 ≤ k ∧ k < 33) := Lib.hid (fun i hi => by obtain ⟨k, q1, q2, q3, _⟩ := path_toNat hp i (by rw [HLN.out]; exact hi); exact ⟨k, q1, q2, q3⟩)
      have HSA : Hid (∀ i, i < n → nd (shT A (l.take i) (-x) (x)) (l.getD i 0) = nd A (l.getD i 0)) := Lib.hid (fun i hi => shT_at hp i (by rw [HLN.out]; exact hi) (-x) (x))
      have HSS : Hid (∀ i, i < n → shT A (l.take (i + 1)) (-x) (x) = (shT A (l.take i) (-x) (x)).set (l.getD i 0).toNat (shB (nd (shT A (l.take i) (-x) (x)) (l.getD i 0)) (-x) (x))) := Lib.hid (fun i hi => shT_take A l (-x) (x) i (by rw [HLN.out]; exact hi))
      have HDR : Hid (∀ i, i < n → badB A (-x) (x) (l.drop i) = ((decide ((nd A (l.getD i 0)).h + (-x) < 0) || decide ((nd A (l.getD i 0)).u + (x) < 0)) || badB A (-x) (x) (l.drop (i + 1)))) := Lib.hid (fun i hi => by rw [drop_at l i (by rw [HLN.out]; exact hi)]; rfl)
      have HND : Hid (∀ i, Parts (nd A i)) := Lib.hid (fun i => (HA.out.ok _).1)
      have HSL0 : Hid (∀ i, (shT A (l.take i) (-x) (x)).length = 33) := Lib.hid (fun i => (shT_len _ _ _ _).trans HA.out.len)
      have HF0 : Hid (shT A (l.take 0) (-x) (x) = A) := Lib.hid rfl
      have HFN : Hid (shT A (l.take n) (-x) (x) = shT A l (-x) (x)) := Lib.hid (by rw [List.take_of_length_le (by rw [HLN.out]; exact Nat.le_refl _)])
      have HBN : Hid (badB A (-x) (x) (l.drop n) = false) := Lib.hid (by rw [List.drop_eq_nil_of_le (by rw [HLN.out]; exact Nat.le_refl _)]; rfl)
      rw [HDP.out] at HIS
      obtain ⟨x1, x2⟩ := hx
      clear hp HDP
      generalize shE A l x (-x) (x) = E at *
      generalize shA A l x (-x) (x) = A' at *
      go_enter Tryz.func84, Tryz.ntmps84
      go_wp2_with fail
      refine (HIS.out).mono ?_
      rintro _ w1 ⟨rfl, ho⟩
      have HO1 := Lib.hid ho
      have HR1 := Lib.hid (HR.out.only ho (fun _ _ f => f))
      have HB1 := Lib.hid (HB.out.only ho (fun f => f))
      clear ho
      go_wp2_with fail
      go_loopw [9] (fun iv wr => ∃ i : Nat, i ≤ n ∧ iv = .int .i64 (i : Int) ∧ Hid (badB A (-x) (x) l = badB A (-x) (x) (l.drop i)) ∧ Hid (Only (fun _ => False) w1 wr)) (fun iv _ => n - (intOf iv).toNat)
      case atStart => exact ⟨0, by omega, rfl, Lib.hid rfl, Lib.hid (Only.refl _ _)⟩
      case round =>
        obtain ⟨i, hi, rfl, HD, HO⟩ := hrel
        rename World => wr
        by_cases h8 : i < n
        · obtain ⟨b, off, rfl, hcell⟩ := HR1.out.2.2.2.resolve_left (by omega)
          have cx := HO.out.cell' (hcell i h8) (fun f => f)
          have hi0 : (0 : Int) ≤ i := by omega
          have hi1 : (i : Int) < n := by omega
          obtain ⟨k, hk, k1, k2⟩ := HPK.out i h8
          rw [hk] at cx
          have hk2 : (k : Int) < 33 := by omega
          have hk0 : (0 : Int) ≤ k := by omega
          have hdd := HDR.out i h8
          have hpt := HND.out (l.getD i 0)
          rw [hk, nd_nat] at hdd hpt
          obtain ⟨c0, c1, c2, c3, c4⟩ := (HB1.out.only HO.out (fun f => f)).1 k k2
          generalize A.getD k zA = ac at *
          obtain ⟨at_, ac, ae, au, ah⟩ := ac
          dsimp only at c0 c1 c2 c3 c4 hdd
          obtain ⟨-, -, -, ⟨u1, u2⟩, ⟨g1, g2⟩⟩ := hpt
          dsimp only at u1 u2 g1 g2
          have HDD := Lib.hid (HD.out.trans hdd)
          have HUG : Hid (0 ≤ au ∧ 0 ≤ ah) := Lib.hid ⟨u1, g1⟩
          have HSL : Hid (∀ w', Only (fun _ => False) wr w' → w'.cell? ⟨b, off + i, none⟩ = some (.int .i64 (k : Int)) ∧ w'.cell? ⟨p, k * 5, none⟩ = some (.int .i64 at_) ∧ w'.cell? ⟨p, k * 5 + 1, none⟩ = some (.int .i64 ac) ∧ w'.cell? ⟨p, k * 5 + 2, none⟩ = some (.int .i64 ae) ∧ w'.cell? ⟨p, k * 5 + 3, none⟩ = some (.int .i64 au) ∧ w'.cell? ⟨p, k * 5 + 4, none⟩ = some (.int .i64 ah)) := Lib.hid (fun w' ho => ⟨ho.cell' cx (fun f => f), ho.cell' c0 (fun f => f), ho.cell' c1 (fun f => f), ho.cell' c2 (fun f => f), ho.cell' c3 (fun f => f), ho.cell' c4 (fun f => f)⟩)
          clear hcell hdd hk u1 u2 g1 g2
          go_upto_region 6 with fail
          refine wp_region_noPanic ?_
          refine late.region (fun w' => w'.cell? ⟨b, off + i, none⟩ = some (.int .i64 (k : Int)) ∧ w'.cell? ⟨p, k * 5, none⟩ = some (.int .i64 at_) ∧ w'.cell? ⟨p, k * 5 + 1, none⟩ = some (.int .i64 ac) ∧ w'.cell? ⟨p, k * 5 + 2, none⟩ = some (.int .i64 ae) ∧ w'.cell? ⟨p, k * 5 + 3, none⟩ = some (.int .i64 au) ∧ w'.cell? ⟨p, k * 5 + 4, none⟩ = some (.int .i64 ah)) (fun j => [].contains j) (by kernel_rfl) (HSL.out _ (Only.refl _ _).drew) (fun hHeld => ?_)
          obtain ⟨z0, hz0⟩ : ∃ x, x = wr.drew := ⟨_, rfl⟩
          rw [← hz0] at hHeld ⊢
          have hou : Only (fun _ => False) wr z0 := by rw [hz0]; exact (Only.refl _ _).drew
          clear hz0
          refine sho.lt 0 [5, 6, 7, 8, 10] ?_
          refine sho.lt 1 [3, 4, 7, 8, 10] ?_
          refine sho.lt 2 [3, 4, 7, 8, 10] ?_
          refine sho.lt 3 [4, 7, 8, 10] ?_
          refine sho.lt 4 [7, 8, 10] ?_
          refine sho.lt 5 [6, 7, 8, 10] ?_
          refine sho.lt 6 [7, 8, 10] ?_
          refine sho.lt 7 [8, 10] ?_
          refine sho.lt 8 [10] ?_
          refine late.ready (rs := [9]) (by kernel_rfl) (by simp) ?_
          refine late.Each.cons rfl (fun K hK => ?_) late.Each.nil
          try simp only [List.getElem_toArray, List.getElem_cons_zero, List.getElem_cons_succ]
          go_simp
          obtain ⟨z1, hz1⟩ : ∃ x, x = z0.alloc (.cells #[.int .i64 0, .int .i64 0, .int .i64 0, .int .i64 0, .int .i64 0] 41) := ⟨_, rfl⟩
          obtain ⟨g, hg⟩ : ∃ x, x = z0.heap.size := ⟨_, rfl⟩
          rw [← hz1, ← hg]
          have ho1 : Only (fun _ => False) wr z1 := by rw [hz1]; exact hou.alloc _
          have hgs : wr.heap.size ≤ g := by rw [hg]; exact hou.size
          have hfive : Five z1 g := by rw [hz1]; exact Five.new hg
          have HFV := Lib.hid hfive
          obtain ⟨⟨y0, hy0'⟩, ⟨y1, hy1'⟩, ⟨y2, hy2'⟩, ⟨y3, hy3'⟩, ⟨y4, hy4'⟩, f0, f1, f2, f3, f4⟩ := hfive
          clear hz1 hg hou
          refine hK.out _ _ (fun _ => HSL.out _ ho1) (fun hHeld1 => ?_)
          replace hHeld1 := hHeld1 rfl
          clear hK K
          try simp only [List.getElem_toArray, List.getElem_cons_zero, List.getElem_cons_succ, Act.put, List.setIfInBounds_toArray, List.set_cons_zero, List.set_cons_succ]
          refine late.ready (rs := [10]) (by kernel_rfl) (by simp) ?_
          refine late.Each.cons rfl (fun K hK => ?_) late.Each.nil
          try simp only [List.getElem_toArray, List.getElem_cons_zero, List.getElem_cons_succ]
          go_simp
          obtain ⟨z2, hz2⟩ : ∃ x, x = put50 z1 g (.int .i64 at_) (.int .i64 ac) (.int .i64 ae) (.int .i64 au) (.int .i64 ah) := ⟨_, rfl⟩
          have HZ2 := Lib.hid hz2
          unfold put50 at hz2
          rw [← hz2]
          have ho2 : Only (fun _ => False) wr z2 := ho1.then (by rw [HZ2.out, put50_eq]; exact put5_only _ _ _ _ _ _ _ _) (fun i hi e => by omega)
          have hbx : (z2.cell? ⟨g, 0, none⟩ = some (.int .i64 at_) ∧ z2.cell? ⟨g, 1, none⟩ = some (.int .i64 ac) ∧ z2.cell? ⟨g, 2, none⟩ = some (.int .i64 ae) ∧ z2.cell? ⟨g, 3, none⟩ = some (.int .i64 au) ∧ z2.cell? ⟨g, 4, none⟩ = some (.int .i64 ah)) := by rw [HZ2.out]; exact HFV.out.put _ _ _ _ _
          obtain ⟨e0, e1, e2, e3, e4⟩ := hbx
          replace f3 : z2.frozen? ⟨g, 3, none⟩ = false := by rw [HZ2.out, put50_eq, put5_froz]; exact f3
          replace f4 : z2.frozen? ⟨g, 4, none⟩ = false := by rw [HZ2.out, put50_eq, put5_froz]; exact f4
          clear hz2 HZ2 HFV hy0' hy1' hy2' hy3' hy4' f0 f1 f2 ho1
          refine hK.out _ _ (fun _ => HSL.out _ ho2) (fun hHeld2 => ?_)
          replace hHeld2 := hHeld2 rfl
          clear hK K
          try simp only [List.getElem_toArray, List.getElem_cons_zero, List.getElem_cons_succ, Act.put, List.setIfInBounds_toArray, List.set_cons_zero, List.set_cons_succ]
          refine late.done (by kernel_rfl) ?_ _
          refine NoPanic.normal ?_
          have HO9 := Lib.hid (HO.out.trans ho2)
          clear ho2 HSL
          by_cases hb1 : ah < x
          · have HFA : Hid (E = 20 ∧ A' = A) := Lib.hid (by
              have hbt : badB A (-x) (x) l = true := by
                rw [HDD.out]
                have : ah + (-x) < 0 := by omega
                simp [this]
              have e : E = 20 := by rw [HE0.out, if_pos hbt]
              exact ⟨e, by rw [HT0.out, e]; rfl⟩)
            go_wp2_with fail
            go_ret
            exact ⟨by rw [HFA.out.1]; rfl, by rw [HFA.out.2]; exact HB1.out.only HO9.out (fun f => f), Only.p p (HO1.out.trans HO9.out)⟩
          · have HD2 : Hid (badB A (-x) (x) l = badB A (-x) (x) (l.drop (i + 1))) := Lib.hid (by
              rw [HDD.out]
              have h1 : ¬ (ah + (-x) < 0) := by have := HUG.out; omega
              have h2 : ¬ (au + (x) < 0) := by have := HUG.out; omega
              simp only [h1, h2]
              simp)
            go_wp2_with fail
            go_roundw
            case rel => exact ⟨i + 1, by omega, by go_num, HD2, HO9⟩
            case measure => simp [intOf]; omega
        · have hin : i = n := by omega
          subst hin
          obtain ⟨n, hnn⟩ : ∃ n, n = i := ⟨i, rfl⟩
          subst hnn
          have HFA : Hid (E = 0 ∧ A' = shT A l (-x) (x)) := Lib.hid (by
            have e : E = 0 := by rw [HE0.out, HD.out, HBN.out]; rfl
            exact ⟨e, by rw [HT0.out, if_pos e]⟩)
          have HB2 := Lib.hid (HB1.out.only HO.out (fun f => f))
          have HR2 := Lib.hid (HR1.out.only HO.out (fun _ _ f => f))
          have HO2 := Lib.hid (HO1.out.trans HO.out)
          rename World => w2
          clear HDR HD HB1 HR1 HO1 HO HBN
          go_wp2_with fail
          go_loopw [11] (fun iv wr => ∃ i : Nat, i ≤ n ∧ iv = .int .i64 (i : Int) ∧ Hid (BkJ T wr p (shT A (l.take i) (-x) (x))) ∧ Hid (Only (fun q => q = p) w2 wr)) (fun iv _ => n - (intOf iv).toNat)
          case atStart => exact ⟨0, by omega, rfl, Lib.hid (by rw [HF0.out]; exact HB2.out), Lib.hid (Only.refl _ _)⟩
          case round =>
            obtain ⟨i, hi, rfl, HBJ, HO⟩ := hrel
            rename World => wr
            by_cases h8 : i < n
            · obtain ⟨b, off, rfl, hcell⟩ := HR2.out.2.2.2.resolve_left (by omega)
              have hbp : ¬ b = p := HPA.out ⟨b, off, none⟩ rfl
              have cx := HO.out.cell' (hcell i h8) hbp
              have hi0 : (0 : Int) ≤ i := by omega
              have hi1 : (i : Int) < n := by omega
              obtain ⟨k, hk, k1, k2⟩ := HPK.out i h8
              rw [hk] at cx
              have hk2 : (k : Int) < 33 := by omega
              have hk0 : (0 : Int) ≤ k := by omega
              have hpt := HND.out (l.getD i 0)
              have hat := HSA.out i h8
              have hss := HSS.out i h8
              have hsl := HSL0.out i
              rw [hat] at hss
              rw [hk, nd_nat] at hpt
              rw [hk, nd_nat, nd_nat] at hat
              rw [hk, nd_nat, Int.toNat_natCast] at hss
              have HSS2 := Lib.hid hss
              have hbj := HBJ.out
              generalize shT A (l.take i) (-x) (x) = AJ at *
              obtain ⟨c0, c1, c2, c3, c4⟩ := hbj.1 k k2
              rw [hat] at c0 c1 c2 c3 c4
              generalize A.getD k zA = ac at *
              obtain ⟨at_, ac, ae, au, ah⟩ := ac
              dsimp only at c0 c1 c2 c3 c4
              obtain ⟨-, -, -, ⟨u1, u2⟩, ⟨g1, g2⟩⟩ := hpt
              dsimp only at u1 u2 g1 g2
              have q1 : IntKind.i64.wrap (ah - x) = ah - x := w64 _ (by omega) (by omega)
              have q2 : IntKind.i64.wrap (au + x) = au + x := w64 _ (by omega) (by omega)
              have q3 : IntKind.i64.wrap (au - x) = au - x := w64 _ (by omega) (by omega)
              have HAT := Lib.hid hat
              have HSLJ := Lib.hid hsl
              have HPUT : Hid (∀ wy, BkJ T wy p AJ → BkJ T (put5 wy p (k * 5) (.int .i64 at_) (.int .i64 ac) (.int .i64 ae) (.int .i64 (au + x)) (.int .i64 (ah - x))) p (shT A (l.take (i + 1)) (-x) (x))) := Lib.hid (fun wy hy => by
                have := hy.put HSLJ.out k ⟨at_, ac, ae, au + x, ah - x⟩ k2
                rw [HSS2.out]
                have e : shB ⟨at_, ac, ae, au, ah⟩ (-x) (x) = ⟨at_, ac, ae, au + x, ah - x⟩ := by simp only [shB, Ac.mk.injEq, true_and]; omega
                rw [e]
                exact this)
              have HSL : Hid (∀ w', Only (fun _ => False) wr w' → w'.cell? ⟨b, off + i, none⟩ = some (.int .i64 (k : Int)) ∧ w'.cell? ⟨p, k * 5, none⟩ = some (.int .i64 at_) ∧ w'.cell? ⟨p, k * 5 + 1, none⟩ = some (.int .i64 ac) ∧ w'.cell? ⟨p, k * 5 + 2, none⟩ = some (.int .i64 ae) ∧ w'.cell? ⟨p, k * 5 + 3, none⟩ = some (.int .i64 au) ∧ w'.cell? ⟨p, k * 5 + 4, none⟩ = some (.int .i64 ah)) := Lib.hid (fun w' ho => ⟨ho.cell' cx (fun f => f), ho.cell' c0 (fun f => f), ho.cell' c1 (fun f => f), ho.cell' c2 (fun f => f), ho.cell' c3 (fun f => f), ho.cell' c4 (fun f => f)⟩)
              clear hcell hk hat hss hsl hbj u1 u2 g1 g2
              go_upto_region 12 with fail
              refine wp_region_noPanic ?_
              refine late.region (fun w' => w'.cell? ⟨b, off + i, none⟩ = some (.int .i64 (k : Int)) ∧ w'.cell? ⟨p, k * 5, none⟩ = some (.int .i64 at_) ∧ w'.cell? ⟨p, k * 5 + 1, none⟩ = some (.int .i64 ac) ∧ w'.cell? ⟨p, k * 5 + 2, none⟩ = some (.int .i64 ae) ∧ w'.cell? ⟨p, k * 5 + 3, none⟩ = some (.int .i64 au) ∧ w'.cell? ⟨p, k * 5 + 4, none⟩ = some (.int .i64 ah)) (fun j => [].contains j) (by kernel_rfl) (HSL.out _ (Only.refl _ _).drew) (fun hHeld => ?_)
              obtain ⟨z0, hz0⟩ : ∃ x, x = wr.drew := ⟨_, rfl⟩
              rw [← hz0] at hHeld ⊢
              have hou : Only (fun _ => False) wr z0 := by rw [hz0]; exact (Only.refl _ _).drew
              clear hz0
              refine sho.lt 0 [5, 6, 7, 8, 10] ?_
              refine sho.lt 1 [3, 4, 7, 8, 10] ?_
              refine sho.lt 2 [3, 4, 7, 8, 10] ?_
              refine sho.lt 3 [4, 7, 8, 10] ?_
              refine sho.lt 4 [7, 8, 10] ?_
              refine sho.lt 5 [6, 7, 8, 10] ?_
              refine sho.lt 6 [7, 8, 10] ?_
              refine sho.lt 7 [8, 10] ?_
              refine sho.lt 8 [10] ?_
              refine late.ready (rs := [9]) (by kernel_rfl) (by simp) ?_
              refine late.Each.cons rfl (fun K hK => ?_) late.Each.nil
              try simp only [List.getElem_toArray, List.getElem_cons_zero, List.getElem_cons_succ]
              go_simp
              obtain ⟨z1, hz1⟩ : ∃ x, x = z0.alloc (.cells #[.int .i64 0, .int .i64 0, .int .i64 0, .int .i64 0, .int .i64 0] 41) := ⟨_, rfl⟩
              obtain ⟨g, hg⟩ : ∃ x, x = z0.heap.size := ⟨_, rfl⟩
              rw [← hz1, ← hg]
              have ho1 : Only (fun _ => False) wr z1 := by rw [hz1]; exact hou.alloc _
              have hgs : wr.heap.size ≤ g := by rw [hg]; exact hou.size
              have hfive : Five z1 g := by rw [hz1]; exact Five.new hg
              have HFV := Lib.hid hfive
              obtain ⟨⟨y0, hy0'⟩, ⟨y1, hy1'⟩, ⟨y2, hy2'⟩, ⟨y3, hy3'⟩, ⟨y4, hy4'⟩, f0, f1, f2, f3, f4⟩ := hfive
              clear hz1 hg hou
              refine hK.out _ _ (fun _ => HSL.out _ ho1) (fun hHeld1 => ?_)
              replace hHeld1 := hHeld1 rfl
              clear hK K
              try simp only [List.getElem_toArray, List.getElem_cons_zero, List.getElem_cons_succ, Act.put, List.setIfInBounds_toArray, List.set_cons_zero, List.set_cons_succ]
              refine late.ready (rs := [10]) (by kernel_rfl) (by simp) ?_
              refine late.Each.cons rfl (fun K hK => ?_) late.Each.nil
              try simp only [List.getElem_toArray, List.getElem_cons_zero, List.getElem_cons_succ]
              go_simp
              obtain ⟨z2, hz2⟩ : ∃ x, x = put50 z1 g (.int .i64 at_) (.int .i64 ac) (.int .i64 ae) (.int .i64 au) (.int .i64 ah) := ⟨_, rfl⟩
              have HZ2 := Lib.hid hz2
              unfold put50 at hz2
              rw [← hz2]
              have ho2 : Only (fun _ => False) wr z2 := ho1.then (by rw [HZ2.out, put50_eq]; exact put5_only _ _ _ _ _ _ _ _) (fun i hi e => by omega)
              have hbx : (z2.cell? ⟨g, 0, none⟩ = some (.int .i64 at_) ∧ z2.cell? ⟨g, 1, none⟩ = some (.int .i64 ac) ∧ z2.cell? ⟨g, 2, none⟩ = some (.int .i64 ae) ∧ z2.cell? ⟨g, 3, none⟩ = some (.int .i64 au) ∧ z2.cell? ⟨g, 4, none⟩ = some (.int .i64 ah)) := by rw [HZ2.out]; exact HFV.out.put _ _ _ _ _
              obtain ⟨e0, e1, e2, e3, e4⟩ := hbx
              replace f3 : z2.frozen? ⟨g, 3, none⟩ = false := by rw [HZ2.out, put50_eq, put5_froz]; exact f3
              replace f4 : z2.frozen? ⟨g, 4, none⟩ = false := by rw [HZ2.out, put50_eq, put5_froz]; exact f4
              clear hz2 HZ2 HFV hy0' hy1' hy2' hy3' hy4' f0 f1 f2 ho1
              refine hK.out _ _ (fun _ => HSL.out _ ho2) (fun hHeld2 => ?_)
              replace hHeld2 := hHeld2 rfl
              clear hK K
              try simp only [List.getElem_toArray, List.getElem_cons_zero, List.getElem_cons_succ, Act.put, List.setIfInBounds_toArray, List.set_cons_zero, List.set_cons_succ]
              refine late.done (by kernel_rfl) ?_ _
              refine NoPanic.normal ?_
              have ho3 := ho2
              have HO9 := Lib.hid (HO.out.trans (Only.p p ho2))
              have HOZ := Lib.hid ho2
              have f3' := f3
              clear HSL
              go_upto_region 19 with fail
              obtain ⟨w6, hw6⟩ : ∃ zz, zz = (z2.setCell ⟨g, 4, none⟩ (.int .i64 (ah - x))).setCell ⟨g, 3, none⟩ (.int .i64 (au + x)) := ⟨_, rfl⟩
              simp only [← hw6]
              have d0 : w6.cell? ⟨g, 0, none⟩ = some (.int .i64 (at_)) := by rw [hw6]; rw [cell_other (off_ne (by omega)), cell_other (off_ne (by omega))]; exact e0
              have d1 : w6.cell? ⟨g, 1, none⟩ = some (.int .i64 (ac)) := by rw [hw6]; rw [cell_other (off_ne (by omega)), cell_other (off_ne (by omega))]; exact e1
              have d2 : w6.cell? ⟨g, 2, none⟩ = some (.int .i64 (ae)) := by rw [hw6]; rw [cell_other (off_ne (by omega)), cell_other (off_ne (by omega))]; exact e2
              have d3 : w6.cell? ⟨g, 3, none⟩ = some (.int .i64 (au + x)) := by rw [hw6]; exact cell_same (by rw [cell_other (off_ne (by omega))]; exact e3)
              have d4 : w6.cell? ⟨g, 4, none⟩ = some (.int .i64 (ah - x)) := by rw [hw6]; rw [cell_other (off_ne (by omega))]; exact cell_same e4
              have ho6 : Only (fun _ => False) wr w6 := ho2.then (by rw [hw6]; exact (Only.set (fun q => q = g) z2 g 4 _ rfl).trans (Only.set (fun q => q = g) _ g 3 _ rfl)) (fun i hi e => by omega)
              have cx6 := ho6.cell' cx (fun f => f)
              have HO6 := Lib.hid ho6
              clear hw6 e0 e1 e2 e3 e4 f3 f4 f3' ho2 ho3 ho6 cx HO9 HOZ
              refine wp_region_noPanic ?_
              refine late.region (fun w' => ∀ q, w'.cell? q = w6.cell? q) (fun j => [9].contains j) (by kernel_rfl) (fun q => by simp) (fun hHeld => ?_)
              obtain ⟨z0, hz0⟩ : ∃ x, x = w6.drew := ⟨_, rfl⟩
              rw [← hz0] at hHeld ⊢
              have hou : Only (fun _ => False) w6 z0 := by rw [hz0]; exact (Only.refl _ _).drew
              have ho7 := HO6.out.trans hou
              have hrm := ((HBJ.out.only ho7 (fun f => f)).room k k2)
              obtain ⟨⟨u0, y0⟩, ⟨u1, y1⟩, ⟨u2, y2⟩, ⟨u3, y3⟩, ⟨u4, y4⟩, f0, f1, f2, f3, f4⟩ := hrm
              have HS9 := Lib.hid (HPUT.out _ (HBJ.out.only ho7 (fun f => f)))
              have HO9 := Lib.hid ((Only.p p ho7).trans (put5_only z0 p (k * 5) (.int .i64 at_) (.int .i64 ac) (.int .i64 ae) (.int .i64 (au + x)) (.int .i64 (ah - x))))
              unfold put5 at HS9 HO9
              clear ho7
              clear hou hz0
              refine sho.lt 0 [6, 7, 8, 9] ?_
              refine sho.lt 1 [3, 4, 8, 9] ?_
              refine sho.lt 2 [3, 4, 8, 9] ?_
              refine sho.lt 3 [4, 8, 9] ?_
              refine sho.lt 4 [8, 9] ?_
              refine sho.lt 5 [8, 9] ?_
              refine sho.lt 6 [7, 8, 9] ?_
              refine sho.lt 7 [8, 9] ?_
              refine sho.lt 8 [9] ?_
              refine late.ready (rs := [9]) (by kernel_rfl) (by simp) ?_
              refine late.Each.cons rfl (fun K hK => ?_) late.Each.nil
              clear hHeld
              try simp only [List.getElem_toArray, List.getElem_cons_zero, List.getElem_cons_succ]
              go_simp
              refine hK.out _ _ (fun h => by cases h) (fun _ => ?_)
              clear hK K
              try simp only [List.getElem_toArray, List.getElem_cons_zero, List.getElem_cons_succ, Act.put, List.setIfInBounds_toArray, List.set_cons_zero, List.set_cons_succ]
              refine late.done (by kernel_rfl) ?_ _
              refine NoPanic.normal ?_
              go_wp2_with fail
              go_roundw
              case rel => exact ⟨i + 1, by omega, by go_num, HS9, Lib.hid (HO.out.trans HO9.out)⟩
              case measure => simp [intOf]; omega
            · obtain rfl : i = n := by omega
              have HEN : Hid (BkJ T wr p A' ∧ Only (fun q => q = p) w wr) := Lib.hid ⟨by rw [HFA.out.2, ← HFN.out]; exact HBJ.out, (Only.p p HO2.out).trans HO.out⟩
              go_wp2_with fail
              go_ret
              exact ⟨by rw [HFA.out.1]; rfl, HEN.out⟩
    · rw [HDP.out] at HIS
      have hE : shE A l x (-x) (x) = 1 := by unfold shE; rw [if_neg (fun q => hx q.2)]
      have hT : shA A l x (-x) (x) = A := by unfold shA; rw [hE]; rfl
      rw [hE, hT]
      clear hE hT
      clear hp HDP
      by_cases x1 : 1 ≤ x
      · have x2 : ¬ x ≤ 9007199254740992 := fun q => hx ⟨x1, q⟩
        clear hx
        go_enter Tryz.func84, Tryz.ntmps84
        go_wp2_with fail
        refine (HIS.out).mono ?_
        rintro _ w1 ⟨rfl, ho⟩
        have HO := Lib.hid ho
        clear ho
        go_wp2_with fail
        go_ret
        exact ⟨rfl, HB.out.only HO.out (fun f => f), Only.p p HO.out⟩
      · clear hx
        go_enter Tryz.func84, Tryz.ntmps84
        go_wp2_with fail
        refine (HIS.out).mono ?_
        rintro _ w1 ⟨rfl, ho⟩
        have HO := Lib.hid ho
        clear ho
        go_wp2_with fail
        go_ret
        exact ⟨rfl, HB.out.only HO.out (fun f => f), Only.p p HO.out⟩
  · have HDP : Hid (decide (PathOk l) = false) := Lib.hid (decide_eq_false hp)
    rw [HDP.out] at HIS
    have hE : shE A l x (-x) (x) = 1 := by unfold shE; rw [if_neg (fun q => hp q.1)]
    have hT : shA A l x (-x) (x) = A := by unfold shA; rw [hE]; rfl
    rw [hE, hT]
    clear hE hT
    clear hp HDP
    go_enter Tryz.func84, Tryz.ntmps84
    go_wp2_with fail
    refine (HIS.out).mono ?_
    rintro _ w1 ⟨rfl, ho⟩
    have HO := Lib.hid ho
    clear ho
    go_wp2_with fail
    go_ret
    exact ⟨rfl, HB.out.only HO.out (fun f => f), Only.p p HO.out⟩
set_option maxRecDepth 100000 in
set_option maxHeartbeats 4000000 in
theorem rmove2_any (T : Tl) (p : Nat) (A : List Ac) (a : Option Addr) (n c : Nat) (l : List Int) (x : Int) (w : World) (h : BkJ T w p A) (hA : Bok A) (hr : ReadsI w a n l) (hc : n ≤ c) (hpa : ∀ y, a = some y → y.block ≠ p) : Calls Tryz.prog 84 #[.pointer (some ⟨p, 0, none⟩), .int .i64 2, .slice a n c, .int .i64 x] w (JDid T p (shA A l x (0) (-x)) (shE A l x (0) (-x)) w) := by
  have HB := Lib.hid h
  have HA := Lib.hid hA
  have HR := Lib.hid hr
  have HPA := Lib.hid hpa
  have HIS := Lib.hid (rpath_any a n c l w hr hc)
  have hm := hr.2.1
  unfold maxLen at hm
  have HLN := Lib.hid hr.1
  clear h hA hr hpa
  by_cases hp : PathOk l
  · have HDP : Hid (decide (PathOk l) = true) := Lib.hid (decide_eq_true hp)
    by_cases hx : AmtOk x
    · have HE0 : Hid (shE A l x (0) (-x) = if badB A (0) (-x) l = true then 20 else 0) := Lib.hid (by unfold shE; rw [if_pos ⟨hp, hx⟩])
      have HT0 : Hid (shA A l x (0) (-x) = if shE A l x (0) (-x) = 0 then shT A l (0) (-x) else A) := Lib.hid rfl
      have HPK : Hid (∀ i, i < n → ∃ k : Nat, l.getD i 0 = k ∧ 1 ≤ k ∧ k < 33) := Lib.hid (fun i hi => by obtain ⟨k, q1, q2, q3, _⟩ := path_toNat hp i (by rw [HLN.out]; exact hi); exact ⟨k, q1, q2, q3⟩)
      have HSA : Hid (∀ i, i < n → nd (shT A (l.take i) (0) (-x)) (l.getD i 0) = nd A (l.getD i 0)) := Lib.hid (fun i hi => shT_at hp i (by rw [HLN.out]; exact hi) (0) (-x))
      have HSS : Hid (∀ i, i < n → shT A (l.take (i + 1)) (0) (-x) = (shT A (l.take i) (0) (-x)).set (l.getD i 0).toNat (shB (nd (shT A (l.take i) (0) (-x)) (l.getD i 0)) (0) (-x))) := Lib.hid (fun i hi => shT_take A l (0) (-x) i (by rw [HLN.out]; exact hi))
      have HDR : Hid (∀ i, i < n → badB A (0) (-x) (l.drop i) = ((decide ((nd A (l.getD i 0)).h + (0) < 0) || decide ((nd A (l.getD i 0)).u + (-x) < 0)) || badB A (0) (-x) (l.drop (i + 1)))) := Lib.hid (fun i hi => by rw [drop_at l i (by rw [HLN.out]; exact hi)]; rfl)
      have HND : Hid (∀ i, Parts (nd A i)) := Lib.hid (fun i => (HA.out.ok _).1)
      have HSL0 : Hid (∀ i, (shT A (l.take i) (0) (-x)).length = 33) := Lib.hid (fun i => (shT_len _ _ _ _).trans HA.out.len)
      have HF0 : Hid (shT A (l.take 0) (0) (-x) = A) := Lib.hid rfl
      have HFN : Hid (shT A (l.take n) (0) (-x) = shT A l (0) (-x)) := Lib.hid (by rw [List.take_of_length_le (by rw [HLN.out]; exact Nat.le_refl _)])
      have HBN : Hid (badB A (0) (-x) (l.drop n) = false) := Lib.hid (by rw [List.drop_eq_nil_of_le (by rw [HLN.out]; exact Nat.le_refl _)]; rfl)
      rw [HDP.out] at HIS
      obtain ⟨x1, x2⟩ := hx
      clear hp HDP
      generalize shE A l x (0) (-x) = E at *
      generalize shA A l x (0) (-x) = A' at *
      go_enter Tryz.func84, Tryz.ntmps84
      go_wp2_with fail
      refine (HIS.out).mono ?_
      rintro _ w1 ⟨rfl, ho⟩
      have HO1 := Lib.hid ho
      have HR1 := Lib.hid (HR.out.only ho (fun _ _ f => f))
      have HB1 := Lib.hid (HB.out.only ho (fun f => f))
      clear ho
      go_wp2_with fail
      go_loopw [9] (fun iv wr => ∃ i : Nat, i ≤ n ∧ iv = .int .i64 (i : Int) ∧ Hid (badB A (0) (-x) l = badB A (0) (-x) (l.drop i)) ∧ Hid (Only (fun _ => False) w1 wr)) (fun iv _ => n - (intOf iv).toNat)
      case atStart => exact ⟨0, by omega, rfl, Lib.hid rfl, Lib.hid (Only.refl _ _)⟩
      case round =>
        obtain ⟨i, hi, rfl, HD, HO⟩ := hrel
        rename World => wr
        by_cases h8 : i < n
        · obtain ⟨b, off, rfl, hcell⟩ := HR1.out.2.2.2.resolve_left (by omega)
          have cx := HO.out.cell' (hcell i h8) (fun f => f)
          have hi0 : (0 : Int) ≤ i := by omega
          have hi1 : (i : Int) < n := by omega
          obtain ⟨k, hk, k1, k2⟩ := HPK.out i h8
          rw [hk] at cx
          have hk2 : (k : Int) < 33 := by omega
          have hk0 : (0 : Int) ≤ k := by omega
          have hdd := HDR.out i h8
          have hpt := HND.out (l.getD i 0)
          rw [hk, nd_nat] at hdd hpt
          obtain ⟨c0, c1, c2, c3, c4⟩ := (HB1.out.only HO.out (fun f => f)).1 k k2
          generalize A.getD k zA = ac at *
          obtain ⟨at_, ac, ae, au, ah⟩ := ac
          dsimp only at c0 c1 c2 c3 c4 hdd
          obtain ⟨-, -, -, ⟨u1, u2⟩, ⟨g1, g2⟩⟩ := hpt
          dsimp only at u1 u2 g1 g2
          have HDD := Lib.hid (HD.out.trans hdd)
          have HUG : Hid (0 ≤ au ∧ 0 ≤ ah) := Lib.hid ⟨u1, g1⟩
          have HSL : Hid (∀ w', Only (fun _ => False) wr w' → w'.cell? ⟨b, off + i, none⟩ = some (.int .i64 (k : Int)) ∧ w'.cell? ⟨p, k * 5, none⟩ = some (.int .i64 at_) ∧ w'.cell? ⟨p, k * 5 + 1, none⟩ = some (.int .i64 ac) ∧ w'.cell? ⟨p, k * 5 + 2, none⟩ = some (.int .i64 ae) ∧ w'.cell? ⟨p, k * 5 + 3, none⟩ = some (.int .i64 au) ∧ w'.cell? ⟨p, k * 5 + 4, none⟩ = some (.int .i64 ah)) := Lib.hid (fun w' ho => ⟨ho.cell' cx (fun f => f), ho.cell' c0 (fun f => f), ho.cell' c1 (fun f => f), ho.cell' c2 (fun f => f), ho.cell' c3 (fun f => f), ho.cell' c4 (fun f => f)⟩)
          clear hcell hdd hk u1 u2 g1 g2
          go_upto_region 6 with fail
          refine wp_region_noPanic ?_
          refine late.region (fun w' => w'.cell? ⟨b, off + i, none⟩ = some (.int .i64 (k : Int)) ∧ w'.cell? ⟨p, k * 5, none⟩ = some (.int .i64 at_) ∧ w'.cell? ⟨p, k * 5 + 1, none⟩ = some (.int .i64 ac) ∧ w'.cell? ⟨p, k * 5 + 2, none⟩ = some (.int .i64 ae) ∧ w'.cell? ⟨p, k * 5 + 3, none⟩ = some (.int .i64 au) ∧ w'.cell? ⟨p, k * 5 + 4, none⟩ = some (.int .i64 ah)) (fun j => [].contains j) (by kernel_rfl) (HSL.out _ (Only.refl _ _).drew) (fun hHeld => ?_)
          obtain ⟨z0, hz0⟩ : ∃ x, x = wr.drew := ⟨_, rfl⟩
          rw [← hz0] at hHeld ⊢
          have hou : Only (fun _ => False) wr z0 := by rw [hz0]; exact (Only.refl _ _).drew
          clear hz0
          refine sho.lt 0 [5, 6, 7, 8, 10] ?_
          refine sho.lt 1 [3, 4, 7, 8, 10] ?_
          refine sho.lt 2 [3, 4, 7, 8, 10] ?_
          refine sho.lt 3 [4, 7, 8, 10] ?_
          refine sho.lt 4 [7, 8, 10] ?_
          refine sho.lt 5 [6, 7, 8, 10] ?_
          refine sho.lt 6 [7, 8, 10] ?_
          refine sho.lt 7 [8, 10] ?_
          refine sho.lt 8 [10] ?_
          refine late.ready (rs := [9]) (by kernel_rfl) (by simp) ?_
          refine late.Each.cons rfl (fun K hK => ?_) late.Each.nil
          try simp only [List.getElem_toArray, List.getElem_cons_zero, List.getElem_cons_succ]
          go_simp
          obtain ⟨z1, hz1⟩ : ∃ x, x = z0.alloc (.cells #[.int .i64 0, .int .i64 0, .int .i64 0, .int .i64 0, .int .i64 0] 41) := ⟨_, rfl⟩
          obtain ⟨g, hg⟩ : ∃ x, x = z0.heap.size := ⟨_, rfl⟩
          rw [← hz1, ← hg]
          have ho1 : Only (fun _ => False) wr z1 := by rw [hz1]; exact hou.alloc _
          have hgs : wr.heap.size ≤ g := by rw [hg]; exact hou.size
          have hfive : Five z1 g := by rw [hz1]; exact Five.new hg
          have HFV := Lib.hid hfive
          obtain ⟨⟨y0, hy0'⟩, ⟨y1, hy1'⟩, ⟨y2, hy2'⟩, ⟨y3, hy3'⟩, ⟨y4, hy4'⟩, f0, f1, f2, f3, f4⟩ := hfive
          clear hz1 hg hou
          refine hK.out _ _ (fun _ => HSL.out _ ho1) (fun hHeld1 => ?_)
          replace hHeld1 := hHeld1 rfl
          clear hK K
          try simp only [List.getElem_toArray, List.getElem_cons_zero, List.getElem_cons_succ, Act.put, List.setIfInBounds_toArray, List.set_cons_zero, List.set_cons_succ]
          refine late.ready (rs := [10]) (by kernel_rfl) (by simp) ?_
          refine late.Each.cons rfl (fun K hK => ?_) late.Each.nil
          try simp only [List.getElem_toArray, List.getElem_cons_zero, List.getElem_cons_succ]
          go_simp
          obtain ⟨z2, hz2⟩ : ∃ x, x = put50 z1 g (.int .i64 at_) (.int .i64 ac) (.int .i64 ae) (.int .i64 au) (.int .i64 ah) := ⟨_, rfl⟩
          have HZ2 := Lib.hid hz2
          unfold put50 at hz2
          rw [← hz2]
          have ho2 : Only (fun _ => False) wr z2 := ho1.then (by rw [HZ2.out, put50_eq]; exact put5_only _ _ _ _ _ _ _ _) (fun i hi e => by omega)
          have hbx : (z2.cell? ⟨g, 0, none⟩ = some (.int .i64 at_) ∧ z2.cell? ⟨g, 1, none⟩ = some (.int .i64 ac) ∧ z2.cell? ⟨g, 2, none⟩ = some (.int .i64 ae) ∧ z2.cell? ⟨g, 3, none⟩ = some (.int .i64 au) ∧ z2.cell? ⟨g, 4, none⟩ = some (.int .i64 ah)) := by rw [HZ2.out]; exact HFV.out.put _ _ _ _ _
          obtain ⟨e0, e1, e2, e3, e4⟩ := hbx
          replace f3 : z2.frozen? ⟨g, 3, none⟩ = false := by rw [HZ2.out, put50_eq, put5_froz]; exact f3
          replace f4 : z2.frozen? ⟨g, 4, none⟩ = false := by rw [HZ2.out, put50_eq, put5_froz]; exact f4
          clear hz2 HZ2 HFV hy0' hy1' hy2' hy3' hy4' f0 f1 f2 ho1
          refine hK.out _ _ (fun _ => HSL.out _ ho2) (fun hHeld2 => ?_)
          replace hHeld2 := hHeld2 rfl
          clear hK K
          try simp only [List.getElem_toArray, List.getElem_cons_zero, List.getElem_cons_succ, Act.put, List.setIfInBounds_toArray, List.set_cons_zero, List.set_cons_succ]
          refine late.done (by kernel_rfl) ?_ _
          refine NoPanic.normal ?_
          have HO9 := Lib.hid (HO.out.trans ho2)
          clear ho2 HSL
          by_cases hb1 : au < x
          · have HFA : Hid (E = 20 ∧ A' = A) := Lib.hid (by
              have hbt : badB A (0) (-x) l = true := by
                rw [HDD.out]
                have : au + (-x) < 0 := by omega
                simp [this]
              have e : E = 20 := by rw [HE0.out, if_pos hbt]
              exact ⟨e, by rw [HT0.out, e]; rfl⟩)
            go_wp2_with fail
            go_ret
            exact ⟨by rw [HFA.out.1]; rfl, by rw [HFA.out.2]; exact HB1.out.only HO9.out (fun f => f), Only.p p (HO1.out.trans HO9.out)⟩
          · have HD2 : Hid (badB A (0) (-x) l = badB A (0) (-x) (l.drop (i + 1))) := Lib.hid (by
              rw [HDD.out]
              have h1 : ¬ (ah + (0) < 0) := by have := HUG.out; omega
              have h2 : ¬ (au + (-x) < 0) := by have := HUG.out; omega
              simp only [h1, h2]
              simp)
            go_wp2_with fail
            go_roundw
            case rel => exact ⟨i + 1, by omega, by go_num, HD2, HO9⟩
            case measure => simp [intOf]; omega
        · have hin : i = n := by omega
          subst hin
          obtain ⟨n, hnn⟩ : ∃ n, n = i := ⟨i, rfl⟩
          subst hnn
          have HFA : Hid (E = 0 ∧ A' = shT A l (0) (-x)) := Lib.hid (by
            have e : E = 0 := by rw [HE0.out, HD.out, HBN.out]; rfl
            exact ⟨e, by rw [HT0.out, if_pos e]⟩)
          have HB2 := Lib.hid (HB1.out.only HO.out (fun f => f))
          have HR2 := Lib.hid (HR1.out.only HO.out (fun _ _ f => f))
          have HO2 := Lib.hid (HO1.out.trans HO.out)
          rename World => w2
          clear HDR HD HB1 HR1 HO1 HO HBN
          go_wp2_with fail
          go_loopw [11] (fun iv wr => ∃ i : Nat, i ≤ n ∧ iv = .int .i64 (i : Int) ∧ Hid (BkJ T wr p (shT A (l.take i) (0) (-x))) ∧ Hid (Only (fun q => q = p) w2 wr)) (fun iv _ => n - (intOf iv).toNat)
          case atStart => exact ⟨0, by omega, rfl, Lib.hid (by rw [HF0.out]; exact HB2.out), Lib.hid (Only.refl _ _)⟩
          case round =>
            obtain ⟨i, hi, rfl, HBJ, HO⟩ := hrel
            rename World => wr
            by_cases h8 : i < n
            · obtain ⟨b, off, rfl, hcell⟩ := HR2.out.2.2.2.resolve_left (by omega)
              have hbp : ¬ b = p := HPA.out ⟨b, off, none⟩ rfl
              have cx := HO.out.cell' (hcell i h8) hbp
              have hi0 : (0 : Int) ≤ i := by omega
              have hi1 : (i : Int) < n := by omega
              obtain ⟨k, hk, k1, k2⟩ := HPK.out i h8
              rw [hk] at cx
              have hk2 : (k : Int) < 33 := by omega
              have hk0 : (0 : Int) ≤ k := by omega
              have hpt := HND.out (l.getD i 0)
              have hat := HSA.out i h8
              have hss := HSS.out i h8
              have hsl := HSL0.out i
              rw [hat] at hss
              rw [hk, nd_nat] at hpt
              rw [hk, nd_nat, nd_nat] at hat
              rw [hk, nd_nat, Int.toNat_natCast] at hss
              have HSS2 := Lib.hid hss
              have hbj := HBJ.out
              generalize shT A (l.take i) (0) (-x) = AJ at *
              obtain ⟨c0, c1, c2, c3, c4⟩ := hbj.1 k k2
              rw [hat] at c0 c1 c2 c3 c4
              generalize A.getD k zA = ac at *
              obtain ⟨at_, ac, ae, au, ah⟩ := ac
              dsimp only at c0 c1 c2 c3 c4
              obtain ⟨-, -, -, ⟨u1, u2⟩, ⟨g1, g2⟩⟩ := hpt
              dsimp only at u1 u2 g1 g2
              have q1 : IntKind.i64.wrap (ah - x) = ah - x := w64 _ (by omega) (by omega)
              have q2 : IntKind.i64.wrap (au + x) = au + x := w64 _ (by omega) (by omega)
              have q3 : IntKind.i64.wrap (au - x) = au - x := w64 _ (by omega) (by omega)
              have HAT := Lib.hid hat
              have HSLJ := Lib.hid hsl
              have HPUT : Hid (∀ wy, BkJ T wy p AJ → BkJ T (put5 wy p (k * 5) (.int .i64 at_) (.int .i64 ac) (.int .i64 ae) (.int .i64 (au - x)) (.int .i64 (ah))) p (shT A (l.take (i + 1)) (0) (-x))) := Lib.hid (fun wy hy => by
                have := hy.put HSLJ.out k ⟨at_, ac, ae, au - x, ah⟩ k2
                rw [HSS2.out]
                have e : shB ⟨at_, ac, ae, au, ah⟩ (0) (-x) = ⟨at_, ac, ae, au - x, ah⟩ := by simp only [shB, Ac.mk.injEq, true_and]; omega
                rw [e]
                exact this)
              have HSL : Hid (∀ w', Only (fun _ => False) wr w' → w'.cell? ⟨b, off + i, none⟩ = some (.int .i64 (k : Int)) ∧ w'.cell? ⟨p, k * 5, none⟩ = some (.int .i64 at_) ∧ w'.cell? ⟨p, k * 5 + 1, none⟩ = some (.int .i64 ac) ∧ w'.cell? ⟨p, k * 5 + 2, none⟩ = some (.int .i64 ae) ∧ w'.cell? ⟨p, k * 5 + 3, none⟩ = some (.int .i64 au) ∧ w'.cell? ⟨p, k * 5 + 4, none⟩ = some (.int .i64 ah)) := Lib.hid (fun w' ho => ⟨ho.cell' cx (fun f => f), ho.cell' c0 (fun f => f), ho.cell' c1 (fun f => f), ho.cell' c2 (fun f => f), ho.cell' c3 (fun f => f), ho.cell' c4 (fun f => f)⟩)
              clear hcell hk hat hss hsl hbj u1 u2 g1 g2
              go_upto_region 12 with fail
              refine wp_region_noPanic ?_
              refine late.region (fun w' => w'.cell? ⟨b, off + i, none⟩ = some (.int .i64 (k : Int)) ∧ w'.cell? ⟨p, k * 5, none⟩ = some (.int .i64 at_) ∧ w'.cell? ⟨p, k * 5 + 1, none⟩ = some (.int .i64 ac) ∧ w'.cell? ⟨p, k * 5 + 2, none⟩ = some (.int .i64 ae) ∧ w'.cell? ⟨p, k * 5 + 3, none⟩ = some (.int .i64 au) ∧ w'.cell? ⟨p, k * 5 + 4, none⟩ = some (.int .i64 ah)) (fun j => [].contains j) (by kernel_rfl) (HSL.out _ (Only.refl _ _).drew) (fun hHeld => ?_)
              obtain ⟨z0, hz0⟩ : ∃ x, x = wr.drew := ⟨_, rfl⟩
              rw [← hz0] at hHeld ⊢
              have hou : Only (fun _ => False) wr z0 := by rw [hz0]; exact (Only.refl _ _).drew
              clear hz0
              refine sho.lt 0 [5, 6, 7, 8, 10] ?_
              refine sho.lt 1 [3, 4, 7, 8, 10] ?_
              refine sho.lt 2 [3, 4, 7, 8, 10] ?_
              refine sho.lt 3 [4, 7, 8, 10] ?_
              refine sho.lt 4 [7, 8, 10] ?_
              refine sho.lt 5 [6, 7, 8, 10] ?_
              refine sho.lt 6 [7, 8, 10] ?_
              refine sho.lt 7 [8, 10] ?_
              refine sho.lt 8 [10] ?_
              refine late.ready (rs := [9]) (by kernel_rfl) (by simp) ?_
              refine late.Each.cons rfl (fun K hK => ?_) late.Each.nil
              try simp only [List.getElem_toArray, List.getElem_cons_zero, List.getElem_cons_succ]
              go_simp
              obtain ⟨z1, hz1⟩ : ∃ x, x = z0.alloc (.cells #[.int .i64 0, .int .i64 0, .int .i64 0, .int .i64 0, .int .i64 0] 41) := ⟨_, rfl⟩
              obtain ⟨g, hg⟩ : ∃ x, x = z0.heap.size := ⟨_, rfl⟩
              rw [← hz1, ← hg]
              have ho1 : Only (fun _ => False) wr z1 := by rw [hz1]; exact hou.alloc _
              have hgs : wr.heap.size ≤ g := by rw [hg]; exact hou.size
              have hfive : Five z1 g := by rw [hz1]; exact Five.new hg
              have HFV := Lib.hid hfive
              obtain ⟨⟨y0, hy0'⟩, ⟨y1, hy1'⟩, ⟨y2, hy2'⟩, ⟨y3, hy3'⟩, ⟨y4, hy4'⟩, f0, f1, f2, f3, f4⟩ := hfive
              clear hz1 hg hou
              refine hK.out _ _ (fun _ => HSL.out _ ho1) (fun hHeld1 => ?_)
              replace hHeld1 := hHeld1 rfl
              clear hK K
              try simp only [List.getElem_toArray, List.getElem_cons_zero, List.getElem_cons_succ, Act.put, List.setIfInBounds_toArray, List.set_cons_zero, List.set_cons_succ]
              refine late.ready (rs := [10]) (by kernel_rfl) (by simp) ?_
              refine late.Each.cons rfl (fun K hK => ?_) late.Each.nil
              try simp only [List.getElem_toArray, List.getElem_cons_zero, List.getElem_cons_succ]
              go_simp
              obtain ⟨z2, hz2⟩ : ∃ x, x = put50 z1 g (.int .i64 at_) (.int .i64 ac) (.int .i64 ae) (.int .i64 au) (.int .i64 ah) := ⟨_, rfl⟩
              have HZ2 := Lib.hid hz2
              unfold put50 at hz2
              rw [← hz2]
              have ho2 : Only (fun _ => False) wr z2 := ho1.then (by rw [HZ2.out, put50_eq]; exact put5_only _ _ _ _ _ _ _ _) (fun i hi e => by omega)
              have hbx : (z2.cell? ⟨g, 0, none⟩ = some (.int .i64 at_) ∧ z2.cell? ⟨g, 1, none⟩ = some (.int .i64 ac) ∧ z2.cell? ⟨g, 2, none⟩ = some (.int .i64 ae) ∧ z2.cell? ⟨g, 3, none⟩ = some (.int .i64 au) ∧ z2.cell? ⟨g, 4, none⟩ = some (.int .i64 ah)) := by rw [HZ2.out]; exact HFV.out.put _ _ _ _ _
              obtain ⟨e0, e1, e2, e3, e4⟩ := hbx
              replace f3 : z2.frozen? ⟨g, 3, none⟩ = false := by rw [HZ2.out, put50_eq, put5_froz]; exact f3
              replace f4 : z2.frozen? ⟨g, 4, none⟩ = false := by rw [HZ2.out, put50_eq, put5_froz]; exact f4
              clear hz2 HZ2 HFV hy0' hy1' hy2' hy3' hy4' f0 f1 f2 ho1
              refine hK.out _ _ (fun _ => HSL.out _ ho2) (fun hHeld2 => ?_)
              replace hHeld2 := hHeld2 rfl
              clear hK K
              try simp only [List.getElem_toArray, List.getElem_cons_zero, List.getElem_cons_succ, Act.put, List.setIfInBounds_toArray, List.set_cons_zero, List.set_cons_succ]
              refine late.done (by kernel_rfl) ?_ _
              refine NoPanic.normal ?_
              have ho3 := ho2
              have HO9 := Lib.hid (HO.out.trans (Only.p p ho2))
              have HOZ := Lib.hid ho2
              have f3' := f3
              clear HSL
              go_upto_region 19 with fail
              obtain ⟨w6, hw6⟩ : ∃ zz, zz = z2.setCell ⟨g, 3, none⟩ (.int .i64 (au - x)) := ⟨_, rfl⟩
              simp only [← hw6]
              have d0 : w6.cell? ⟨g, 0, none⟩ = some (.int .i64 (at_)) := by rw [hw6]; rw [cell_other (off_ne (by omega))]; exact e0
              have d1 : w6.cell? ⟨g, 1, none⟩ = some (.int .i64 (ac)) := by rw [hw6]; rw [cell_other (off_ne (by omega))]; exact e1
              have d2 : w6.cell? ⟨g, 2, none⟩ = some (.int .i64 (ae)) := by rw [hw6]; rw [cell_other (off_ne (by omega))]; exact e2
              have d3 : w6.cell? ⟨g, 3, none⟩ = some (.int .i64 (au - x)) := by rw [hw6]; exact cell_same e3
              have d4 : w6.cell? ⟨g, 4, none⟩ = some (.int .i64 (ah)) := by rw [hw6]; rw [cell_other (off_ne (by omega))]; exact e4
              have ho6 : Only (fun _ => False) wr w6 := ho2.then (by rw [hw6]; exact Only.set (fun q => q = g) z2 g 3 _ rfl) (fun i hi e => by omega)
              have cx6 := ho6.cell' cx (fun f => f)
              have HO6 := Lib.hid ho6
              clear hw6 e0 e1 e2 e3 e4 f3 f4 f3' ho2 ho3 ho6 cx HO9 HOZ
              refine wp_region_noPanic ?_
              refine late.region (fun w' => ∀ q, w'.cell? q = w6.cell? q) (fun j => [9].contains j) (by kernel_rfl) (fun q => by simp) (fun hHeld => ?_)
              obtain ⟨z0, hz0⟩ : ∃ x, x = w6.drew := ⟨_, rfl⟩
              rw [← hz0] at hHeld ⊢
              have hou : Only (fun _ => False) w6 z0 := by rw [hz0]; exact (Only.refl _ _).drew
              have ho7 := HO6.out.trans hou
              have hrm := ((HBJ.out.only ho7 (fun f => f)).room k k2)
              obtain ⟨⟨u0, y0⟩, ⟨u1, y1⟩, ⟨u2, y2⟩, ⟨u3, y3⟩, ⟨u4, y4⟩, f0, f1, f2, f3, f4⟩ := hrm
              have HS9 := Lib.hid (HPUT.out _ (HBJ.out.only ho7 (fun f => f)))
              have HO9 := Lib.hid ((Only.p p ho7).trans (put5_only z0 p (k * 5) (.int .i64 at_) (.int .i64 ac) (.int .i64 ae) (.int .i64 (au - x)) (.int .i64 (ah))))
              unfold put5 at HS9 HO9
              clear ho7
              clear hou hz0
              refine sho.lt 0 [6, 7, 8, 9] ?_
              refine sho.lt 1 [3, 4, 8, 9] ?_
              refine sho.lt 2 [3, 4, 8, 9] ?_
              refine sho.lt 3 [4, 8, 9] ?_
              refine sho.lt 4 [8, 9] ?_
              refine sho.lt 5 [8, 9] ?_
              refine sho.lt 6 [7, 8, 9] ?_
              refine sho.lt 7 [8, 9] ?_
              refine sho.lt 8 [9] ?_
              refine late.ready (rs := [9]) (by kernel_rfl) (by simp) ?_
              refine late.Each.cons rfl (fun K hK => ?_) late.Each.nil
              clear hHeld
              try simp only [List.getElem_toArray, List.getElem_cons_zero, List.getElem_cons_succ]
              go_simp
              refine hK.out _ _ (fun h => by cases h) (fun _ => ?_)
              clear hK K
              try simp only [List.getElem_toArray, List.getElem_cons_zero, List.getElem_cons_succ, Act.put, List.setIfInBounds_toArray, List.set_cons_zero, List.set_cons_succ]
              refine late.done (by kernel_rfl) ?_ _
              refine NoPanic.normal ?_
              go_wp2_with fail
              go_roundw
              case rel => exact ⟨i + 1, by omega, by go_num, HS9, Lib.hid (HO.out.trans HO9.out)⟩
              case measure => simp [intOf]; omega
            · obtain rfl : i = n := by omega
              have HEN : Hid (BkJ T wr p A' ∧ Only (fun q => q = p) w wr) := Lib.hid ⟨by rw [HFA.out.2, ← HFN.out]; exact HBJ.out, (Only.p p HO2.out).trans HO.out⟩
              go_wp2_with fail
              go_ret
              exact ⟨by rw [HFA.out.1]; rfl, HEN.out⟩
    · rw [HDP.out] at HIS
      have hE : shE A l x (0) (-x) = 1 := by unfold shE; rw [if_neg (fun q => hx q.2)]
      have hT : shA A l x (0) (-x) = A := by unfold shA; rw [hE]; rfl
      rw [hE, hT]
      clear hE hT
      clear hp HDP
      by_cases x1 : 1 ≤ x
      · have x2 : ¬ x ≤ 9007199254740992 := fun q => hx ⟨x1, q⟩
        clear hx
        go_enter Tryz.func84, Tryz.ntmps84
        go_wp2_with fail
        refine (HIS.out).mono ?_
        rintro _ w1 ⟨rfl, ho⟩
        have HO := Lib.hid ho
        clear ho
        go_wp2_with fail
        go_ret
        exact ⟨rfl, HB.out.only HO.out (fun f => f), Only.p p HO.out⟩
      · clear hx
        go_enter Tryz.func84, Tryz.ntmps84
        go_wp2_with fail
        refine (HIS.out).mono ?_
        rintro _ w1 ⟨rfl, ho⟩
        have HO := Lib.hid ho
        clear ho
        go_wp2_with fail
        go_ret
        exact ⟨rfl, HB.out.only HO.out (fun f => f), Only.p p HO.out⟩
  · have HDP : Hid (decide (PathOk l) = false) := Lib.hid (decide_eq_false hp)
    rw [HDP.out] at HIS
    have hE : shE A l x (0) (-x) = 1 := by unfold shE; rw [if_neg (fun q => hp q.1)]
    have hT : shA A l x (0) (-x) = A := by unfold shA; rw [hE]; rfl
    rw [hE, hT]
    clear hE hT
    clear hp HDP
    go_enter Tryz.func84, Tryz.ntmps84
    go_wp2_with fail
    refine (HIS.out).mono ?_
    rintro _ w1 ⟨rfl, ho⟩
    have HO := Lib.hid ho
    clear ho
    go_wp2_with fail
    go_ret
    exact ⟨rfl, HB.out.only HO.out (fun f => f), Only.p p HO.out⟩
set_option maxRecDepth 100000 in
set_option maxHeartbeats 4000000 in
theorem rhold_any (T : Tl) (p : Nat) (A : List Ac) (a : Option Addr) (n c : Nat) (l : List Int) (a2 : Option Addr) (m c2 : Nat) (ls : List Int) (x : Int) (w : World) (h : BkJ T w p A) (hA : Bok A) (hr : ReadsI w a n l) (hc : n ≤ c) (hr2 : ReadsI w a2 m ls) (hpa : ∀ y, a = some y → y.block ≠ p) : Calls Tryz.prog 83 #[.pointer (some ⟨p, 0, none⟩), .slice a n c, .slice a2 m c2, .int .i64 x] w (JDid T p (holdA A l ls x) (holdE A l ls x) w) := by
  have HB := Lib.hid h
  have HA := Lib.hid hA
  have HR := Lib.hid hr
  have HR2 := Lib.hid hr2
  have HPA := Lib.hid hpa
  have hm := hr.2.1
  have hm2 := hr2.2.1
  unfold maxLen at hm hm2
  have HLN := Lib.hid hr.1
  have HLN2 := Lib.hid hr2.1
  have HIS := Lib.hid (rlimited_any a n c l a2 m c2 ls w hr hc hr2)
  clear h hA hr hr2 hpa
  by_cases hpl : PathOk l ∧ m = n ∧ LOk ls m
  · have HDP : Hid (decide (PathOk l ∧ m = n ∧ LOk ls m) = true) := Lib.hid (decide_eq_true hpl)
    by_cases hx : AmtOk x
    · obtain ⟨hp, rfl, hlo⟩ := hpl
      have HE0 : Hid (holdE A l ls x = holdR A x l ls) := Lib.hid (by unfold holdE; rw [if_pos ⟨⟨hp, by rw [HLN.out, HLN2.out], by rw [HLN2.out]; exact hlo⟩, hx⟩])
      have HT0 : Hid (holdA A l ls x = if holdE A l ls x = 0 then shT A l x 0 else A) := Lib.hid rfl
      have HPK : Hid (∀ i, i < m → ∃ k : Nat, l.getD i 0 = k ∧ 1 ≤ k ∧ k < 33) := Lib.hid (fun i hi => by obtain ⟨k, q1, q2, q3, _⟩ := path_toNat hp i (by rw [HLN.out]; exact hi); exact ⟨k, q1, q2, q3⟩)
      have HDR : Hid (∀ i, i < m → holdR A x (l.drop i) (ls.drop i) = if left (nd A (l.getD i 0)) < x then 9 else if 0 ≤ ls.getD i 0 ∧ ls.getD i 0 < (nd A (l.getD i 0)).u + (nd A (l.getD i 0)).h + x then 18 else holdR A x (l.drop (i + 1)) (ls.drop (i + 1))) := Lib.hid (fun i hi => by rw [drop_at l i (by rw [HLN.out]; exact hi), drop_at ls i (by rw [HLN2.out]; exact hi)]; rfl)
      have HND : Hid (∀ i, Parts (nd A i)) := Lib.hid (fun i => (HA.out.ok _).1)
      have HBN : Hid (holdR A x (l.drop m) (ls.drop m) = 0) := Lib.hid (by rw [List.drop_eq_nil_of_le (by rw [HLN.out]; exact Nat.le_refl _)]; rfl)
      have HLI : Hid (∀ i, i < m → LimIn (ls.getD i 0)) := Lib.hid hlo
      have HSH := Lib.hid (hold_sh HA.out hp hx)
      have HSA : Hid (∀ i, i < m → nd (shT A (l.take i) x 0) (l.getD i 0) = nd A (l.getD i 0)) := Lib.hid (fun i hi => shT_at hp i (by rw [HLN.out]; exact hi) x 0)
      have HSS : Hid (∀ i, i < m → shT A (l.take (i + 1)) x 0 = (shT A (l.take i) x 0).set (l.getD i 0).toNat (shB (nd (shT A (l.take i) x 0) (l.getD i 0)) x 0)) := Lib.hid (fun i hi => shT_take A l x 0 i (by rw [HLN.out]; exact hi))
      have HSL0 : Hid (∀ i, (shT A (l.take i) x 0).length = 33) := Lib.hid (fun i => (shT_len _ _ _ _).trans HA.out.len)
      have HF0 : Hid (shT A (l.take 0) x 0 = A) := Lib.hid rfl
      have HFN : Hid (shT A (l.take m) x 0 = shT A l x 0) := Lib.hid (by rw [List.take_of_length_le (by rw [HLN.out]; exact Nat.le_refl _)])
      obtain ⟨x1, x2⟩ := hx
      rw [HDP.out] at HIS
      clear hp HDP hlo
      generalize holdE A l ls x = E at *
      generalize holdA A l ls x = A' at *
      go_enter Tryz.func83, Tryz.ntmps83
      go_wp2_with fail
      refine (HIS.out).mono ?_
      rintro _ w1 ⟨rfl, ho⟩
      have HO := Lib.hid ho
      clear ho
      go_wp2_with fail
      have HO1 := Lib.hid HO.out
      have HR1 := Lib.hid (HR.out.only HO.out (fun _ _ f => f))
      have HR21 := Lib.hid (HR2.out.only HO.out (fun _ _ f => f))
      have HB1 := Lib.hid (HB.out.only HO.out (fun f => f))
      clear HO HR HR2 HB
      rename World => w1
      go_loopw [9] (fun iv wr => ∃ i : Nat, i ≤ m ∧ iv = .int .i64 (i : Int) ∧ Hid (holdR A x l ls = holdR A x (l.drop i) (ls.drop i)) ∧ Hid (Only (fun _ => False) w1 wr)) (fun iv _ => m - (intOf iv).toNat)
      case atStart => exact ⟨0, by omega, rfl, Lib.hid rfl, Lib.hid (Only.refl _ _)⟩
      case round =>
        obtain ⟨i, hi, rfl, HD, HO⟩ := hrel
        rename World => wr
        by_cases h8 : i < m
        · obtain ⟨b, off, rfl, hcell⟩ := HR1.out.2.2.2.resolve_left (by omega)
          obtain ⟨b2, off2, rfl, hcell2⟩ := HR21.out.2.2.2.resolve_left (by omega)
          have cx := HO.out.cell' (hcell i h8) (fun f => f)
          have cm := HO.out.cell' (hcell2 i h8) (fun f => f)
          have hi0 : (0 : Int) ≤ i := by omega
          have hi1 : (i : Int) < m := by omega
          obtain ⟨k, hk, k1, k2⟩ := HPK.out i h8
          have hdd := HDR.out i h8
          have hpt := HND.out (l.getD i 0)
          obtain ⟨l1, l2⟩ := HLI.out i h8
          rw [hk, nd_nat] at hdd hpt
          rw [hk] at cx
          have hk2 : (k : Int) < 33 := by omega
          have hk0 : (0 : Int) ≤ k := by omega
          obtain ⟨c0, c1, c2, c3, c4⟩ := (HB1.out.only HO.out (fun f => f)).1 k k2
          have HAV : Hid (∀ w1, _) := Lib.hid (fun w1 => left_any (A.getD k zA) w1 hpt)
          generalize A.getD k zA = ac at *
          obtain ⟨at_, ac, ae, au, ah⟩ := ac
          unfold aggA at HAV
          dsimp only at c0 c1 c2 c3 c4 hdd HAV
          obtain ⟨-, -, -, ⟨u1, u2⟩, ⟨g1, g2⟩⟩ := hpt
          dsimp only at u1 u2 g1 g2
          have q1 : IntKind.i64.wrap (au + ah) = au + ah := w64 _ (by omega) (by omega)
          have q2 : IntKind.i64.wrap (au + ah + x) = au + ah + x := w64 _ (by omega) (by omega)
          generalize ls.getD i 0 = lim at *
          generalize left ⟨at_, ac, ae, au, ah⟩ = lf at *
          have HDD := Lib.hid (HD.out.trans hdd)
          clear hcell hcell2 hdd hk u1 u2 g1 g2
          have HSL : Hid (∀ w', Only (fun _ => False) wr w' → w'.cell? ⟨b, off + i, none⟩ = some (.int .i64 (k : Int)) ∧ w'.cell? ⟨p, k * 5, none⟩ = some (.int .i64 at_) ∧ w'.cell? ⟨p, k * 5 + 1, none⟩ = some (.int .i64 ac) ∧ w'.cell? ⟨p, k * 5 + 2, none⟩ = some (.int .i64 ae) ∧ w'.cell? ⟨p, k * 5 + 3, none⟩ = some (.int .i64 au) ∧ w'.cell? ⟨p, k * 5 + 4, none⟩ = some (.int .i64 ah)) := Lib.hid (fun w' ho => ⟨ho.cell' cx (fun f => f), ho.cell' c0 (fun f => f), ho.cell' c1 (fun f => f), ho.cell' c2 (fun f => f), ho.cell' c3 (fun f => f), ho.cell' c4 (fun f => f)⟩)
          go_upto_region 6 with fail
          refine wp_region_noPanic ?_
          refine late.region (fun w' => w'.cell? ⟨b, off + i, none⟩ = some (.int .i64 (k : Int)) ∧ w'.cell? ⟨p, k * 5, none⟩ = some (.int .i64 at_) ∧ w'.cell? ⟨p, k * 5 + 1, none⟩ = some (.int .i64 ac) ∧ w'.cell? ⟨p, k * 5 + 2, none⟩ = some (.int .i64 ae) ∧ w'.cell? ⟨p, k * 5 + 3, none⟩ = some (.int .i64 au) ∧ w'.cell? ⟨p, k * 5 + 4, none⟩ = some (.int .i64 ah)) (fun j => [].contains j) (by kernel_rfl) (HSL.out _ (Only.refl _ _).drew) (fun hHeld => ?_)
          obtain ⟨z0, hz0⟩ : ∃ x, x = wr.drew := ⟨_, rfl⟩
          rw [← hz0] at hHeld ⊢
          have hou : Only (fun _ => False) wr z0 := by rw [hz0]; exact (Only.refl _ _).drew
          clear hz0
          refine sho.lt 0 [5, 6, 7, 8, 10] ?_
          refine sho.lt 1 [3, 4, 7, 8, 10] ?_
          refine sho.lt 2 [3, 4, 7, 8, 10] ?_
          refine sho.lt 3 [4, 7, 8, 10] ?_
          refine sho.lt 4 [7, 8, 10] ?_
          refine sho.lt 5 [6, 7, 8, 10] ?_
          refine sho.lt 6 [7, 8, 10] ?_
          refine sho.lt 7 [8, 10] ?_
          refine sho.lt 8 [10] ?_
          refine late.ready (rs := [9]) (by kernel_rfl) (by simp) ?_
          refine late.Each.cons rfl (fun K hK => ?_) late.Each.nil
          try simp only [List.getElem_toArray, List.getElem_cons_zero, List.getElem_cons_succ]
          go_simp
          obtain ⟨z1, hz1⟩ : ∃ x, x = z0.alloc (.cells #[.int .i64 0, .int .i64 0, .int .i64 0, .int .i64 0, .int .i64 0] 41) := ⟨_, rfl⟩
          obtain ⟨g, hg⟩ : ∃ x, x = z0.heap.size := ⟨_, rfl⟩
          rw [← hz1, ← hg]
          have ho1 : Only (fun _ => False) wr z1 := by rw [hz1]; exact hou.alloc _
          have hgs : wr.heap.size ≤ g := by rw [hg]; exact hou.size
          have hfive : Five z1 g := by rw [hz1]; exact Five.new hg
          have HFV := Lib.hid hfive
          obtain ⟨⟨y0, hy0'⟩, ⟨y1, hy1'⟩, ⟨y2, hy2'⟩, ⟨y3, hy3'⟩, ⟨y4, hy4'⟩, f0, f1, f2, f3, f4⟩ := hfive
          clear hz1 hg hou
          refine hK.out _ _ (fun _ => HSL.out _ ho1) (fun hHeld1 => ?_)
          replace hHeld1 := hHeld1 rfl
          clear hK K
          try simp only [List.getElem_toArray, List.getElem_cons_zero, List.getElem_cons_succ, Act.put, List.setIfInBounds_toArray, List.set_cons_zero, List.set_cons_succ]
          refine late.ready (rs := [10]) (by kernel_rfl) (by simp) ?_
          refine late.Each.cons rfl (fun K hK => ?_) late.Each.nil
          try simp only [List.getElem_toArray, List.getElem_cons_zero, List.getElem_cons_succ]
          go_simp
          obtain ⟨z2, hz2⟩ : ∃ x, x = put50 z1 g (.int .i64 at_) (.int .i64 ac) (.int .i64 ae) (.int .i64 au) (.int .i64 ah) := ⟨_, rfl⟩
          have HZ2 := Lib.hid hz2
          unfold put50 at hz2
          rw [← hz2]
          have ho2 : Only (fun _ => False) wr z2 := ho1.then (by rw [HZ2.out, put50_eq]; exact put5_only _ _ _ _ _ _ _ _) (fun i hi e => by omega)
          have hbx : (z2.cell? ⟨g, 0, none⟩ = some (.int .i64 at_) ∧ z2.cell? ⟨g, 1, none⟩ = some (.int .i64 ac) ∧ z2.cell? ⟨g, 2, none⟩ = some (.int .i64 ae) ∧ z2.cell? ⟨g, 3, none⟩ = some (.int .i64 au) ∧ z2.cell? ⟨g, 4, none⟩ = some (.int .i64 ah)) := by rw [HZ2.out]; exact HFV.out.put _ _ _ _ _
          obtain ⟨e0, e1, e2, e3, e4⟩ := hbx
          replace f3 : z2.frozen? ⟨g, 3, none⟩ = false := by rw [HZ2.out, put50_eq, put5_froz]; exact f3
          replace f4 : z2.frozen? ⟨g, 4, none⟩ = false := by rw [HZ2.out, put50_eq, put5_froz]; exact f4
          clear hz2 HZ2 HFV hy0' hy1' hy2' hy3' hy4' f0 f1 f2 ho1
          refine hK.out _ _ (fun _ => HSL.out _ ho2) (fun hHeld2 => ?_)
          replace hHeld2 := hHeld2 rfl
          clear hK K
          try simp only [List.getElem_toArray, List.getElem_cons_zero, List.getElem_cons_succ, Act.put, List.setIfInBounds_toArray, List.set_cons_zero, List.set_cons_succ]
          refine late.done (by kernel_rfl) ?_ _
          refine NoPanic.normal ?_
          clear f3 f4
          go_wp2_with fail
          refine (HAV.out _).mono ?_
          rintro _ w9 ⟨rfl, ho⟩
          have HO9 := Lib.hid (HO.out.trans (ho2.trans ho))
          replace e3 := ho.cell' e3 (fun f => f)
          replace e4 := ho.cell' e4 (fun f => f)
          replace cm := (ho2.trans ho).cell' cm (fun f => f)
          clear ho ho2 HAV e0 e1 e2 cx c0 c1 c2 c3 c4 HSL
          by_cases hlt : lf < x
          · have HFA : Hid (E = 9 ∧ A' = A) := Lib.hid (by
              have e : E = 9 := by rw [HE0.out, HDD.out, if_pos hlt]
              exact ⟨e, by rw [HT0.out, e]; rfl⟩)
            go_wp2_with fail
            go_ret
            exact ⟨by rw [HFA.out.1]; rfl, by rw [HFA.out.2]; exact HB1.out.only HO9.out (fun f => f), Only.p p (HO1.out.trans HO9.out)⟩
          · have HLT := Lib.hid hlt
            go_upto_region 9 with fail
            by_cases hm0 : 0 ≤ lim
            · by_cases hgt : lim < au + ah + x
              · have HFA : Hid (E = 18 ∧ A' = A) := Lib.hid (by
                  have e : E = 18 := by rw [HE0.out, HDD.out, if_neg (show ¬ lf < x from by have := HLT.out; omega), if_pos ⟨hm0, hgt⟩]
                  exact ⟨e, by rw [HT0.out, e]; rfl⟩)
                refine wp_region_noPanic ?_
                refine late.region (fun w' => ∀ q, w'.cell? q = w9.cell? q) (fun j => [].contains j) (by kernel_rfl) (fun q => by simp) (fun hHeld => ?_)
                refine sho.lt 0 [2, 3, 4, 5, 6, 7, 8, 9, 10, 11, 12, 13, 14, 15, 16, 17, 18] ?_
                refine sho.lt 1 [2, 3, 4, 5, 6, 7, 8, 9, 10, 11, 12, 13, 14, 15, 16, 17, 18] ?_
                refine sho.lt 2 [3, 4, 5, 6, 7, 8, 9, 10, 11, 12, 13, 14, 15, 16, 17, 18] ?_
                refine sho.lt 3 [4, 5, 6, 7, 8, 9, 10, 11, 12, 13, 14, 15, 16, 17, 18] ?_
                refine sho.lt 4 [5, 6, 7, 8, 9, 10, 11, 12, 13, 14, 15, 16, 17, 18] ?_
                refine sho.lt 5 [6, 7, 8, 9, 10, 11, 12, 13, 14, 15, 16, 17, 18] ?_
                refine sho.lt 6 [7, 10, 12, 17, 18] ?_
                refine sho.lt 7 [10, 12, 17, 18] ?_
                refine sho.lt 8 [9, 10, 12, 17, 18] ?_
                refine sho.lt 9 [10, 12, 17, 18] ?_
                refine sho.lt 10 [12, 17, 18] ?_
                refine sho.lt 11 [12, 17, 18] ?_
                refine sho.lt 12 [17, 18] ?_
                refine sho.lt 13 [15, 16, 17, 18] ?_
                refine sho.lt 14 [15, 16, 17, 18] ?_
                refine sho.lt 15 [16, 17, 18] ?_
                refine sho.lt 16 [17, 18] ?_
                refine sho.lt 17 [18] ?_
                refine sho.lt 18 [] ?_
                refine late.done (by kernel_rfl) ?_ _
                refine NoPanic.normal ?_
                have HOD := Lib.hid HO9.out.drew
                go_wp2_with fail
                go_ret
                exact ⟨by rw [HFA.out.1]; rfl, by rw [HFA.out.2]; exact HB1.out.only HOD.out (fun f => f), Only.p p (HO1.out.trans HOD.out)⟩
              · have HD2 : Hid (holdR A x l ls = holdR A x (l.drop (i + 1)) (ls.drop (i + 1))) := Lib.hid (by rw [HDD.out, if_neg (show ¬ lf < x from by have := HLT.out; omega), if_neg (fun q => hgt q.2)])
                refine wp_region_noPanic ?_
                refine late.region (fun w' => ∀ q, w'.cell? q = w9.cell? q) (fun j => [].contains j) (by kernel_rfl) (fun q => by simp) (fun hHeld => ?_)
                refine sho.lt 0 [2, 3, 4, 5, 6, 7, 8, 9, 10, 11, 12, 13, 14, 15, 16, 17, 18] ?_
                refine sho.lt 1 [2, 3, 4, 5, 6, 7, 8, 9, 10, 11, 12, 13, 14, 15, 16, 17, 18] ?_
                refine sho.lt 2 [3, 4, 5, 6, 7, 8, 9, 10, 11, 12, 13, 14, 15, 16, 17, 18] ?_
                refine sho.lt 3 [4, 5, 6, 7, 8, 9, 10, 11, 12, 13, 14, 15, 16, 17, 18] ?_
                refine sho.lt 4 [5, 6, 7, 8, 9, 10, 11, 12, 13, 14, 15, 16, 17, 18] ?_
                refine sho.lt 5 [6, 7, 8, 9, 10, 11, 12, 13, 14, 15, 16, 17, 18] ?_
                refine sho.lt 6 [7, 10, 12, 17, 18] ?_
                refine sho.lt 7 [10, 12, 17, 18] ?_
                refine sho.lt 8 [9, 10, 12, 17, 18] ?_
                refine sho.lt 9 [10, 12, 17, 18] ?_
                refine sho.lt 10 [12, 17, 18] ?_
                refine sho.lt 11 [12, 17, 18] ?_
                refine sho.lt 12 [17, 18] ?_
                refine sho.lt 13 [15, 16, 17, 18] ?_
                refine sho.lt 14 [15, 16, 17, 18] ?_
                refine sho.lt 15 [16, 17, 18] ?_
                refine sho.lt 16 [17, 18] ?_
                refine sho.lt 17 [18] ?_
                refine sho.lt 18 [] ?_
                refine late.done (by kernel_rfl) ?_ _
                refine NoPanic.normal ?_
                have HOD := Lib.hid HO9.out.drew
                go_wp2_with fail
                go_roundw
                case rel => exact ⟨i + 1, by omega, by go_num, HD2, HOD⟩
                case measure => simp [intOf]; omega
            · have HD2 : Hid (holdR A x l ls = holdR A x (l.drop (i + 1)) (ls.drop (i + 1))) := Lib.hid (by rw [HDD.out, if_neg (show ¬ lf < x from by have := HLT.out; omega), if_neg (fun q => hm0 q.1)])
              refine wp_region_noPanic ?_
              refine late.region (fun w' => ∀ q, w'.cell? q = w9.cell? q) (fun j => [].contains j) (by kernel_rfl) (fun q => by simp) (fun hHeld => ?_)
              refine sho.lt 0 [2, 3, 4, 5, 6, 7, 8, 9, 10, 11, 12, 13, 14, 15, 16, 17, 18] ?_
              refine sho.lt 1 [2, 3, 4, 5, 6, 7, 8, 9, 10, 11, 12, 13, 14, 15, 16, 17, 18] ?_
              refine sho.lt 2 [3, 4, 5, 6, 7, 8, 9, 10, 11, 12, 13, 14, 15, 16, 17, 18] ?_
              refine sho.lt 3 [4, 5, 6, 7, 8, 9, 10, 11, 12, 13, 14, 15, 16, 17, 18] ?_
              refine sho.lt 4 [5, 6, 7, 8, 9, 10, 11, 12, 13, 14, 15, 16, 17, 18] ?_
              refine sho.lt 5 [6, 7, 8, 9, 10, 11, 12, 13, 14, 15, 16, 17, 18] ?_
              refine late.take (i := 6) [7, 10, 12, 17, 18] (v := undef) rfl (by kernel_rfl) (by kernel_rfl) (by kernel_rfl) (by kernel_rfl) (fun _ _ _ h => h) (Or.inr ⟨rfl, rfl⟩) (by assumption) ?_
              try simp only [List.getElem_toArray, List.getElem_cons_zero, List.getElem_cons_succ, Act.put, List.setIfInBounds_toArray, List.set_cons_zero, List.set_cons_succ]
              refine late.take (i := 7) [10, 12, 17, 18] (v := undef) rfl (by kernel_rfl) (by kernel_rfl) (by kernel_rfl) (by kernel_rfl) (fun _ _ _ h => h) (Or.inr ⟨rfl, rfl⟩) (by assumption) ?_
              try simp only [List.getElem_toArray, List.getElem_cons_zero, List.getElem_cons_succ, Act.put, List.setIfInBounds_toArray, List.set_cons_zero, List.set_cons_succ]
              refine late.take (i := 8) [9, 10, 12, 17, 18] (v := undef) rfl (by kernel_rfl) (by kernel_rfl) (by kernel_rfl) (by kernel_rfl) (fun _ _ _ h => h) (Or.inr ⟨rfl, rfl⟩) (by assumption) ?_
              try simp only [List.getElem_toArray, List.getElem_cons_zero, List.getElem_cons_succ, Act.put, List.setIfInBounds_toArray, List.set_cons_zero, List.set_cons_succ]
              refine late.take (i := 9) [10, 12, 17, 18] (v := undef) rfl (by kernel_rfl) (by kernel_rfl) (by kernel_rfl) (by kernel_rfl) (fun _ _ _ h => h) (Or.inr ⟨rfl, rfl⟩) (by assumption) ?_
              try simp only [List.getElem_toArray, List.getElem_cons_zero, List.getElem_cons_succ, Act.put, List.setIfInBounds_toArray, List.set_cons_zero, List.set_cons_succ]
              refine late.take (i := 10) [12, 17, 18] (v := undef) rfl (by kernel_rfl) (by kernel_rfl) (by kernel_rfl) (by kernel_rfl) (fun _ _ _ h => h) (Or.inr ⟨rfl, rfl⟩) (by assumption) ?_
              try simp only [List.getElem_toArray, List.getElem_cons_zero, List.getElem_cons_succ, Act.put, List.setIfInBounds_toArray, List.set_cons_zero, List.set_cons_succ]
              refine late.take (i := 11) [12, 17, 18] (v := undef) rfl (by kernel_rfl) (by kernel_rfl) (by kernel_rfl) (by kernel_rfl) (fun _ _ _ h => h) (Or.inr ⟨rfl, rfl⟩) (by assumption) ?_
              try simp only [List.getElem_toArray, List.getElem_cons_zero, List.getElem_cons_succ, Act.put, List.setIfInBounds_toArray, List.set_cons_zero, List.set_cons_succ]
              refine late.take (i := 12) [17, 18] (v := undef) rfl (by kernel_rfl) (by kernel_rfl) (by kernel_rfl) (by kernel_rfl) (fun _ _ _ h => h) (Or.inr ⟨rfl, rfl⟩) (by assumption) ?_
              try simp only [List.getElem_toArray, List.getElem_cons_zero, List.getElem_cons_succ, Act.put, List.setIfInBounds_toArray, List.set_cons_zero, List.set_cons_succ]
              refine late.take (i := 13) [15, 16, 17, 18] (v := undef) rfl (by kernel_rfl) (by kernel_rfl) (by kernel_rfl) (by kernel_rfl) (fun _ _ _ h => h) (Or.inr ⟨rfl, rfl⟩) (by assumption) ?_
              try simp only [List.getElem_toArray, List.getElem_cons_zero, List.getElem_cons_succ, Act.put, List.setIfInBounds_toArray, List.set_cons_zero, List.set_cons_succ]
              refine late.take (i := 14) [15, 16, 17, 18] (v := undef) rfl (by kernel_rfl) (by kernel_rfl) (by kernel_rfl) (by kernel_rfl) (fun _ _ _ h => h) (Or.inr ⟨rfl, rfl⟩) (by assumption) ?_
              try simp only [List.getElem_toArray, List.getElem_cons_zero, List.getElem_cons_succ, Act.put, List.setIfInBounds_toArray, List.set_cons_zero, List.set_cons_succ]
              refine late.take (i := 15) [16, 17, 18] (v := undef) rfl (by kernel_rfl) (by kernel_rfl) (by kernel_rfl) (by kernel_rfl) (fun _ _ _ h => h) (Or.inr ⟨rfl, rfl⟩) (by assumption) ?_
              try simp only [List.getElem_toArray, List.getElem_cons_zero, List.getElem_cons_succ, Act.put, List.setIfInBounds_toArray, List.set_cons_zero, List.set_cons_succ]
              refine late.take (i := 16) [17, 18] (v := undef) rfl (by kernel_rfl) (by kernel_rfl) (by kernel_rfl) (by kernel_rfl) (fun _ _ _ h => h) (Or.inr ⟨rfl, rfl⟩) (by assumption) ?_
              try simp only [List.getElem_toArray, List.getElem_cons_zero, List.getElem_cons_succ, Act.put, List.setIfInBounds_toArray, List.set_cons_zero, List.set_cons_succ]
              refine late.take (i := 17) [18] (v := undef) rfl (by kernel_rfl) (by kernel_rfl) (by kernel_rfl) (by kernel_rfl) (fun _ _ _ h => h) (Or.inr ⟨rfl, rfl⟩) (by assumption) ?_
              try simp only [List.getElem_toArray, List.getElem_cons_zero, List.getElem_cons_succ, Act.put, List.setIfInBounds_toArray, List.set_cons_zero, List.set_cons_succ]
              refine sho.lt 18 [] ?_
              refine late.done (by kernel_rfl) ?_ _
              refine NoPanic.normal ?_
              have HOD := Lib.hid HO9.out.drew
              go_wp2_with fail
              go_roundw
              case rel => exact ⟨i + 1, by omega, by go_num, HD2, HOD⟩
              case measure => simp [intOf]; omega
        · obtain rfl : i = m := by omega
          have HFA : Hid (E = 0 ∧ A' = shT A l x 0) := Lib.hid (by
            have e : E = 0 := by rw [HE0.out, HD.out, HBN.out]
            exact ⟨e, by rw [HT0.out, if_pos e]⟩)
          have HB2 := Lib.hid (HB1.out.only HO.out (fun f => f))
          have HR2 := Lib.hid (HR1.out.only HO.out (fun _ _ f => f))
          have HO2 := Lib.hid (HO1.out.trans HO.out)
          rename World => w2
          clear HDR HD HB1 HR1 HR21 HO1 HO HBN
          go_wp2_with fail
          go_loopw [11] (fun iv wr => ∃ j : Nat, j ≤ i ∧ iv = .int .i64 (j : Int) ∧ Hid (BkJ T wr p (shT A (l.take j) x 0)) ∧ Hid (Only (fun q => q = p) w2 wr)) (fun iv _ => i - (intOf iv).toNat)
          case atStart => exact ⟨0, by omega, rfl, Lib.hid (by rw [HF0.out]; exact HB2.out), Lib.hid (Only.refl _ _)⟩
          case round =>
            obtain ⟨j, hj, rfl, HBJ, HO⟩ := hrel
            rename World => wr
            by_cases h9 : j < i
            · obtain ⟨b, off, rfl, hcell⟩ := HR2.out.2.2.2.resolve_left (by omega)
              have hbp : ¬ b = p := HPA.out ⟨b, off, none⟩ rfl
              have cx := HO.out.cell' (hcell j h9) hbp
              have hj0 : (0 : Int) ≤ j := by omega
              have hj1 : (j : Int) < i := by omega
              obtain ⟨k, hk, k1, k2⟩ := HPK.out j h9
              have hpt := HND.out (l.getD j 0)
              have hat := HSA.out j h9
              have hss := HSS.out j h9
              have hsl := HSL0.out j
              rw [hat] at hss
              rw [hk, nd_nat] at hpt
              rw [hk, nd_nat, nd_nat] at hat
              rw [hk, nd_nat, Int.toNat_natCast] at hss
              rw [hk] at cx
              have hk2 : (k : Int) < 33 := by omega
              have hk0 : (0 : Int) ≤ k := by omega
              have HSS2 := Lib.hid hss
              have hbj := HBJ.out
              generalize shT A (l.take j) x 0 = AJ at *
              obtain ⟨c0, c1, c2, c3, c4⟩ := hbj.1 k k2
              rw [hat] at c0 c1 c2 c3 c4
              generalize A.getD k zA = ac at *
              obtain ⟨at_, ac, ae, au, ah⟩ := ac
              dsimp only at c0 c1 c2 c3 c4
              obtain ⟨-, -, -, ⟨u1, u2⟩, ⟨g1, g2⟩⟩ := hpt
              dsimp only at u1 u2 g1 g2
              have q1 : IntKind.i64.wrap (ah + x) = ah + x := w64 _ (by omega) (by omega)
              have HAT := Lib.hid hat
              have HSLJ := Lib.hid hsl
              have HBJ1 : Hid (∀ wy, Only (fun _ => False) wr wy → BkJ T (wy.setCell ⟨p, k * 5 + 4, none⟩ (.int .i64 (ah + x))) p (shT A (l.take (j + 1)) x 0)) := Lib.hid (fun wy ho => by
                have := (HBJ.out.only ho (fun f => f)).store HSLJ.out k 4 (.int .i64 (ah + x)) ⟨at_, ac, ae, au, ah + x⟩ k2 (by omega) (by rw [HAT.out]; rfl)
                rw [HSS2.out]
                have e : shB ⟨at_, ac, ae, au, ah⟩ x 0 = ⟨at_, ac, ae, au, ah + x⟩ := by simp [shB]
                rw [e]
                exact this)
              have HFZ : Hid (∀ wy, Only (fun _ => False) wr wy → wy.frozen? ⟨p, k * 5 + 4, none⟩ = false) := Lib.hid (fun wy ho => (HBJ.out.only ho (fun f => f)).fz _ (by omega))
              clear hcell hk hat hss hsl hbj u1 u2 g1 g2
              go_upto_region 14 with fail
              refine wp_region_noPanic ?_
              refine late.region (fun w' => ∀ q, w'.cell? q = wr.cell? q) (fun j => [21].contains j) (by kernel_rfl) (fun q => by simp) (fun hHeld => ?_)
              obtain ⟨z0, hz0⟩ : ∃ x, x = wr.drew := ⟨_, rfl⟩
              rw [← hz0] at hHeld ⊢
              have hou : Only (fun _ => False) wr z0 := by rw [hz0]; exact (Only.refl _ _).drew
              have hc4 := hou.cell' c4 (fun f => f)
              have hcx := hou.cell' cx (fun f => f)
              have f4 := HFZ.out _ hou
              have HS9 := Lib.hid (HBJ1.out _ hou)
              have HO9 := Lib.hid ((Only.p p hou).trans (Only.set (fun q => q = p) z0 p (k * 5 + 4) (.int .i64 (ah + x)) rfl))
              clear hou hz0
              refine sho.lt 0 [17, 18, 19, 20, 21] ?_
              refine sho.lt 1 [3, 4, 19, 20, 21] ?_
              refine sho.lt 2 [3, 4, 19, 20, 21] ?_
              refine sho.lt 3 [4, 19, 20, 21] ?_
              refine sho.lt 4 [19, 20, 21] ?_
              refine sho.lt 5 [10, 11, 12, 13, 14, 16, 19, 20, 21] ?_
              refine sho.lt 6 [8, 9, 12, 13, 14, 16, 19, 20, 21] ?_
              refine sho.lt 7 [8, 9, 12, 13, 14, 16, 19, 20, 21] ?_
              refine sho.lt 8 [9, 12, 13, 14, 16, 19, 20, 21] ?_
              refine sho.lt 9 [12, 13, 14, 16, 19, 20, 21] ?_
              refine sho.lt 10 [11, 12, 13, 14, 16, 19, 20, 21] ?_
              refine sho.lt 11 [12, 13, 14, 16, 19, 20, 21] ?_
              refine sho.lt 12 [13, 14, 16, 19, 20, 21] ?_
              refine sho.lt 13 [14, 16, 19, 20, 21] ?_
              refine sho.lt 14 [16, 19, 20, 21] ?_
              refine sho.lt 15 [16, 19, 20, 21] ?_
              refine sho.lt 16 [19, 20, 21] ?_
              refine sho.lt 17 [18, 19, 20, 21] ?_
              refine sho.lt 18 [19, 20, 21] ?_
              refine sho.lt 19 [20, 21] ?_
              refine sho.lt 20 [21] ?_
              refine late.ready (rs := [21]) (by kernel_rfl) (by simp) ?_
              refine late.Each.cons rfl (fun K hK => ?_) late.Each.nil
              clear hHeld
              try simp only [List.getElem_toArray, List.getElem_cons_zero, List.getElem_cons_succ]
              go_simp
              refine hK.out _ _ (fun h => by cases h) (fun _ => ?_)
              clear hK K
              try simp only [List.getElem_toArray, List.getElem_cons_zero, List.getElem_cons_succ, Act.put, List.setIfInBounds_toArray, List.set_cons_zero, List.set_cons_succ]
              refine late.done (by kernel_rfl) ?_ _
              refine NoPanic.normal ?_
              go_wp2_with fail
              go_roundw
              case rel => exact ⟨j + 1, by omega, by go_num, HS9, Lib.hid (HO.out.trans HO9.out)⟩
              case measure => simp [intOf]; omega
            · obtain rfl : j = i := by omega
              have HEN : Hid (BkJ T wr p A' ∧ Only (fun q => q = p) w wr) := Lib.hid ⟨by rw [HFA.out.2, ← HFN.out]; exact HBJ.out, (Only.p p HO2.out).trans HO.out⟩
              go_wp2_with fail
              go_ret
              exact ⟨by rw [HFA.out.1]; rfl, HEN.out⟩
    · rw [HDP.out] at HIS
      have hE : holdE A l ls x = 1 := by unfold holdE; rw [if_neg (fun q => hx q.2)]
      have hT : holdA A l ls x = A := by unfold holdA; rw [hE]; rfl
      rw [hE, hT]
      clear hE hT
      by_cases x1 : 1 ≤ x
      · have x2 : ¬ x ≤ 9007199254740992 := fun q => hx ⟨x1, q⟩
        clear hx
        clear hpl HDP
        go_enter Tryz.func83, Tryz.ntmps83
        go_wp2_with fail
        refine (HIS.out).mono ?_
        rintro _ w1 ⟨rfl, ho⟩
        have HO := Lib.hid ho
        clear ho
        go_wp2_with fail
        go_ret
        exact ⟨rfl, HB.out.only HO.out (fun f => f), Only.p p HO.out⟩
      · clear hx
        clear hpl HDP
        go_enter Tryz.func83, Tryz.ntmps83
        go_wp2_with fail
        refine (HIS.out).mono ?_
        rintro _ w1 ⟨rfl, ho⟩
        have HO := Lib.hid ho
        clear ho
        go_wp2_with fail
        go_ret
        exact ⟨rfl, HB.out.only HO.out (fun f => f), Only.p p HO.out⟩
  · have HDP : Hid (decide (PathOk l ∧ m = n ∧ LOk ls m) = false) := Lib.hid (decide_eq_false hpl)
    rw [HDP.out] at HIS
    have hE : holdE A l ls x = 1 := by unfold holdE; rw [if_neg (fun q => hpl ⟨q.1.1, by rw [HLN.out, HLN2.out] at q; exact q.1.2.1, by rw [HLN2.out] at q; exact q.1.2.2⟩)]
    have hT : holdA A l ls x = A := by unfold holdA; rw [hE]; rfl
    rw [hE, hT]
    clear hE hT
    clear hpl HDP
    go_enter Tryz.func83, Tryz.ntmps83
    go_wp2_with fail
    refine (HIS.out).mono ?_
    rintro _ w1 ⟨rfl, ho⟩
    have HO := Lib.hid ho
    clear ho
    go_wp2_with fail
    go_ret
    exact ⟨rfl, HB.out.only HO.out (fun f => f), Only.p p HO.out⟩
end Go.Proofs.YtkbaafgaaiekpaaGreat.dbk
