/- PurserRates's walk. -/
import Derived.Test.YtghajamcjcflaaaRatX
import Derived.Test.YtghajamcjcflaaaRhyZ
import Derived.Test.YtghajamcjcflaaaPpCrc
import Derived.Deep.CutBlock
namespace Go.Proofs.Ytghajamcjcflaaa.tirw
open Go.RowKit mem tirm intm bigm bigw
set_option linter.unusedVariables false

theorem three7 {w : World} {a : Option Addr} {len cap : Nat} {ts : List Tr} (h : TiersR w a len cap ts) : (a = none ∧ len = 0 ∧ cap = 0 ∧ ts.take (min len 7) = []) ∨ (∃ x, a = some x ∧ ((len : Int) ≤ 7 ∧ (0 : Int) ≤ len ∧ (len : Int) ≤ cap ∧ ReadsT w (some x) len (ts.take (min len 7)) ∧ (ts.take (min len 7)).length = len ∨ (7 : Int) < len ∧ (0 : Int) ≤ len ∧ (7 : Int) ≤ cap ∧ (len : Int) ≤ cap ∧ ReadsT w (some x) 7 (ts.take (min len 7)) ∧ (ts.take (min len 7)).length = 7)) := by
  obtain ⟨hr, hlc, hcm, hnone⟩ := h
  have hR := hr.take (min len 7) (by omega)
  rcases a with _ | x
  · obtain rfl := hnone rfl
    obtain rfl : len = 0 := by omega
    exact .inl ⟨rfl, rfl, rfl, List.eq_nil_of_length_eq_zero hR.1⟩
  · refine .inr ⟨x, rfl, ?_⟩
    rcases Nat.lt_or_ge 7 len with g | g
    · right
      have e : min len 7 = 7 := by omega
      rw [e] at hR ⊢
      exact ⟨by omega, by omega, by omega, by omega, hR, hR.1⟩
    · left
      have e : min len 7 = len := by omega
      rw [e] at hR ⊢
      exact ⟨by omega, by omega, by omega, hR, hR.1⟩
def INV (i : Nat) (K C B a b c d : Int) : Prop := rhyz.Q4 a b c d ∧ a + b + c + d = K ∧ K ≤ 1000 * i ∧ 0 ≤ C ∧ C ≤ B ∧ B ≤ 1048576000 * i
theorem prates_facts {G1 M1 B1 G2 M2 B2 : Int} {s1 s2 : List Tr} {i : Nat} {K U : Int} (hp : pchk 24 6 18 G1 M1 B1 G2 M2 B2 s1 s2 = 0) (u0 : 0 ≤ U) (u1 : U < 1000) (k0 : 0 ≤ K) (k1 : K ≤ 24000) : raK 24 6 18 G1 M1 B1 G2 M2 B2 s1 s2 i K U = bk U B1 ∧ raP 24 6 18 G1 M1 B1 G2 M2 B2 s1 s2 i K U = K + bk U B1 ∧ raE 24 6 18 G1 M1 B1 G2 M2 B2 s1 s2 i K U = 0 ∧ worN 24 6 18 G1 M1 B1 G2 M2 B2 s1 s2 U = bk U B1 * dearP s1 s2 ∧ worE 24 6 18 G1 M1 B1 G2 M2 B2 s1 s2 U = 0 ∧ (LnsI (raL 24 6 18 G1 M1 B1 G2 M2 B2 s1 s2 i K U) ∧ (raL 24 6 18 G1 M1 B1 G2 M2 B2 s1 s2 i K U).length ≤ 1000 ∧ intOr (sumB (raL 24 6 18 G1 M1 B1 G2 M2 B2 s1 s2 i K U)) = bk U B1 ∧ isInt (sumB (raL 24 6 18 G1 M1 B1 G2 M2 B2 s1 s2 i K U)) = true ∧ 0 ≤ bk U B1 ∧ bk U B1 < 1000 ∧ (0 ≤ costB (raL 24 6 18 G1 M1 B1 G2 M2 B2 s1 s2 i K U) ∧ costB (raL 24 6 18 G1 M1 B1 G2 M2 B2 s1 s2 i K U) ≤ bk U B1 * dearP s1 s2) ∧ bk U B1 * dearP s1 s2 ≤ 1048576000) := by
  have hcan : CanP 24 6 18 G1 M1 B1 G2 M2 B2 s1 s2 U := ⟨u0, by omega, hp⟩
  obtain ⟨_, ⟨b1, b2⟩, d1, d2⟩ := can_facts hcan
  obtain ⟨e1, e2⟩ := bk_in u0 b1
  have hr : ¬ RatNo 24 6 18 G1 M1 B1 G2 M2 B2 s1 s2 i K U := fun e => e.elim (fun e => by omega) (fun e => e.elim (fun e => e hcan) (fun e => by unfold outB at e; omega))
  obtain ⟨_, _, _, r1, r2, r3, _⟩ := ra_side hr
  obtain ⟨_, _, f3, f4, f5, f6, f7⟩ := ra_facts hr
  have hw : worN 24 6 18 G1 M1 B1 G2 M2 B2 s1 s2 U = bk U B1 * dearP s1 s2 := by unfold worN; rw [if_pos hcan]
  have hz : worE 24 6 18 G1 M1 B1 G2 M2 B2 s1 s2 U = 0 := by unfold worE; rw [if_pos hcan]
  have hi : isInt (sumB (raL 24 6 18 G1 M1 B1 G2 M2 B2 s1 s2 i K U)) = true := (isInt_iff _).2 (by rw [f6]; omega)
  have ho : intOr (sumB (raL 24 6 18 G1 M1 B1 G2 M2 B2 s1 s2 i K U)) = bk U B1 := by unfold intOr; rw [if_pos hi, f6]
  have hm : bk U B1 * dearP s1 s2 ≤ 1000 * 1048576 := by
    have h1 : bk U B1 * dearP s1 s2 ≤ 1000 * dearP s1 s2 := Int.mul_le_mul_of_nonneg_right (by omega) d1
    omega
  exact ⟨r1, r2, r3, hw, hz, f5, f7, ho, hi, e1, by omega, ⟨f3, f4⟩, by omega⟩
set_option maxRecDepth 100000 in
set_option maxHeartbeats 20000000 in
theorem prates_any (G1 M1 B1 G2 M2 B2 : Int) (a1 a2 : Option Addr) (n1 n2 c1 c2 : Nat) (t1 t2 : List Tr) (au : Option Addr) (lu cu : Nat) (us : List Int) (w : World) (h1 : TiersR w a1 n1 c1 t1) (h2 : TiersR w a2 n2 c2 t2) (hu : IntsR w au lu cu us) :
    Calls Try.prog 6 #[.agg #[.int .i64 G1, .int .i64 M1, .int .i64 B1, .slice a1 n1 c1], .agg #[.int .i64 G2, .int .i64 M2, .int .i64 B2, .slice a2 n2 c2], .slice au lu cu] w fun e w' => e = .returned (.bool true) ∧ Only (fun _ => False) w w' := by
  obtain ⟨W0, hW0⟩ : ∃ W0, W0 = ((w.alloc (.cells #[.int .i64 G1, .int .i64 M1, .int .i64 B1, .slice a1 n1 c1] 35)).alloc (.cells #[.int .i64 G2, .int .i64 M2, .int .i64 B2, .slice a2 n2 c2] 35)).alloc (.cells #[.int .i64 24, .int .i64 6, .int .i64 18, .int .i64 G1, .int .i64 M1, .int .i64 B1, .slice a1 n1 c1, .int .i64 G2, .int .i64 M2, .int .i64 B2, .slice a2 n2 c2] 39) := ⟨_, rfl⟩
  have HO0 : Hid (Only (fun _ => False) w W0) := Lib.hid (by rw [hW0]; exact (((Only.refl _ w).alloc _).alloc _).alloc _)
  obtain ⟨pb, hpb⟩ : ∃ x, w.heap.size + 1 + 1 = x := ⟨_, rfl⟩
  have HPBS := Lib.hid hpb
  have HSZ : Hid (W0.heap.size = pb + 1) := Lib.hid (by rw [hW0, ← hpb]; simp)
  have HX0 : Hid (BoxV W0 w.heap.size [.int .i64 G1, .int .i64 M1, .int .i64 B1, .slice a1 n1 c1]) := Lib.hid (by rw [hW0]; exact (BoxV.new w [.int .i64 G1, .int .i64 M1, .int .i64 B1, .slice a1 n1 c1] _ _ rfl).only (((Only.refl (fun _ => False) _).alloc _).alloc _) (fun f => f))
  have HY0 : Hid (BoxV W0 (w.heap.size + 1) [.int .i64 G2, .int .i64 M2, .int .i64 B2, .slice a2 n2 c2]) := Lib.hid (by rw [hW0]; exact (BoxV.new _ [.int .i64 G2, .int .i64 M2, .int .i64 B2, .slice a2 n2 c2] _ _ (by simp)).only ((Only.refl (fun _ => False) _).alloc _) (fun f => f))
  have HP0 : Hid (BoxV W0 (pb) (plV 24 6 18 G1 M1 B1 G2 M2 B2 a1 a2 n1 n2 c1 c2)) := Lib.hid (by rw [hW0, ← hpb]; exact BoxV.new _ (plV 24 6 18 G1 M1 B1 G2 M2 B2 a1 a2 n1 n2 c1 c2) _ _ (by simp))
  have HT1 := Lib.hid h1
  have HT2 := Lib.hid h2
  have HU := Lib.hid hu
  have hcu : (lu : Int) ≤ 9223372036854775807 := by have h := hu.2; unfold maxLen at h; omega
  have HW0 := HO0
  clear h1 h2 hu
  have HS0 : ∃ s1, Hid (t1.take (min n1 7) = s1) := ⟨_, Lib.hid rfl⟩
  obtain ⟨s1, HS0⟩ := HS0
  have HS1 : ∃ s2, Hid (t2.take (min n2 7) = s2) := ⟨_, Lib.hid rfl⟩
  obtain ⟨s2, HS1⟩ := HS1
  go_enter Try.func6, Try.ntmps6
  go_upto_region 2 with fail
  rw [← hW0]
  try rw [hpb]
  clear hW0 hpb
  go_cut [] from 28 to 38 (fun wx => ∃ (a3 : Option Addr) (q3 : Nat), Hid (BoxV wx (pb) (plV 24 6 18 G1 M1 B1 G2 M2 B2 a3 a2 s1.length n2 q3 c2)) ∧ Hid (ReadsT wx a3 s1.length s1) ∧ Hid (∀ y, a3 = some y → W0.heap.size ≤ y.block) ∧ Hid (Only (fun q => q = pb) W0 wx))
  case first =>
    rcases three7 HT1.out with ⟨rfl, rfl, rfl, e1⟩ | ⟨x1, rfl, ⟨p1, p2, p3, p4, p5⟩ | ⟨p1, p2, p3, p6, p4, p5⟩⟩
    · have hs0 : s1 = [] := by rw [← HS0.out]; exact e1
      subst hs0
      have hm : min (0 : Int) 7 = 0 := by decide
      have hR : ReadsT W0 none 0 ([] : List Tr) := ReadsT.nil _ _
      have HOW : Hid (OwnT (W0.alloc (.cells #[] 91)) (.slice (some ⟨W0.heap.size, 0, none⟩) 0 0) []) := Lib.hid (World.ownsRow_lit (base := 0) (e := 91) (size := 2) W0 #[] 0 (by simp) (by decide) rfl)
      have HR1 := Lib.hid (hR.only (S := fun _ => False) ((Only.refl _ W0).alloc (.cells #[] 91)) (fun _ _ f => f))
      have b3 := ((HX0.out.only ((Only.refl (fun _ => False) W0).alloc (.cells #[] 91)) (fun f => f)) 3 _ rfl).1
      go_wp2_with (at_builtin; refine append_tiers rfl _ _ rfl _ [] rfl HOW.out _ _ _ ([] : List Tr) rfl HR1.out (by show 0 + _ ≤ _; omega) ?_)
      intro v2 w2 hown hgrow hne
      obtain ⟨a3, q3, rfl, hrd⟩ := own_readsT3 hown HR1.out.2.2.1 (by have := HR1.out.1; omega)
      have HNB : Hid (∀ y, a3 = some y → W0.heap.size ≤ y.block) := Lib.hid (by
        intro y hy
        rcases hne y.block (by rw [hy]; rfl) with e | e
        · have : W0.heap.size = y.block := by simpa [Value.ownBlock] using e
          omega
        · first
          | omega
          | (rw [size_alloc] at e; omega))
      have HGR : Hid (Only (fun _ => False) W0 w2) := Lib.hid (((Only.refl (fun _ => False) W0).alloc _).then (Only.of_grown hgrow) (fun q hq e => by
        have : W0.heap.size = q := by simpa [Value.ownBlock] using e
        omega))
      have HP2 := Lib.hid (HP0.out.only HGR.out (fun f => f))
      have HRD := Lib.hid hrd
      clear hown hgrow hne hrd HOW HR1 b3
      obtain ⟨⟨u0, u1, u2, u3, u4, u5, u6, u7, u8, u9, u10⟩, f0, f1, f2, f3, f4, f5, f6, f7, f8, f9, f10⟩ := HP2.out.all
      have HST : Hid (Only (fun q => q = pb) w2 (w2.setCell ⟨pb, 6, none⟩ (.slice a3 ([] : List Tr).length q3))) := Lib.hid (Only.set (fun q => q = pb) w2 (pb) 6 _ rfl)
      go_wp2_with fail
      go_meet
      exact ⟨a3, q3, Lib.hid (plan_set6 HP2.out a3 ([] : List Tr).length q3), Lib.hid (HRD.out.only HST.out (fun y hy e => by have := HNB.out y hy; have := HSZ.out; have e' : y.block = pb := e; omega)), HNB, Lib.hid ((HGR.out.mono (fun _ _ f => f.elim)).then HST.out (fun _ _ e => e))⟩
    · rw [HS0.out] at p4
      clear p5
      have hR := p4.only HW0.out (fun _ _ f => f)
      have HOW : Hid (OwnT (W0.alloc (.cells #[] 91)) (.slice (some ⟨W0.heap.size, 0, none⟩) 0 0) []) := Lib.hid (World.ownsRow_lit (base := 0) (e := 91) (size := 2) W0 #[] 0 (by simp) (by decide) rfl)
      have HR1 := Lib.hid (hR.only (S := fun _ => False) ((Only.refl _ W0).alloc (.cells #[] 91)) (fun _ _ f => f))
      have b3 := ((HX0.out.only ((Only.refl (fun _ => False) W0).alloc (.cells #[] 91)) (fun f => f)) 3 _ rfl).1
      go_wp2_with (at_builtin; refine append_tiers rfl _ _ rfl _ [] rfl HOW.out _ _ _ s1 rfl HR1.out (by show 0 + _ ≤ _; omega) ?_)
      intro v2 w2 hown hgrow hne
      obtain ⟨a3, q3, rfl, hrd⟩ := own_readsT3 hown HR1.out.2.2.1 (by have := HR1.out.1; omega)
      have HNB : Hid (∀ y, a3 = some y → W0.heap.size ≤ y.block) := Lib.hid (by
        intro y hy
        rcases hne y.block (by rw [hy]; rfl) with e | e
        · have : W0.heap.size = y.block := by simpa [Value.ownBlock] using e
          omega
        · first
          | omega
          | (rw [size_alloc] at e; omega))
      have HGR : Hid (Only (fun _ => False) W0 w2) := Lib.hid (((Only.refl (fun _ => False) W0).alloc _).then (Only.of_grown hgrow) (fun q hq e => by
        have : W0.heap.size = q := by simpa [Value.ownBlock] using e
        omega))
      have HP2 := Lib.hid (HP0.out.only HGR.out (fun f => f))
      have HRD := Lib.hid hrd
      clear hown hgrow hne hrd HOW HR1 b3
      obtain ⟨⟨u0, u1, u2, u3, u4, u5, u6, u7, u8, u9, u10⟩, f0, f1, f2, f3, f4, f5, f6, f7, f8, f9, f10⟩ := HP2.out.all
      have HST : Hid (Only (fun q => q = pb) w2 (w2.setCell ⟨pb, 6, none⟩ (.slice a3 s1.length q3))) := Lib.hid (Only.set (fun q => q = pb) w2 (pb) 6 _ rfl)
      go_wp2_with fail
      go_meet
      exact ⟨a3, q3, Lib.hid (plan_set6 HP2.out a3 s1.length q3), Lib.hid (HRD.out.only HST.out (fun y hy e => by have := HNB.out y hy; have := HSZ.out; have e' : y.block = pb := e; omega)), HNB, Lib.hid ((HGR.out.mono (fun _ _ f => f.elim)).then HST.out (fun _ _ e => e))⟩
    · rw [HS0.out] at p4
      clear p5
      have hR := p4.only HW0.out (fun _ _ f => f)
      have HOW : Hid (OwnT (W0.alloc (.cells #[] 91)) (.slice (some ⟨W0.heap.size, 0, none⟩) 0 0) []) := Lib.hid (World.ownsRow_lit (base := 0) (e := 91) (size := 2) W0 #[] 0 (by simp) (by decide) rfl)
      have HR1 := Lib.hid (hR.only (S := fun _ => False) ((Only.refl _ W0).alloc (.cells #[] 91)) (fun _ _ f => f))
      have b3 := ((HX0.out.only ((Only.refl (fun _ => False) W0).alloc (.cells #[] 91)) (fun f => f)) 3 _ rfl).1
      go_wp2_with (at_builtin; refine append_tiers rfl _ _ rfl _ [] rfl HOW.out _ _ _ s1 rfl HR1.out (by show 0 + _ ≤ _; omega) ?_)
      intro v2 w2 hown hgrow hne
      obtain ⟨a3, q3, rfl, hrd⟩ := own_readsT3 hown HR1.out.2.2.1 (by have := HR1.out.1; omega)
      have HNB : Hid (∀ y, a3 = some y → W0.heap.size ≤ y.block) := Lib.hid (by
        intro y hy
        rcases hne y.block (by rw [hy]; rfl) with e | e
        · have : W0.heap.size = y.block := by simpa [Value.ownBlock] using e
          omega
        · first
          | omega
          | (rw [size_alloc] at e; omega))
      have HGR : Hid (Only (fun _ => False) W0 w2) := Lib.hid (((Only.refl (fun _ => False) W0).alloc _).then (Only.of_grown hgrow) (fun q hq e => by
        have : W0.heap.size = q := by simpa [Value.ownBlock] using e
        omega))
      have HP2 := Lib.hid (HP0.out.only HGR.out (fun f => f))
      have HRD := Lib.hid hrd
      clear hown hgrow hne hrd HOW HR1 b3
      obtain ⟨⟨u0, u1, u2, u3, u4, u5, u6, u7, u8, u9, u10⟩, f0, f1, f2, f3, f4, f5, f6, f7, f8, f9, f10⟩ := HP2.out.all
      have HST : Hid (Only (fun q => q = pb) w2 (w2.setCell ⟨pb, 6, none⟩ (.slice a3 s1.length q3))) := Lib.hid (Only.set (fun q => q = pb) w2 (pb) 6 _ rfl)
      go_wp2_with fail
      go_meet
      exact ⟨a3, q3, Lib.hid (plan_set6 HP2.out a3 s1.length q3), Lib.hid (HRD.out.only HST.out (fun y hy e => by have := HNB.out y hy; have := HSZ.out; have e' : y.block = pb := e; omega)), HNB, Lib.hid ((HGR.out.mono (fun _ _ f => f.elim)).then HST.out (fun _ _ e => e))⟩
  case rest =>
    obtain ⟨a3, q3, HP1, HR3, HB3, HO1⟩ := hcut
    rename World => W1
    have HY1 := Lib.hid (HY0.out.only HO1.out (fun e => by have e' : w.heap.size + 1 = pb := e; have := HPBS.out; omega))
    have HW1 : Hid (Only (fun _ => False) w W1) := Lib.hid (HO0.out.then HO1.out (fun q hq e => by have e' : q = pb := e; have := HPBS.out; omega))
    have HZ1 := Lib.hid HO1.out.size
    go_upto_region 3 with fail
    go_cut [] from 39 to 49 (fun wx => ∃ (a4 : Option Addr) (q4 : Nat), Hid (BoxV wx (pb) (plV 24 6 18 G1 M1 B1 G2 M2 B2 a3 a4 s1.length s2.length q3 q4)) ∧ Hid (ReadsT wx a4 s2.length s2) ∧ Hid (∀ y, a4 = some y → W1.heap.size ≤ y.block) ∧ Hid (Only (fun q => q = pb) W1 wx))
    case first =>
      have HSZ : Hid (W1.heap.size ≥ pb + 1) := Lib.hid (by have := HZ1.out; have := HSZ.out; omega)
      rcases three7 HT2.out with ⟨rfl, rfl, rfl, e1⟩ | ⟨x1, rfl, ⟨p1, p2, p3, p4, p5⟩ | ⟨p1, p2, p3, p6, p4, p5⟩⟩
      · have hs0 : s2 = [] := by rw [← HS1.out]; exact e1
        subst hs0
        have hm : min (0 : Int) 7 = 0 := by decide
        have hR : ReadsT W1 none 0 ([] : List Tr) := ReadsT.nil _ _
        have HOW : Hid (OwnT (W1.alloc (.cells #[] 91)) (.slice (some ⟨W1.heap.size, 0, none⟩) 0 0) []) := Lib.hid (World.ownsRow_lit (base := 0) (e := 91) (size := 2) W1 #[] 0 (by simp) (by decide) rfl)
        have HR1 := Lib.hid (hR.only (S := fun _ => False) ((Only.refl _ W1).alloc (.cells #[] 91)) (fun _ _ f => f))
        have b3 := ((HY1.out.only ((Only.refl (fun _ => False) W1).alloc (.cells #[] 91)) (fun f => f)) 3 _ rfl).1
        go_wp2_with (at_builtin; refine append_tiers rfl _ _ rfl _ [] rfl HOW.out _ _ _ ([] : List Tr) rfl HR1.out (by show 0 + _ ≤ _; omega) ?_)
        intro v2 w2 hown hgrow hne
        obtain ⟨a4, q4, rfl, hrd⟩ := own_readsT3 hown HR1.out.2.2.1 (by have := HR1.out.1; omega)
        have HNB : Hid (∀ y, a4 = some y → W1.heap.size ≤ y.block) := Lib.hid (by
          intro y hy
          rcases hne y.block (by rw [hy]; rfl) with e | e
          · have : W1.heap.size = y.block := by simpa [Value.ownBlock] using e
            omega
          · first
            | omega
            | (rw [size_alloc] at e; omega))
        have HGR : Hid (Only (fun _ => False) W1 w2) := Lib.hid (((Only.refl (fun _ => False) W1).alloc _).then (Only.of_grown hgrow) (fun q hq e => by
          have : W1.heap.size = q := by simpa [Value.ownBlock] using e
          omega))
        have HP2 := Lib.hid (HP1.out.only HGR.out (fun f => f))
        have HRD := Lib.hid hrd
        clear hown hgrow hne hrd HOW HR1 b3
        obtain ⟨⟨u0, u1, u2, u3, u4, u5, u6, u7, u8, u9, u10⟩, f0, f1, f2, f3, f4, f5, f6, f7, f8, f9, f10⟩ := HP2.out.all
        have HST : Hid (Only (fun q => q = pb) w2 (w2.setCell ⟨pb, 10, none⟩ (.slice a4 ([] : List Tr).length q4))) := Lib.hid (Only.set (fun q => q = pb) w2 (pb) 10 _ rfl)
        go_wp2_with fail
        go_meet
        exact ⟨a4, q4, Lib.hid (plan_set10 HP2.out a4 ([] : List Tr).length q4), Lib.hid (HRD.out.only HST.out (fun y hy e => by have := HNB.out y hy; have := HSZ.out; have e' : y.block = pb := e; omega)), HNB, Lib.hid ((HGR.out.mono (fun _ _ f => f.elim)).then HST.out (fun _ _ e => e))⟩
      · rw [HS1.out] at p4
        clear p5
        have hR := p4.only HW1.out (fun _ _ f => f)
        have HOW : Hid (OwnT (W1.alloc (.cells #[] 91)) (.slice (some ⟨W1.heap.size, 0, none⟩) 0 0) []) := Lib.hid (World.ownsRow_lit (base := 0) (e := 91) (size := 2) W1 #[] 0 (by simp) (by decide) rfl)
        have HR1 := Lib.hid (hR.only (S := fun _ => False) ((Only.refl _ W1).alloc (.cells #[] 91)) (fun _ _ f => f))
        have b3 := ((HY1.out.only ((Only.refl (fun _ => False) W1).alloc (.cells #[] 91)) (fun f => f)) 3 _ rfl).1
        go_wp2_with (at_builtin; refine append_tiers rfl _ _ rfl _ [] rfl HOW.out _ _ _ s2 rfl HR1.out (by show 0 + _ ≤ _; omega) ?_)
        intro v2 w2 hown hgrow hne
        obtain ⟨a4, q4, rfl, hrd⟩ := own_readsT3 hown HR1.out.2.2.1 (by have := HR1.out.1; omega)
        have HNB : Hid (∀ y, a4 = some y → W1.heap.size ≤ y.block) := Lib.hid (by
          intro y hy
          rcases hne y.block (by rw [hy]; rfl) with e | e
          · have : W1.heap.size = y.block := by simpa [Value.ownBlock] using e
            omega
          · first
            | omega
            | (rw [size_alloc] at e; omega))
        have HGR : Hid (Only (fun _ => False) W1 w2) := Lib.hid (((Only.refl (fun _ => False) W1).alloc _).then (Only.of_grown hgrow) (fun q hq e => by
          have : W1.heap.size = q := by simpa [Value.ownBlock] using e
          omega))
        have HP2 := Lib.hid (HP1.out.only HGR.out (fun f => f))
        have HRD := Lib.hid hrd
        clear hown hgrow hne hrd HOW HR1 b3
        obtain ⟨⟨u0, u1, u2, u3, u4, u5, u6, u7, u8, u9, u10⟩, f0, f1, f2, f3, f4, f5, f6, f7, f8, f9, f10⟩ := HP2.out.all
        have HST : Hid (Only (fun q => q = pb) w2 (w2.setCell ⟨pb, 10, none⟩ (.slice a4 s2.length q4))) := Lib.hid (Only.set (fun q => q = pb) w2 (pb) 10 _ rfl)
        go_wp2_with fail
        go_meet
        exact ⟨a4, q4, Lib.hid (plan_set10 HP2.out a4 s2.length q4), Lib.hid (HRD.out.only HST.out (fun y hy e => by have := HNB.out y hy; have := HSZ.out; have e' : y.block = pb := e; omega)), HNB, Lib.hid ((HGR.out.mono (fun _ _ f => f.elim)).then HST.out (fun _ _ e => e))⟩
      · rw [HS1.out] at p4
        clear p5
        have hR := p4.only HW1.out (fun _ _ f => f)
        have HOW : Hid (OwnT (W1.alloc (.cells #[] 91)) (.slice (some ⟨W1.heap.size, 0, none⟩) 0 0) []) := Lib.hid (World.ownsRow_lit (base := 0) (e := 91) (size := 2) W1 #[] 0 (by simp) (by decide) rfl)
        have HR1 := Lib.hid (hR.only (S := fun _ => False) ((Only.refl _ W1).alloc (.cells #[] 91)) (fun _ _ f => f))
        have b3 := ((HY1.out.only ((Only.refl (fun _ => False) W1).alloc (.cells #[] 91)) (fun f => f)) 3 _ rfl).1
        go_wp2_with (at_builtin; refine append_tiers rfl _ _ rfl _ [] rfl HOW.out _ _ _ s2 rfl HR1.out (by show 0 + _ ≤ _; omega) ?_)
        intro v2 w2 hown hgrow hne
        obtain ⟨a4, q4, rfl, hrd⟩ := own_readsT3 hown HR1.out.2.2.1 (by have := HR1.out.1; omega)
        have HNB : Hid (∀ y, a4 = some y → W1.heap.size ≤ y.block) := Lib.hid (by
          intro y hy
          rcases hne y.block (by rw [hy]; rfl) with e | e
          · have : W1.heap.size = y.block := by simpa [Value.ownBlock] using e
            omega
          · first
            | omega
            | (rw [size_alloc] at e; omega))
        have HGR : Hid (Only (fun _ => False) W1 w2) := Lib.hid (((Only.refl (fun _ => False) W1).alloc _).then (Only.of_grown hgrow) (fun q hq e => by
          have : W1.heap.size = q := by simpa [Value.ownBlock] using e
          omega))
        have HP2 := Lib.hid (HP1.out.only HGR.out (fun f => f))
        have HRD := Lib.hid hrd
        clear hown hgrow hne hrd HOW HR1 b3
        obtain ⟨⟨u0, u1, u2, u3, u4, u5, u6, u7, u8, u9, u10⟩, f0, f1, f2, f3, f4, f5, f6, f7, f8, f9, f10⟩ := HP2.out.all
        have HST : Hid (Only (fun q => q = pb) w2 (w2.setCell ⟨pb, 10, none⟩ (.slice a4 s2.length q4))) := Lib.hid (Only.set (fun q => q = pb) w2 (pb) 10 _ rfl)
        go_wp2_with fail
        go_meet
        exact ⟨a4, q4, Lib.hid (plan_set10 HP2.out a4 s2.length q4), Lib.hid (HRD.out.only HST.out (fun y hy e => by have := HNB.out y hy; have := HSZ.out; have e' : y.block = pb := e; omega)), HNB, Lib.hid ((HGR.out.mono (fun _ _ f => f.elim)).then HST.out (fun _ _ e => e))⟩
    case rest =>
      obtain ⟨a4, q4, HP2, HR4, HB4, HO2⟩ := hcut
      rename World => W2
      have HW2 : Hid (Only (fun _ => False) w W2) := Lib.hid (HW1.out.then HO2.out (fun q hq e => by have e' : q = pb := e; have := HPBS.out; omega))
      have HR5 := Lib.hid (HR3.out.only HO2.out (fun y hy e => by have := HB3.out y hy; have := HSZ.out; have e' : y.block = pb := e; omega))
      clear HX0 HY0 HY1 HP0 HP1 HR3 HB3 HB4 HO1 HO2 HZ1 HT1 HT2 HS0 HS1
      have HCP := Lib.hid (fun w' (ho : Only (fun _ => False) W2 w') => cplan_any 24 6 18 G1 M1 B1 G2 M2 B2 a3 a4 s1.length s2.length q3 q4 s1 s2 w' (HR5.out.only ho (fun _ _ f => f)) (HR4.out.only ho (fun _ _ f => f)))
      have HRT := Lib.hid (fun (n : Int) (hn : n ≤ 9223372036854775807) p u w' (ho : Only (fun _ => False) W2 w') => rate_any 24 6 18 G1 M1 B1 G2 M2 B2 a3 a4 s1.length s2.length q3 q4 s1 s2 n p u w' (HR5.out.only ho (fun _ _ f => f)) (HR4.out.only ho (fun _ _ f => f)) hn)
      have HWO := Lib.hid (fun u w' (ho : Only (fun _ => False) W2 w') => worst_any 24 6 18 G1 M1 B1 G2 M2 B2 a3 a4 s1.length s2.length q3 q4 s1 s2 u w' (HR5.out.only ho (fun _ _ f => f)) (HR4.out.only ho (fun _ _ f => f)))
      have HFA := Lib.hid (fun (i : Nat) (K U : Int) (hp : pchk 24 6 18 G1 M1 B1 G2 M2 B2 s1 s2 = 0) (u0 : 0 ≤ U) (u1 : U < 1000) (k0 : 0 ≤ K) (k1 : K ≤ 24000) => prates_facts (s1 := s1) (s2 := s2) (i := i) hp u0 u1 k0 k1)
      go_wp2_with fail
      refine (ppc.stands_any _).mono ?_
      rintro _ w3 ⟨rfl, k3⟩
      have K3 := Lib.hid k3
      clear k3
      obtain ⟨z0, z1, z2, z3, z4, z5, z6, z7, z8, z9, z10⟩ := (HP2.out.only K3.out (fun f => f)).all.1
      go_wp2_with fail
      refine (HCP.out _ K3.out).mono ?_
      rintro _ w4 ⟨rfl, k4⟩
      have K4 := Lib.hid (K3.out.trans k4)
      clear k4 HCP z0 z1 z2 z3 z4 z5 z6 z7 z8 z9 z10
      obtain ⟨pc, hpc⟩ : ∃ x, pchk 24 6 18 G1 M1 B1 G2 M2 B2 s1 s2 = x := ⟨_, rfl⟩
      rw [hpc]
      by_cases hz : pc = 0
      rotate_left
      · have hb : (pc != 0) = true := by simpa using hz
        clear hz hpc
        go_wp2_with fail
        refine (ppc.stands_any _).mono ?_
        rintro _ w5 ⟨rfl, k5⟩
        have K5 := Lib.hid (HW2.out.trans (K4.out.trans k5))
        clear k5
        go_wp2_with fail
        go_ret
        exact ⟨rfl, K5.out⟩
      subst hz
      have HPC := Lib.hid hpc
      clear hpc
      go_upto_region 7 with fail
      obtain ⟨W5, hW5⟩ : ∃ x, x = w4.alloc (.cells #[.int .i64 0, .int .i64 0, .int .i64 0, .int .i64 0] 63) := ⟨_, rfl⟩
      have HB5 : Hid (BoxV W5 w4.heap.size [.int .i64 0, .int .i64 0, .int .i64 0, .int .i64 0]) := Lib.hid (by rw [hW5]; exact BoxV.new _ [.int .i64 0, .int .i64 0, .int .i64 0, .int .i64 0] _ _ rfl)
      have HO5 : Hid (Only (fun _ => False) w4 W5) := Lib.hid (by rw [hW5]; exact (Only.refl _ _).alloc _)
      obtain ⟨rb, hrb⟩ : ∃ x, w4.heap.size = x := ⟨_, rfl⟩
      go_upto_region 8 with fail
      rw [← hW5]
      rw [hrb] at HB5
      try rw [hrb]
      have HRB : Hid (w4.heap.size ≤ rb) := Lib.hid (by omega)
      clear hW5 hrb
      go_wp2_with fail
      go_loopw [8, 9, 10, 11, 13] (fun pv cv bv dv iv wr => ∃ (i : Nat) (K C B a b c d : Int), i ≤ lu ∧ i ≤ 24 ∧ iv = .int .i64 i ∧ pv = .int .i64 K ∧ cv = .int .i64 C ∧ bv = .int .i64 K ∧ dv = .int .i64 B ∧ Hid (INV i K C B a b c d) ∧ Hid (BoxV wr rb [.int .i64 a, .int .i64 b, .int .i64 c, .int .i64 d]) ∧ Hid (Only (fun _ => False) w4 wr)) (fun _ _ _ _ iv _ => lu - (intOf iv).toNat)
      case atStart => exact ⟨0, 0, 0, 0, 0, 0, 0, 0, by omega, by omega, rfl, rfl, rfl, rfl, rfl, Lib.hid (by unfold INV rhyz.Q4 rhyz.Q1; omega), HB5, HO5⟩
      case round =>
        obtain ⟨i, K, C, B, a, b, c, d, hil, hi24, rfl, rfl, rfl, rfl, rfl, HINV, HBR, HO⟩ := hrel
        by_cases hg : i < lu ∧ i < 24
        · obtain ⟨h8, h24⟩ := hg
          obtain ⟨ub, uo, rfl, huc⟩ := HU.out.1.2.2.2.resolve_left (by omega)
          have hcell := (HW2.out.trans (K4.out.trans HO.out)).cell' (huc i h8) (fun f => f)
          obtain ⟨hq4, hsum, hK, hC0, hCB, hB⟩ := HINV.out
          generalize us.getD i 0 = x at *
          have hk0 : 0 ≤ K := by obtain ⟨⟨_, _⟩, ⟨_, _⟩, ⟨_, _⟩, ⟨_, _⟩⟩ := hq4; omega
          have hk1 : K ≤ 24000 := by omega
          obtain ⟨U, hU⟩ : ∃ y, IntKind.u64.wrap x % 1000 = y := ⟨_, rfl⟩
          have hu0 : 0 ≤ U := by rw [← hU]; exact Int.emod_nonneg _ (by omega)
          have hu1 : U < 1000 := by rw [← hU]; exact Int.emod_lt_of_pos _ (by omega)
          have e4 : (IntKind.u64.wrap x).tmod 1000 = U := by rw [Int.tmod_eq_emod_of_nonneg (by rw [u64_wrapT]; omega)]; exact hU
          have e5 : IntKind.i64.wrap U = U := by rw [wrap_i64]; omega
          have i0' : (0 : Int) ≤ i := by omega
          have il' : (i : Int) < lu := by omega
          have i24' : (i : Int) < 24 := by omega
          have HQ := Lib.hid hq4
          have HARI := Lib.hid (And.intro hsum (And.intro hK (And.intro hC0 (And.intro hCB hB))))
          clear hq4 hsum hK hC0 hCB hB hU huc HINV
          obtain ⟨z0, z1, z2, z3, z4, z5, z6, z7, z8, z9, z10⟩ := ((HP2.out.only K4.out (fun f => f)).only HO.out (fun f => f)).all.1
          have HFF := Lib.hid (HFA.out i K U HPC.out hu0 hu1 hk0 hk1)
          have hRR := HRT.out i (by omega) K U wr (K4.out.trans HO.out)
          have HWW := Lib.hid (fun w' ho => HWO.out U w' ho)
          rw [HFF.out.1, HFF.out.2.1, HFF.out.2.2.1] at hRR
          rw [HFF.out.2.2.2.1, HFF.out.2.2.2.2.1] at HWW
          obtain ⟨L, hL⟩ : ∃ y, raL 24 6 18 G1 M1 B1 G2 M2 B2 s1 s2 i K U = y := ⟨_, rfl⟩
          obtain ⟨N, hN⟩ : ∃ y, bk U B1 = y := ⟨_, rfl⟩
          obtain ⟨wn, hwn⟩ : ∃ y, bk U B1 * dearP s1 s2 = y := ⟨_, rfl⟩
          have hff := HFF.out.2.2.2.2.2
          rw [hwn] at HWW hff
          rw [hL] at hff hRR
          rw [hN] at hff hRR
          clear HFF hL hN hwn
          obtain ⟨cb, hcb⟩ : ∃ y, costB L = y := ⟨_, rfl⟩
          rw [hcb] at hff hRR
          clear hcb
          obtain ⟨f1, f2, f3, f4, f5, f6, f7, f8⟩ := hff
          have HLN := Lib.hid (And.intro f1 (And.intro f2 (And.intro f3 f4)))
          have HRR := Lib.hid hRR
          clear hRR f1 f2 f3 f4
          go_wp2_with fail
          refine HRR.out.mono ?_
          rintro _ w5 ⟨al, cl, rfl, hrd, k5⟩
          obtain ⟨w6, hw6⟩ : ∃ y, y = w5.alloc (.cells #[.slice al L.length cl, .int .i64 N, .int .i64 cb, .int .i64 (K + N)] 66) := ⟨_, rfl⟩
          have HX6 : Hid (BoxV w6 w5.heap.size [.slice al L.length cl, .int .i64 N, .int .i64 cb, .int .i64 (K + N)]) := Lib.hid (by rw [hw6]; exact BoxV.new _ [.slice al L.length cl, .int .i64 N, .int .i64 cb, .int .i64 (K + N)] _ _ rfl)
          have K6 : Hid (Only (fun _ => False) wr w6) := Lib.hid (by rw [hw6]; exact k5.alloc _)
          have HL6 : Hid (ReadsN w6 al L.length L) := Lib.hid (by rw [hw6]; exact hrd.only ((Only.refl (fun _ => False) _).alloc _) (fun _ _ f => f))
          have hrbw : rb < wr.heap.size := World.block_lt_of_cell? wr _ (HBR.out 0 _ rfl).1
          have hxs := k5.size
          obtain ⟨x, hx⟩ : ∃ y, w5.heap.size = y := ⟨_, rfl⟩
          have hxr : rb < x := by omega
          clear hxs hrbw
          clear hrd k5 z0 z1 z2 z3 z4 z5 z6 z7 z8 z9 z10 HRR
          obtain ⟨z0, z1, z2, z3, z4, z5, z6, z7, z8, z9, z10⟩ := ((HP2.out.only K4.out (fun f => f)).only (HO.out.trans K6.out) (fun f => f)).all.1
          go_upto_region 13 with fail
          rw [← hw6]
          rw [hx] at HX6
          try rw [hx]
          clear hw6 hx
          go_wp2_with fail
          refine (HWW.out _ (K4.out.trans (HO.out.trans K6.out))).mono ?_
          rintro _ w7 ⟨rfl, k7⟩
          have K7 := Lib.hid (K6.out.trans k7)
          have HX7 := Lib.hid (HX6.out.only k7 (fun f => f))
          have HL7 := Lib.hid (HL6.out.only k7 (fun _ _ f => f))
          clear k7 z0 z1 z2 z3 z4 z5 z6 z7 z8 z9 z10 HWW HL6 HX6
          have y0 := (HX7.out 0 _ rfl).1
          have hBL := blocks_any al L.length cl L w7 HL7.out HLN.out.1 (by have := HLN.out.2.1; omega)
          unfold BlocksAt at hBL
          rw [HLN.out.2.2.1, HLN.out.2.2.2] at hBL
          go_wp2_with fail
          refine hBL.mono ?_
          rintro _ w8 ⟨rfl, k8⟩
          have K8 := Lib.hid (K7.out.trans k8)
          have HX8 := Lib.hid (HX7.out.only k8 (fun f => f))
          clear k8 y0 hBL HX7 HL7
          go_wp2_with fail
          refine (rhyz.quarter_yes i 24 i0' (by omega) (by omega) (by omega) _).mono ?_
          rintro _ w8' ⟨rfl, rfl⟩
          obtain ⟨q, hq⟩ : ∃ y, (i : Int) % 24 * 4 / 24 = y := ⟨_, rfl⟩
          have hq6 : (i : Int) / 6 = q := by omega
          have hqt : (i : Int).tdiv 6 = q := by rw [Int.tdiv_eq_ediv_of_nonneg i0']; exact hq6
          have hqb : 0 ≤ q ∧ q < 4 := by omega
          have hqw : IntKind.i64.wrap q = q := by rw [wrap_i64]; omega
          have hqe : (q != q) = false := by simp
          rw [hq]
          clear hq hq6
          have HBR8 := Lib.hid (HBR.out.only K8.out (fun f => f))
          have r0 := (HBR8.out 0 _ rfl).1; have r1 := (HBR8.out 1 _ rfl).1; have r2 := (HBR8.out 2 _ rfl).1; have r3 := (HBR8.out 3 _ rfl).1
          have y1 := (HX8.out 1 _ rfl).1
          have hAD := rhyz.add_u a b c d N q HQ.out f5 (by have := HARI.out; omega) hqb w8
          go_wp2_with fail
          refine hAD.mono ?_
          rintro _ w9 ⟨a', b', c', d', rfl, ⟨hq4', hs'⟩, k9⟩
          obtain ⟨w10, hw10⟩ : ∃ y, y = w9.alloc (.cells #[.int .i64 a', .int .i64 b', .int .i64 c', .int .i64 d'] 63) := ⟨_, rfl⟩
          have HS10 : Hid (BoxV w10 w9.heap.size [.int .i64 a', .int .i64 b', .int .i64 c', .int .i64 d']) := Lib.hid (by rw [hw10]; exact BoxV.new _ [.int .i64 a', .int .i64 b', .int .i64 c', .int .i64 d'] _ _ rfl)
          have kk : Only (fun _ => False) w8 w10 := by rw [hw10]; exact k9.alloc _
          have K10 := Lib.hid (K8.out.trans kk)
          have HX10 := Lib.hid (HX8.out.only kk (fun f => f))
          have HBR10 := Lib.hid (HBR8.out.only kk (fun f => f))
          have hrz : rb < w9.heap.size := World.block_lt_of_cell? w9 _ ((HBR8.out.only k9 (fun f => f)) 0 _ rfl).1
          have hxz : x < w9.heap.size := World.block_lt_of_cell? w9 _ ((HX8.out.only k9 (fun f => f)) 0 _ rfl).1
          obtain ⟨y, hy⟩ : ∃ y, w9.heap.size = y := ⟨_, rfl⟩
          have HI2 := Lib.hid (And.intro hq4' hs')
          clear kk k9 r0 r1 r2 r3 y1 HX8 HBR8 hq4' hs' hAD
          go_upto_region 17 with fail
          rw [← hw10]
          rw [hy] at HS10 hrz hxz
          try rw [hy]
          clear hw10 hy
          have y1 := (HX10.out 1 _ rfl).1
          have y2 := (HX10.out 2 _ rfl).1
          have hnn : (N != N) = false := by simp
          have hcw : ¬ wn < cb := by omega
          go_upto_region 19 with fail
          clear y1 y2
          obtain ⟨wx, hwx⟩ : ∃ y, y = w10 := ⟨_, rfl⟩
          rw [← hwx] at HX10 HS10 HBR10 K10 ⊢
          clear hwx
          have HS19 : Hid (∀ w', Only (fun q => q = rb) wx w' → Only (fun q => q = rb) wx w' ∧ w'.cell? ⟨x, 0, none⟩ = some (.slice al L.length cl) ∧ w'.cell? ⟨x, 1, none⟩ = some (.int .i64 N) ∧ w'.cell? ⟨x, 2, none⟩ = some (.int .i64 cb) ∧ w'.cell? ⟨x, 3, none⟩ = some (.int .i64 (K + N)) ∧ w'.cell? ⟨y, 0, none⟩ = some (.int .i64 a') ∧ w'.cell? ⟨y, 1, none⟩ = some (.int .i64 b') ∧ w'.cell? ⟨y, 2, none⟩ = some (.int .i64 c') ∧ w'.cell? ⟨y, 3, none⟩ = some (.int .i64 d')) := Lib.hid (fun w' ho => by
            have hX := HX10.out.only ho (fun e => by have e' : x = rb := e; omega)
            have hY := HS10.out.only ho (fun e => by have e' : y = rb := e; omega)
            exact ⟨ho, (hX 0 _ rfl).1, (hX 1 _ rfl).1, (hX 2 _ rfl).1, (hX 3 _ rfl).1, (hY 0 _ rfl).1, (hY 1 _ rfl).1, (hY 2 _ rfl).1, (hY 3 _ rfl).1⟩)
          have hb9 := HBR10.out.only ((Only.refl (fun _ => False) wx).drew) (fun f => f)
          have g0 := (hb9 0 _ rfl).1; have g1 := (hb9 1 _ rfl).1; have g2 := (hb9 2 _ rfl).1; have g3 := (hb9 3 _ rfl).1
          have y0 := (hb9 0 _ rfl).2; have y1 := (hb9 1 _ rfl).2; have y2 := (hb9 2 _ rfl).2; have y3 := (hb9 3 _ rfl).2
          obtain ⟨W9, hp9, hk9, hW9⟩ : ∃ W, BoxV W rb [.int .i64 a', .int .i64 b', .int .i64 c', .int .i64 d'] ∧ Only (fun q => q = rb) wx W ∧ W = (((wx.drew.setCell ⟨rb, 0, none⟩ (.int .i64 a')).setCell ⟨rb, 1, none⟩ (.int .i64 b')).setCell ⟨rb, 2, none⟩ (.int .i64 c')).setCell ⟨rb, 3, none⟩ (.int .i64 d') := ⟨_, hb9.put [.int .i64 a', .int .i64 b', .int .i64 c', .int .i64 d'] rfl, puts_only rb [.int .i64 a', .int .i64 b', .int .i64 c', .int .i64 d'] 0 wx wx.drew ((Only.refl (fun q => q = rb) wx).drew) (.inl rfl), rfl⟩
          have HBR9 := Lib.hid hp9
          have KW9 := Lib.hid hk9
          have HOF : Hid (Only (fun _ => False) w4 W9) := Lib.hid ((HO.out.trans K10.out).then hk9 (fun q hq e => by have e' : q = rb := e; have := HRB.out; omega))
          have v1 : IntKind.i64.wrap (C + cb) = C + cb := by have := HARI.out; rw [wrap_i64]; omega
          have v2 : wrap64 (C + cb) = C + cb := by have := HARI.out; rw [wrap64_eq]; omega
          have v3 : IntKind.i64.wrap (K + N) = K + N := by rw [wrap_i64]; omega
          have v4 : wrap64 (K + N) = K + N := by rw [wrap64_eq]; omega
          have v5 : IntKind.i64.wrap (B + wn) = B + wn := by have := HARI.out; rw [wrap_i64]; omega
          have v6 : wrap64 (B + wn) = B + wn := by have := HARI.out; rw [wrap64_eq]; omega
          have HINV2 : Hid (INV (i + 1) (K + N) (C + cb) (B + wn) a' b' c' d') := Lib.hid (by
            have := HARI.out
            have h2 := HI2.out
            unfold INV
            exact ⟨h2.1, by omega, by omega, by omega, by omega, by omega⟩)
          clear hb9 hp9 hk9
          refine wp_region_noPanic ?_
          refine wp_region_held_drew (S := (fun w' => Only (fun q => q = rb) wx w' ∧ w'.cell? ⟨x, 0, none⟩ = some (.slice al L.length cl) ∧ w'.cell? ⟨x, 1, none⟩ = some (.int .i64 N) ∧ w'.cell? ⟨x, 2, none⟩ = some (.int .i64 cb) ∧ w'.cell? ⟨x, 3, none⟩ = some (.int .i64 (K + N)) ∧ w'.cell? ⟨y, 0, none⟩ = some (.int .i64 a') ∧ w'.cell? ⟨y, 1, none⟩ = some (.int .i64 b') ∧ w'.cell? ⟨y, 2, none⟩ = some (.int .i64 c') ∧ w'.cell? ⟨y, 3, none⟩ = some (.int .i64 d'))) (by kernel_rfl) (HS19.out _ (Only.refl (fun q => q = rb) _).drew) (fun hHeld => ?_)
          generalize wx.drew = wd at *
          refine wpAnyH_take (i := 0) (v := ?_) rfl (by kernel_rfl) (by kernel_rfl) (by kernel_rfl) (fun _ _ _ h => h) (Or.inl ⟨by rfl, ?_⟩) (by assumption) ?_
          rotate_left 1
          · intro w' hSw
            try dsimp only at hSw
            go_simp
            try with_reducible rfl
          try simp only [List.getElem_toArray, List.getElem_cons_zero, Act.put, List.setIfInBounds_toArray, List.set_cons_zero, List.set_cons_succ]
          refine wpAnyH_take (i := 1) (v := ?_) rfl (by kernel_rfl) (by kernel_rfl) (by kernel_rfl) (fun _ _ _ h => h) (Or.inl ⟨by rfl, ?_⟩) (by assumption) ?_
          rotate_left 1
          · intro w' hSw
            try dsimp only at hSw
            go_simp
            try with_reducible rfl
          try simp only [List.getElem_toArray, List.getElem_cons_zero, List.getElem_cons_succ, Act.put, List.setIfInBounds_toArray, List.set_cons_zero, List.set_cons_succ]
          refine wpAnyH_take (i := 2) (v := ?_) rfl (by kernel_rfl) (by kernel_rfl) (by kernel_rfl) (fun _ _ _ h => h) (Or.inl ⟨by rfl, ?_⟩) (by assumption) ?_
          rotate_left 1
          · intro w' hSw
            try dsimp only at hSw
            go_simp
            try with_reducible rfl
          try simp only [List.getElem_toArray, List.getElem_cons_zero, List.getElem_cons_succ, Act.put, List.setIfInBounds_toArray, List.set_cons_zero, List.set_cons_succ]
          refine wpAnyH_take (i := 3) (v := ?_) rfl (by kernel_rfl) (by kernel_rfl) (by kernel_rfl) (fun _ _ _ h => h) (Or.inl ⟨by rfl, ?_⟩) (by assumption) ?_
          rotate_left 1
          · intro w' hSw
            try dsimp only at hSw
            go_simp
            try with_reducible rfl
          try simp only [List.getElem_toArray, List.getElem_cons_zero, List.getElem_cons_succ, Act.put, List.setIfInBounds_toArray, List.set_cons_zero, List.set_cons_succ]
          refine wpAnyH_take (i := 4) (v := ?_) rfl (by kernel_rfl) (by kernel_rfl) (by kernel_rfl) (fun _ _ _ h => h) (Or.inl ⟨by rfl, ?_⟩) (by assumption) ?_
          rotate_left 1
          · intro w' hSw
            try dsimp only at hSw
            go_simp
            try with_reducible rfl
          try simp only [List.getElem_toArray, List.getElem_cons_zero, List.getElem_cons_succ, Act.put, List.setIfInBounds_toArray, List.set_cons_zero, List.set_cons_succ]
          refine wpAnyH_take (i := 5) (v := ?_) rfl (by kernel_rfl) (by kernel_rfl) (by kernel_rfl) (fun _ _ _ h => h) (Or.inl ⟨by rfl, ?_⟩) (by assumption) ?_
          rotate_left 1
          · intro w' hSw
            try dsimp only at hSw
            go_simp
            try with_reducible rfl
          try simp only [List.getElem_toArray, List.getElem_cons_zero, List.getElem_cons_succ, Act.put, List.setIfInBounds_toArray, List.set_cons_zero, List.set_cons_succ]
          refine wpAnyH_take (i := 6) (v := ?_) rfl (by kernel_rfl) (by kernel_rfl) (by kernel_rfl) (fun _ _ _ h => h) (Or.inl ⟨by rfl, ?_⟩) (by assumption) ?_
          rotate_left 1
          · intro w' hSw
            try dsimp only at hSw
            go_simp
            try with_reducible rfl
          try simp only [List.getElem_toArray, List.getElem_cons_zero, List.getElem_cons_succ, Act.put, List.setIfInBounds_toArray, List.set_cons_zero, List.set_cons_succ]
          refine wpAnyH_take (i := 7) (v := ?_) rfl (by kernel_rfl) (by kernel_rfl) (by kernel_rfl) (fun _ _ _ h => h) (Or.inl ⟨by rfl, ?_⟩) (by assumption) ?_
          rotate_left 1
          · intro w' hSw
            try dsimp only at hSw
            go_simp
            try with_reducible rfl
          try simp only [List.getElem_toArray, List.getElem_cons_zero, List.getElem_cons_succ, Act.put, List.setIfInBounds_toArray, List.set_cons_zero, List.set_cons_succ]
          refine wpAnyH_take (i := 8) (v := ?_) rfl (by kernel_rfl) (by kernel_rfl) (by kernel_rfl) (fun _ _ _ h => h) (Or.inl ⟨by rfl, ?_⟩) (by assumption) ?_
          rotate_left 1
          · intro w' hSw
            try dsimp only at hSw
            go_simp
            try with_reducible rfl
          try simp only [List.getElem_toArray, List.getElem_cons_zero, List.getElem_cons_succ, Act.put, List.setIfInBounds_toArray, List.set_cons_zero, List.set_cons_succ]
          refine wpAnyH_take (i := 9) (v := ?_) rfl (by kernel_rfl) (by kernel_rfl) (by kernel_rfl) (fun _ _ _ h => h) (Or.inl ⟨by rfl, ?_⟩) (by assumption) ?_
          rotate_left 1
          · intro w' hSw
            try dsimp only at hSw
            go_simp
            try with_reducible rfl
          try simp only [List.getElem_toArray, List.getElem_cons_zero, List.getElem_cons_succ, Act.put, List.setIfInBounds_toArray, List.set_cons_zero, List.set_cons_succ]
          refine wpAnyH_take (i := 10) (v := ?_) rfl (by kernel_rfl) (by kernel_rfl) (by kernel_rfl) (fun _ _ _ h => h) (Or.inl ⟨by rfl, ?_⟩) (by assumption) ?_
          rotate_left 1
          · intro w' hSw
            try dsimp only at hSw
            go_simp
            try with_reducible rfl
          try simp only [List.getElem_toArray, List.getElem_cons_zero, List.getElem_cons_succ, Act.put, List.setIfInBounds_toArray, List.set_cons_zero, List.set_cons_succ]
          refine wpAnyH_take (i := 11) (v := ?_) rfl (by kernel_rfl) (by kernel_rfl) (by kernel_rfl) (fun _ _ _ h => h) (Or.inl ⟨by rfl, ?_⟩) (by assumption) ?_
          rotate_left 1
          · intro w' hSw
            try dsimp only at hSw
            go_simp
            try with_reducible rfl
          try simp only [List.getElem_toArray, List.getElem_cons_zero, List.getElem_cons_succ, Act.put, List.setIfInBounds_toArray, List.set_cons_zero, List.set_cons_succ]
          refine wpAnyH_take (i := 12) (v := ?_) rfl (by kernel_rfl) (by kernel_rfl) (by kernel_rfl) (fun _ _ _ h => h) (Or.inl ⟨by rfl, ?_⟩) (by assumption) ?_
          rotate_left 1
          · intro w' hSw
            try dsimp only at hSw
            go_simp
            try with_reducible rfl
          try simp only [List.getElem_toArray, List.getElem_cons_zero, List.getElem_cons_succ, Act.put, List.setIfInBounds_toArray, List.set_cons_zero, List.set_cons_succ]
          refine wpAnyH_take (i := 13) (v := ?_) rfl (by kernel_rfl) (by kernel_rfl) (by kernel_rfl) (fun _ _ _ h => h) (Or.inl ⟨by rfl, ?_⟩) (by assumption) ?_
          rotate_left 1
          · intro w' hSw
            try dsimp only at hSw
            go_simp
            try with_reducible rfl
          try simp only [List.getElem_toArray, List.getElem_cons_zero, List.getElem_cons_succ, Act.put, List.setIfInBounds_toArray, List.set_cons_zero, List.set_cons_succ]
          refine wpAnyH_take (i := 14) (v := ?_) rfl (by kernel_rfl) (by kernel_rfl) (by kernel_rfl) (fun _ _ _ h => h) (Or.inl ⟨by rfl, ?_⟩) (by assumption) ?_
          rotate_left 1
          · intro w' hSw
            try dsimp only at hSw
            go_simp
            try with_reducible rfl
          try simp only [List.getElem_toArray, List.getElem_cons_zero, List.getElem_cons_succ, Act.put, List.setIfInBounds_toArray, List.set_cons_zero, List.set_cons_succ]
          refine wpAnyH_take (i := 15) (v := ?_) rfl (by kernel_rfl) (by kernel_rfl) (by kernel_rfl) (fun _ _ _ h => h) (Or.inl ⟨by rfl, ?_⟩) (by assumption) ?_
          rotate_left 1
          · intro w' hSw
            try dsimp only at hSw
            go_simp
            try with_reducible rfl
          try simp only [List.getElem_toArray, List.getElem_cons_zero, List.getElem_cons_succ, Act.put, List.setIfInBounds_toArray, List.set_cons_zero, List.set_cons_succ]
          refine wpAnyH_take (i := 16) (v := ?_) rfl (by kernel_rfl) (by kernel_rfl) (by kernel_rfl) (fun _ _ _ h => h) (Or.inl ⟨by rfl, ?_⟩) (by assumption) ?_
          rotate_left 1
          · intro w' hSw
            try dsimp only at hSw
            go_simp
            try with_reducible rfl
          try simp only [List.getElem_toArray, List.getElem_cons_zero, List.getElem_cons_succ, Act.put, List.setIfInBounds_toArray, List.set_cons_zero, List.set_cons_succ]
          refine wpAnyH_take (i := 17) (v := ?_) rfl (by kernel_rfl) (by kernel_rfl) (by kernel_rfl) (fun _ _ _ h => h) (Or.inl ⟨by rfl, ?_⟩) (by assumption) ?_
          rotate_left 1
          · intro w' hSw
            try dsimp only at hSw
            go_simp
            try with_reducible rfl
          try simp only [List.getElem_toArray, List.getElem_cons_zero, List.getElem_cons_succ, Act.put, List.setIfInBounds_toArray, List.set_cons_zero, List.set_cons_succ]
          refine wpAnyH_ready (rs := [18]) (by kernel_rfl) (by simp) ?_
          refine AllReadyH.cons rfl (fun K hK => ?_) AllReadyH.nil
          try simp only [List.getElem_toArray, List.getElem_cons_zero, List.getElem_cons_succ]
          go_simp
          rw [← hW9]
          clear hW9 y0 y1 y2 y3 g0 g1 g2 g3
          refine hK.out _ _ (HS19.out _ KW9.out) (fun hHeld1 => ?_)
          clear hK K
          try simp only [List.getElem_toArray, List.getElem_cons_zero, List.getElem_cons_succ, Act.put, List.setIfInBounds_toArray, List.set_cons_zero, List.set_cons_succ]
          refine wpAnyH_done (by kernel_rfl) ?_ _
          refine NoPanic.normal ?_
          go_wp2_with fail
          go_roundw
          case rel => exact ⟨i + 1, K + N, C + cb, B + wn, a', b', c', d', by omega, by omega, by go_num, rfl, rfl, rfl, rfl, HINV2, HBR9, HOF⟩
          case measure => simp [intOf]; omega
        · by_cases h8 : i < lu
          · obtain rfl : i = 24 := by omega
            have il' : (24 : Int) < lu := by omega
            obtain ⟨hq4, hsum, hK, hC0, hCB, hB⟩ := HINV.out
            have r0 := (HBR.out 0 _ rfl).1; have r1 := (HBR.out 1 _ rfl).1; have r2 := (HBR.out 2 _ rfl).1; have r3 := (HBR.out 3 _ rfl).1
            have hkk : (K == K) = true := by simp
            have HQ := Lib.hid hq4
            have HSM := Lib.hid hsum
            clear hq4 hsum hK HINV
            go_wp2_with fail
            refine (rhyz.total_yes a b c d HQ.out _).mono ?_
            rintro _ w5 ⟨rfl, k5⟩
            have KE := Lib.hid (HW2.out.trans (K4.out.trans (HO.out.trans k5)))
            rw [HSM.out]
            clear k5 r0 r1 r2 r3
            go_wp2_with fail
            go_ret
            exact ⟨rfl, KE.out⟩
          · obtain rfl : i = lu := by omega
            obtain ⟨hq4, hsum, hK, hC0, hCB, hB⟩ := HINV.out
            have r0 := (HBR.out 0 _ rfl).1; have r1 := (HBR.out 1 _ rfl).1; have r2 := (HBR.out 2 _ rfl).1; have r3 := (HBR.out 3 _ rfl).1
            have hkk : (K == K) = true := by simp
            have HQ := Lib.hid hq4
            have HSM := Lib.hid hsum
            clear hq4 hsum hK HINV
            go_wp2_with fail
            refine (rhyz.total_yes a b c d HQ.out _).mono ?_
            rintro _ w5 ⟨rfl, k5⟩
            have KE := Lib.hid (HW2.out.trans (K4.out.trans (HO.out.trans k5)))
            rw [HSM.out]
            clear k5 r0 r1 r2 r3
            go_wp2_with fail
            go_ret
            exact ⟨rfl, KE.out⟩
theorem prates_walk (G1 M1 B1 : Int) (a1 : Option Addr) (n1 c1 : Nat) (t1 : List Tr) (G2 M2 B2 : Int) (a2 : Option Addr) (n2 c2 : Nat) (t2 : List Tr) (au : Option Addr) (lu cu : Nat) (w : World) (h1 : TiersR w a1 n1 c1 t1) (h2 : TiersR w a2 n2 c2 t2) (hu : ∃ us, IntsR w au lu cu us) :
    Calls Try.prog 6 #[.agg #[.int .i64 G1, .int .i64 M1, .int .i64 B1, .slice a1 n1 c1], .agg #[.int .i64 G2, .int .i64 M2, .int .i64 B2, .slice a2 n2 c2], .slice au lu cu] w fun e w' => e = .returned (.bool true) ∧ Below w.heap.size w w' :=
  hu.elim fun us hu => (prates_any G1 M1 B1 G2 M2 B2 a1 a2 n1 n2 c1 c2 t1 t2 au lu cu us w h1 h2 hu).mono fun _ _ ⟨h1, h2⟩ => ⟨h1, h2.none⟩
end Go.Proofs.Ytghajamcjcflaaa.tirw
