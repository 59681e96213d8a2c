/- Books: Room. -/
import Derived.Test.YtfpeimihlihphaaFuH
import Derived.Lib.MinMax
namespace Go.Proofs.Ytfpeimihlihphaa.fnd
open Go.RowKit mem tre
set_option linter.unusedVariables false

def stepR (r : Int) (a : Ac) (m : Int) : Int := if 0 ≤ m then min (min r (left a)) (max 0 (m - a.u - a.h)) else min r (left a)
def roomR (A : List Ac) : List Int → List Int → Int → Int
  | n :: l, m :: ls, r => roomR A l ls (stepR r (nd A n) m)
  | _, _, r => r
def RoomOk (l ls : List Int) : Prop := PathOk l ∧ ls.length = l.length ∧ LOk ls ls.length
instance (l ls : List Int) : Decidable (RoomOk l ls) := inferInstanceAs (Decidable (_ ∧ _ ∧ _))
def roomN (A : List Ac) (l ls : List Int) : Int := if RoomOk l ls then roomR A l ls 9007199254740992 else 0
def roomE (l ls : List Int) : Int := if RoomOk l ls then 0 else 1
set_option maxRecDepth 100000 in
set_option maxHeartbeats 4000000 in
theorem room_any (p : Nat) (A : List Ac) (a : Option Addr) (n c : Nat) (l : List Int) (a2 : Option Addr) (m c2 : Nat) (ls : List Int) (w : World) (h : BkAt w p A) (hA : Bok A) (hr : ReadsI w a n l) (hc : n ≤ c) (hr2 : ReadsI w a2 m ls) : Calls Try.prog 29 #[.pointer (some ⟨p, 0, none⟩), .slice a n c, .slice a2 m c2] w fun e w' => e = .returned (.tuple #[.int .i64 (roomN A l ls), .int .i64 (roomE l ls)]) ∧ Only (fun _ => False) w w' := by
  have HB := Lib.hid h
  have HA := Lib.hid hA
  have HR := Lib.hid hr
  have HR2 := Lib.hid hr2
  have hm := hr.2.1
  have hm2 := hr2.2.1
  unfold maxLen at hm hm2
  have HLN := Lib.hid hr.1
  have HLN2 := Lib.hid hr2.1
  have HIS := Lib.hid (ispath_any a n c l w hr hc)
  have HLI0 : Hid (∀ wy, Only (fun _ => False) w wy → _) := Lib.hid (fun wy ho => arelim_any a2 m c2 ls a n c wy (hr2.only ho (fun _ _ f => f)) hr.2.1)
  clear h hA hr hr2
  by_cases hp : PathOk l
  · have HDP : Hid (decide (PathOk l) = true) := Lib.hid (decide_eq_true hp)
    by_cases hlm : m = n ∧ LOk ls m
    · have HDL : Hid (decide (m = n ∧ LOk ls m) = true) := Lib.hid (decide_eq_true hlm)
      obtain ⟨rfl, hlo⟩ := hlm
      have hok : RoomOk l ls := ⟨hp, by rw [HLN.out, HLN2.out], by rw [HLN2.out]; exact hlo⟩
      have hE : roomE l ls = 0 := by unfold roomE; rw [if_pos hok]
      rw [hE]
      have HT0 : Hid (roomN A l ls = roomR A (l.drop 0) (ls.drop 0) 9007199254740992) := Lib.hid (by unfold roomN; rw [if_pos hok]; rfl)
      have HPK : Hid (∀ i, i < m → ∃ k : Nat, l.getD i 0 = k ∧ 1 ≤ k ∧ k < 33) := Lib.hid (fun i hi => by obtain ⟨k, q1, q2, q3, _⟩ := path_toNat hp i (by rw [HLN.out]; exact hi); exact ⟨k, q1, q2, q3⟩)
      have HDR : Hid (∀ i r, i < m → roomR A (l.drop i) (ls.drop i) r = roomR A (l.drop (i + 1)) (ls.drop (i + 1)) (stepR r (nd A (l.getD i 0)) (ls.getD i 0))) := Lib.hid (fun i r hi => by rw [drop_at l i (by rw [HLN.out]; exact hi), drop_at ls i (by rw [HLN2.out]; exact hi)]; rfl)
      have HND : Hid (∀ i, Parts (nd A i)) := Lib.hid (fun i => (HA.out.ok _).1)
      have HBN : Hid (∀ r, roomR A (l.drop m) (ls.drop m) r = r) := Lib.hid (fun r => by rw [List.drop_eq_nil_of_le (by rw [HLN.out]; exact Nat.le_refl _)]; rfl)
      have HLI : Hid (∀ i, i < m → LimIn (ls.getD i 0)) := Lib.hid hlo
      clear hok hE
      generalize roomN A l ls = RN at *
      rw [HDP.out] at HIS
      rw [HDL.out] at HLI0
      clear hp HDP HDL hlo
      go_enter Try.func29, Try.ntmps29
      go_wp2_with fail
      refine (HIS.out).mono ?_
      rintro _ w1 ⟨rfl, ho⟩
      have HO := Lib.hid ho
      clear ho
      go_wp2_with fail
      refine (HLI0.out _ HO.out).mono ?_
      rintro _ w2 ⟨rfl, ho⟩
      replace HO := Lib.hid (HO.out.trans ho)
      clear ho HLI0
      have HO1 := Lib.hid HO.out
      have HR1 := Lib.hid (HR.out.only HO.out (fun _ _ f => f))
      have HR21 := Lib.hid (HR2.out.only HO.out (fun _ _ f => f))
      have HB1 := Lib.hid (HB.out.only HO.out (fun f => f))
      clear HO HR HR2 HB
      rename World => w1
      go_wp2_with fail
      go_loopw [8, 27] (fun rv iv wr => ∃ (i : Nat) (r : Int), i ≤ m ∧ rv = .int .i64 r ∧ iv = .int .i64 (i : Int) ∧ Hid (RN = roomR A (l.drop i) (ls.drop i) r) ∧ Hid (Only (fun _ => False) w1 wr)) (fun _ iv _ => m - (intOf iv).toNat)
      case atStart => exact ⟨0, _, by omega, rfl, rfl, HT0, Lib.hid (Only.refl _ _)⟩
      case round =>
        obtain ⟨i, r, hi, rfl, rfl, HD, HO⟩ := hrel
        rename World => wr
        by_cases h8 : i < m
        · obtain ⟨b, off, rfl, hcell⟩ := HR1.out.2.2.2.resolve_left (by omega)
          obtain ⟨b2, off2, rfl, hcell2⟩ := HR21.out.2.2.2.resolve_left (by omega)
          have cx := HO.out.cell' (hcell i h8) (fun f => f)
          have cm := HO.out.cell' (hcell2 i h8) (fun f => f)
          have hi0 : (0 : Int) ≤ i := by omega
          have hi1 : (i : Int) < m := by omega
          obtain ⟨k, hk, k1, k2⟩ := HPK.out i h8
          have hdd := HDR.out i r h8
          have hpt := HND.out (l.getD i 0)
          obtain ⟨l1, l2⟩ := HLI.out i h8
          rw [hk, nd_nat] at hdd hpt
          rw [hk] at cx
          have hk2 : (k : Int) < 33 := by omega
          have hk0 : (0 : Int) ≤ k := by omega
          obtain ⟨c0, c1, c2, c3, c4⟩ := (HB1.out.only HO.out (fun f => f)).1 k k2
          have HAV : Hid (∀ w1, _) := Lib.hid (fun w1 => avail_any (A.getD k zA) w1 hpt)
          unfold stepR at hdd
          generalize A.getD k zA = ac at *
          obtain ⟨at_, ac, ae, au, ah⟩ := ac
          unfold aggA at HAV
          dsimp only at c0 c1 c2 c3 c4 hdd HAV
          obtain ⟨-, -, -, ⟨u1, u2⟩, ⟨g1, g2⟩⟩ := hpt
          dsimp only at u1 u2 g1 g2
          generalize ls.getD i 0 = lim at *
          have q1 : IntKind.i64.wrap (lim - au) = lim - au := w64 _ (by omega) (by omega)
          have q2 : IntKind.i64.wrap (lim - au - ah) = lim - au - ah := w64 _ (by omega) (by omega)
          generalize left ⟨at_, ac, ae, au, ah⟩ = lf at *
          have HDD := Lib.hid (HD.out.trans hdd)
          clear hcell hcell2 hdd hk u1 u2 g1 g2
          obtain ⟨e0, e1, e2, e3, e4, ho9⟩ := node_box 63 (.int .i64 at_) (.int .i64 ac) (.int .i64 ae) (.int .i64 au) (.int .i64 ah) (Only.refl (fun _ => False) wr)
          obtain ⟨w8, hw8⟩ : ∃ zz, zz = wr.alloc (.cells #[.int .i64 at_, .int .i64 ac, .int .i64 ae, .int .i64 au, .int .i64 ah] 63) := ⟨_, rfl⟩
          obtain ⟨g, hg⟩ : ∃ zz, zz = wr.heap.size := ⟨_, rfl⟩
          simp only [← hw8, ← hg] at e0 e1 e2 e3 e4 ho9
          go_upto_region 8 with fail
          simp only [← hw8, ← hg]
          clear hw8 hg
          go_wp2_with fail
          refine (HAV.out _).mono ?_
          rintro _ w9 ⟨rfl, ho⟩
          have HO9 := Lib.hid (HO.out.trans (ho9.trans ho))
          replace e3 := ho.cell' e3 (fun f => f)
          replace e4 := ho.cell' e4 (fun f => f)
          replace cm := (ho9.trans ho).cell' cm (fun f => f)
          clear ho ho9 HAV e0 e1 e2 cx c0 c1 c2 c3 c4
          by_cases hm0 : 0 ≤ lim
          · have hbm : (lim != -1) = true := by simp; omega
            have HD2 : Hid (RN = roomR A (l.drop (i + 1)) (ls.drop (i + 1)) (min r (min lf (max 0 (lim - au - ah))))) := Lib.hid (by rw [HDD.out, if_pos (show 0 ≤ lim from by omega), Int.min_assoc])
            go_upto_region 10 with fail
            refine wp_region_noPanic ?_
            refine late.region (fun w' => ∀ q, w'.cell? q = w9.cell? q) (fun j => [].contains j) (by kernel_rfl) (fun q => by simp) (fun hHeld => ?_)
            refine late.take (i := 0) [12, 13] (v := ?_) rfl (by kernel_rfl) (by kernel_rfl) (by kernel_rfl) (by kernel_rfl) (fun _ _ _ h => h) (Or.inl ⟨by rfl, ?_⟩) (by assumption) ?_
            rotate_left 1
            · intro w' hSw
              try dsimp only at hSw
              go_simp
              try with_reducible rfl
            try simp only [List.getElem_toArray, List.getElem_cons_zero, Act.put, List.setIfInBounds_toArray, List.set_cons_zero, List.set_cons_succ]
            refine late.take (i := 1) [3, 4, 7, 10, 11, 12, 13] (v := ?_) rfl (by kernel_rfl) (by kernel_rfl) (by kernel_rfl) (by kernel_rfl) (fun _ _ _ h => h) (Or.inl ⟨by rfl, ?_⟩) (by assumption) ?_
            rotate_left 1
            · intro w' hSw
              try dsimp only at hSw
              go_simp
              try with_reducible rfl
            try simp only [List.getElem_toArray, List.getElem_cons_zero, List.getElem_cons_succ, Act.put, List.setIfInBounds_toArray, List.set_cons_zero, List.set_cons_succ]
            refine late.take (i := 2) [3, 4, 7, 10, 11, 12, 13] (v := ?_) rfl (by kernel_rfl) (by kernel_rfl) (by kernel_rfl) (by kernel_rfl) (fun _ _ _ h => h) (Or.inl ⟨by rfl, ?_⟩) (by assumption) ?_
            rotate_left 1
            · intro w' hSw
              try dsimp only at hSw
              go_simp
              try with_reducible rfl
            try simp only [List.getElem_toArray, List.getElem_cons_zero, List.getElem_cons_succ, Act.put, List.setIfInBounds_toArray, List.set_cons_zero, List.set_cons_succ]
            refine late.take (i := 3) [4, 7, 10, 11, 12, 13] (v := ?_) rfl (by kernel_rfl) (by kernel_rfl) (by kernel_rfl) (by kernel_rfl) (fun _ _ _ h => h) (Or.inl ⟨by rfl, ?_⟩) (by assumption) ?_
            rotate_left 1
            · intro w' hSw
              try dsimp only at hSw
              go_simp
              try with_reducible rfl
            try simp only [List.getElem_toArray, List.getElem_cons_zero, List.getElem_cons_succ, Act.put, List.setIfInBounds_toArray, List.set_cons_zero, List.set_cons_succ]
            refine late.take (i := 4) [7, 10, 11, 12, 13] (v := ?_) rfl (by kernel_rfl) (by kernel_rfl) (by kernel_rfl) (by kernel_rfl) (fun _ _ _ h => h) (Or.inl ⟨by rfl, ?_⟩) (by assumption) ?_
            rotate_left 1
            · intro w' hSw
              try dsimp only at hSw
              go_simp
              try with_reducible rfl
            try simp only [List.getElem_toArray, List.getElem_cons_zero, List.getElem_cons_succ, Act.put, List.setIfInBounds_toArray, List.set_cons_zero, List.set_cons_succ]
            refine late.take (i := 5) [6, 7, 10, 11, 12, 13] (v := ?_) rfl (by kernel_rfl) (by kernel_rfl) (by kernel_rfl) (by kernel_rfl) (fun _ _ _ h => h) (Or.inl ⟨by rfl, ?_⟩) (by assumption) ?_
            rotate_left 1
            · intro w' hSw
              try dsimp only at hSw
              go_simp
              try with_reducible rfl
            try simp only [List.getElem_toArray, List.getElem_cons_zero, List.getElem_cons_succ, Act.put, List.setIfInBounds_toArray, List.set_cons_zero, List.set_cons_succ]
            refine late.take (i := 6) [7, 10, 11, 12, 13] (v := ?_) rfl (by kernel_rfl) (by kernel_rfl) (by kernel_rfl) (by kernel_rfl) (fun _ _ _ h => h) (Or.inl ⟨by rfl, ?_⟩) (by assumption) ?_
            rotate_left 1
            · intro w' hSw
              try dsimp only at hSw
              go_simp
              try with_reducible rfl
            try simp only [List.getElem_toArray, List.getElem_cons_zero, List.getElem_cons_succ, Act.put, List.setIfInBounds_toArray, List.set_cons_zero, List.set_cons_succ]
            refine late.take (i := 7) [10, 11, 12, 13] (v := ?_) rfl (by kernel_rfl) (by kernel_rfl) (by kernel_rfl) (by kernel_rfl) (fun _ _ _ h => h) (Or.inl ⟨by rfl, ?_⟩) (by assumption) ?_
            rotate_left 1
            · intro w' hSw
              try dsimp only at hSw
              go_simp
              try with_reducible rfl
            try simp only [List.getElem_toArray, List.getElem_cons_zero, List.getElem_cons_succ, Act.put, List.setIfInBounds_toArray, List.set_cons_zero, List.set_cons_succ]
            refine late.take (i := 8) [9, 10, 11, 12, 13] (v := ?_) rfl (by kernel_rfl) (by kernel_rfl) (by kernel_rfl) (by kernel_rfl) (fun _ _ _ h => h) (Or.inl ⟨by rfl, ?_⟩) (by assumption) ?_
            rotate_left 1
            · intro w' hSw
              try dsimp only at hSw
              go_simp
              try with_reducible rfl
            try simp only [List.getElem_toArray, List.getElem_cons_zero, List.getElem_cons_succ, Act.put, List.setIfInBounds_toArray, List.set_cons_zero, List.set_cons_succ]
            refine late.take (i := 9) [10, 11, 12, 13] (v := ?_) rfl (by kernel_rfl) (by kernel_rfl) (by kernel_rfl) (by kernel_rfl) (fun _ _ _ h => h) (Or.inl ⟨by rfl, ?_⟩) (by assumption) ?_
            rotate_left 1
            · intro w' hSw
              try dsimp only at hSw
              go_simp
              try with_reducible rfl
            try simp only [List.getElem_toArray, List.getElem_cons_zero, List.getElem_cons_succ, Act.put, List.setIfInBounds_toArray, List.set_cons_zero, List.set_cons_succ]
            refine late.take (i := 10) [11, 12, 13] (v := ?_) rfl (by kernel_rfl) (by kernel_rfl) (by kernel_rfl) (by kernel_rfl) (fun _ _ _ h => h) (Or.inl ⟨by rfl, ?_⟩) (by assumption) ?_
            rotate_left 1
            · intro w' hSw
              try dsimp only at hSw
              go_simp
              try with_reducible rfl
            try simp only [List.getElem_toArray, List.getElem_cons_zero, List.getElem_cons_succ, Act.put, List.setIfInBounds_toArray, List.set_cons_zero, List.set_cons_succ]
            refine late.take (i := 11) [12, 13] (v := ?_) rfl (by kernel_rfl) (by kernel_rfl) (by kernel_rfl) (by kernel_rfl) (fun _ _ _ h => h) (Or.inl ⟨by rfl, ?_⟩) (by assumption) ?_
            rotate_left 1
            · intro w' hSw
              try dsimp only at hSw
              go_simp
              try with_reducible rfl
            try simp only [List.getElem_toArray, List.getElem_cons_zero, List.getElem_cons_succ, Act.put, List.setIfInBounds_toArray, List.set_cons_zero, List.set_cons_succ]
            refine late.take (i := 12) [13] (v := ?_) rfl (by kernel_rfl) (by kernel_rfl) (by kernel_rfl) (by kernel_rfl) (fun _ _ _ h => h) (Or.inl ⟨by rfl, ?_⟩) (by assumption) ?_
            rotate_left 1
            · intro w' hSw
              try dsimp only at hSw
              go_simp
              try with_reducible rfl
            try simp only [List.getElem_toArray, List.getElem_cons_zero, List.getElem_cons_succ, Act.put, List.setIfInBounds_toArray, List.set_cons_zero, List.set_cons_succ]
            refine late.take (i := 13) [] (v := ?_) rfl (by kernel_rfl) (by kernel_rfl) (by kernel_rfl) (by kernel_rfl) (fun _ _ _ h => h) (Or.inl ⟨by rfl, ?_⟩) (by assumption) ?_
            rotate_left 1
            · intro w' hSw
              try dsimp only at hSw
              go_simp
              try with_reducible rfl
            try simp only [List.getElem_toArray, List.getElem_cons_zero, List.getElem_cons_succ, Act.put, List.setIfInBounds_toArray, List.set_cons_zero, List.set_cons_succ]
            refine late.done (by kernel_rfl) ?_ _
            refine NoPanic.normal ?_
            have HOD := Lib.hid HO9.out.drew
            go_wp2_with fail
            go_roundw
            case rel => exact ⟨i + 1, _, by omega, rfl, by go_num, HD2, HOD⟩
            case measure => simp [intOf]; omega
          · have HD2 : Hid (RN = roomR A (l.drop (i + 1)) (ls.drop (i + 1)) (min r lf)) := Lib.hid (by rw [HDD.out, if_neg (show ¬ 0 ≤ lim from by omega)])
            obtain rfl : lim = -1 := by omega
            go_wp2_with fail
            go_roundw
            case rel => exact ⟨i + 1, _, by omega, rfl, by go_num, HD2, HO9⟩
            case measure => simp [intOf]; omega
        · obtain rfl : i = m := by omega
          have HF : Hid (RN = r) := Lib.hid (by rw [HD.out, HBN.out])
          have HE9 := Lib.hid (HO1.out.trans HO.out)
          go_wp2_with fail
          go_ret2
          exact ⟨by rw [HF.out]; rfl, HE9.out⟩
    · have HDL : Hid (decide (m = n ∧ LOk ls m) = false) := Lib.hid (decide_eq_false hlm)
      rw [HDP.out] at HIS
      rw [HDL.out] at HLI0
      have hno : ¬ RoomOk l ls := fun q => hlm ⟨by have := q.2.1; rw [HLN.out, HLN2.out] at this; exact this, by have := q.2.2; rw [HLN2.out] at this; exact this⟩
      have hE : roomE l ls = 1 := by unfold roomE; rw [if_neg hno]
      have hT : roomN A l ls = 0 := by unfold roomN; rw [if_neg hno]
      rw [hE, hT]
      clear hE hT hno
      clear hp HDP HDL hlm
      go_enter Try.func29, Try.ntmps29
      go_wp2_with fail
      refine (HIS.out).mono ?_
      rintro _ w1 ⟨rfl, ho⟩
      have HO := Lib.hid ho
      clear ho
      go_wp2_with fail
      refine (HLI0.out _ HO.out).mono ?_
      rintro _ w2 ⟨rfl, ho⟩
      replace HO := Lib.hid (HO.out.trans ho)
      clear ho HLI0
      go_wp2_with fail
      go_ret2
      exact ⟨rfl, HO.out⟩
  · have HDP : Hid (decide (PathOk l) = false) := Lib.hid (decide_eq_false hp)
    rw [HDP.out] at HIS
    have hno : ¬ RoomOk l ls := fun q => hp q.1
    have hE : roomE l ls = 1 := by unfold roomE; rw [if_neg hno]
    have hT : roomN A l ls = 0 := by unfold roomN; rw [if_neg hno]
    rw [hE, hT]
    clear hE hT hno
    clear hp HDP HLI0
    go_enter Try.func29, Try.ntmps29
    go_wp2_with fail
    refine (HIS.out).mono ?_
    rintro _ w1 ⟨rfl, ho⟩
    have HO := Lib.hid ho
    clear ho
    go_wp2_with fail
    go_ret2
    exact ⟨rfl, HO.out⟩
set_option maxRecDepth 100000 in
set_option maxHeartbeats 4000000 in
theorem rroom_any (p : Nat) (A : List Ac) (a : Option Addr) (n c : Nat) (l : List Int) (a2 : Option Addr) (m c2 : Nat) (ls : List Int) (w : World) (h : BkAt w p A) (hA : Bok A) (hr : ReadsI w a n l) (hc : n ≤ c) (hr2 : ReadsI w a2 m ls) : Calls Try.prog 44 #[.pointer (some ⟨p, 0, none⟩), .slice a n c, .slice a2 m c2] w fun e w' => e = .returned (.tuple #[.int .i64 (roomN A l ls), .int .i64 (roomE l ls)]) ∧ Only (fun _ => False) w w' := by
  have HB := Lib.hid h
  have HA := Lib.hid hA
  have HR := Lib.hid hr
  have HR2 := Lib.hid hr2
  have hm := hr.2.1
  have hm2 := hr2.2.1
  unfold maxLen at hm hm2
  have HLN := Lib.hid hr.1
  have HLN2 := Lib.hid hr2.1
  have HIS := Lib.hid (rlimited_any a n c l a2 m c2 ls w hr hc hr2)
  clear h hA hr hr2
  by_cases hpl : PathOk l ∧ m = n ∧ LOk ls m
  · have HDP : Hid (decide (PathOk l ∧ m = n ∧ LOk ls m) = true) := Lib.hid (decide_eq_true hpl)
    obtain ⟨hp, rfl, hlo⟩ := hpl
    have hok : RoomOk l ls := ⟨hp, by rw [HLN.out, HLN2.out], by rw [HLN2.out]; exact hlo⟩
    have hE : roomE l ls = 0 := by unfold roomE; rw [if_pos hok]
    rw [hE]
    have HT0 : Hid (roomN A l ls = roomR A (l.drop 0) (ls.drop 0) 9007199254740992) := Lib.hid (by unfold roomN; rw [if_pos hok]; rfl)
    have HPK : Hid (∀ i, i < m → ∃ k : Nat, l.getD i 0 = k ∧ 1 ≤ k ∧ k < 33) := Lib.hid (fun i hi => by obtain ⟨k, q1, q2, q3, _⟩ := path_toNat hp i (by rw [HLN.out]; exact hi); exact ⟨k, q1, q2, q3⟩)
    have HDR : Hid (∀ i r, i < m → roomR A (l.drop i) (ls.drop i) r = roomR A (l.drop (i + 1)) (ls.drop (i + 1)) (stepR r (nd A (l.getD i 0)) (ls.getD i 0))) := Lib.hid (fun i r hi => by rw [drop_at l i (by rw [HLN.out]; exact hi), drop_at ls i (by rw [HLN2.out]; exact hi)]; rfl)
    have HND : Hid (∀ i, Parts (nd A i)) := Lib.hid (fun i => (HA.out.ok _).1)
    have HBN : Hid (∀ r, roomR A (l.drop m) (ls.drop m) r = r) := Lib.hid (fun r => by rw [List.drop_eq_nil_of_le (by rw [HLN.out]; exact Nat.le_refl _)]; rfl)
    have HLI : Hid (∀ i, i < m → LimIn (ls.getD i 0)) := Lib.hid hlo
    clear hok hE
    generalize roomN A l ls = RN at *
    rw [HDP.out] at HIS
    clear hp HDP hlo
    go_enter Try.func44, Try.ntmps44
    go_wp2_with fail
    refine (HIS.out).mono ?_
    rintro _ w1 ⟨rfl, ho⟩
    have HO := Lib.hid ho
    clear ho
    go_wp2_with fail
    have HO1 := Lib.hid HO.out
    have HR1 := Lib.hid (HR.out.only HO.out (fun _ _ f => f))
    have HR21 := Lib.hid (HR2.out.only HO.out (fun _ _ f => f))
    have HB1 := Lib.hid (HB.out.only HO.out (fun f => f))
    clear HO HR HR2 HB
    rename World => w1
    go_loopw [8, 9] (fun rv iv wr => ∃ (i : Nat) (r : Int), i ≤ m ∧ rv = .int .i64 r ∧ iv = .int .i64 (i : Int) ∧ Hid (RN = roomR A (l.drop i) (ls.drop i) r) ∧ Hid (Only (fun _ => False) w1 wr)) (fun _ iv _ => m - (intOf iv).toNat)
    case atStart => exact ⟨0, _, by omega, rfl, rfl, HT0, Lib.hid (Only.refl _ _)⟩
    case round =>
      obtain ⟨i, r, hi, rfl, rfl, HD, HO⟩ := hrel
      rename World => wr
      by_cases h8 : i < m
      · obtain ⟨b, off, rfl, hcell⟩ := HR1.out.2.2.2.resolve_left (by omega)
        obtain ⟨b2, off2, rfl, hcell2⟩ := HR21.out.2.2.2.resolve_left (by omega)
        have cx := HO.out.cell' (hcell i h8) (fun f => f)
        have cm := HO.out.cell' (hcell2 i h8) (fun f => f)
        have hi0 : (0 : Int) ≤ i := by omega
        have hi1 : (i : Int) < m := by omega
        obtain ⟨k, hk, k1, k2⟩ := HPK.out i h8
        have hdd := HDR.out i r h8
        have hpt := HND.out (l.getD i 0)
        obtain ⟨l1, l2⟩ := HLI.out i h8
        rw [hk, nd_nat] at hdd hpt
        rw [hk] at cx
        have hk2 : (k : Int) < 33 := by omega
        have hk0 : (0 : Int) ≤ k := by omega
        obtain ⟨c0, c1, c2, c3, c4⟩ := (HB1.out.only HO.out (fun f => f)).1 k k2
        have HAV : Hid (∀ w1, _) := Lib.hid (fun w1 => left_any (A.getD k zA) w1 hpt)
        unfold stepR at hdd
        generalize A.getD k zA = ac at *
        obtain ⟨at_, ac, ae, au, ah⟩ := ac
        unfold aggA at HAV
        dsimp only at c0 c1 c2 c3 c4 hdd HAV
        obtain ⟨-, -, -, ⟨u1, u2⟩, ⟨g1, g2⟩⟩ := hpt
        dsimp only at u1 u2 g1 g2
        generalize ls.getD i 0 = lim at *
        have q1 : IntKind.i64.wrap (lim - au) = lim - au := w64 _ (by omega) (by omega)
        have q2 : IntKind.i64.wrap (lim - au - ah) = lim - au - ah := w64 _ (by omega) (by omega)
        generalize left ⟨at_, ac, ae, au, ah⟩ = lf at *
        have HDD := Lib.hid (HD.out.trans hdd)
        clear hcell hcell2 hdd hk u1 u2 g1 g2
        have HSL : Hid (∀ w', Only (fun _ => False) wr w' → w'.cell? ⟨b, off + i, none⟩ = some (.int .i64 (k : Int)) ∧ w'.cell? ⟨p, k * 5, none⟩ = some (.int .i64 at_) ∧ w'.cell? ⟨p, k * 5 + 1, none⟩ = some (.int .i64 ac) ∧ w'.cell? ⟨p, k * 5 + 2, none⟩ = some (.int .i64 ae) ∧ w'.cell? ⟨p, k * 5 + 3, none⟩ = some (.int .i64 au) ∧ w'.cell? ⟨p, k * 5 + 4, none⟩ = some (.int .i64 ah)) := Lib.hid (fun w' ho => ⟨ho.cell' cx (fun f => f), ho.cell' c0 (fun f => f), ho.cell' c1 (fun f => f), ho.cell' c2 (fun f => f), ho.cell' c3 (fun f => f), ho.cell' c4 (fun f => f)⟩)
        go_upto_region 7 with fail
        refine wp_region_noPanic ?_
        refine late.region (fun w' => w'.cell? ⟨b, off + i, none⟩ = some (.int .i64 (k : Int)) ∧ w'.cell? ⟨p, k * 5, none⟩ = some (.int .i64 at_) ∧ w'.cell? ⟨p, k * 5 + 1, none⟩ = some (.int .i64 ac) ∧ w'.cell? ⟨p, k * 5 + 2, none⟩ = some (.int .i64 ae) ∧ w'.cell? ⟨p, k * 5 + 3, none⟩ = some (.int .i64 au) ∧ w'.cell? ⟨p, k * 5 + 4, none⟩ = some (.int .i64 ah)) (fun j => [].contains j) (by kernel_rfl) (HSL.out _ (Only.refl _ _).drew) (fun hHeld => ?_)
        obtain ⟨z0, hz0⟩ : ∃ x, x = wr.drew := ⟨_, rfl⟩
        rw [← hz0] at hHeld ⊢
        have hou : Only (fun _ => False) wr z0 := by rw [hz0]; exact (Only.refl _ _).drew
        clear hz0
        refine late.take (i := 0) [5, 6, 7, 8, 10] (v := ?_) rfl (by kernel_rfl) (by kernel_rfl) (by kernel_rfl) (by kernel_rfl) (fun _ _ _ h => h) (Or.inl ⟨by rfl, ?_⟩) (by assumption) ?_
        rotate_left 1
        · intro w' hSw
          try dsimp only at hSw
          go_simp
          try with_reducible rfl
        try simp only [List.getElem_toArray, List.getElem_cons_zero, Act.put, List.setIfInBounds_toArray, List.set_cons_zero, List.set_cons_succ]
        refine late.take (i := 1) [3, 4, 7, 8, 10] (v := ?_) rfl (by kernel_rfl) (by kernel_rfl) (by kernel_rfl) (by kernel_rfl) (fun _ _ _ h => h) (Or.inl ⟨by rfl, ?_⟩) (by assumption) ?_
        rotate_left 1
        · intro w' hSw
          try dsimp only at hSw
          go_simp
          try with_reducible rfl
        try simp only [List.getElem_toArray, List.getElem_cons_zero, List.getElem_cons_succ, Act.put, List.setIfInBounds_toArray, List.set_cons_zero, List.set_cons_succ]
        refine late.take (i := 2) [3, 4, 7, 8, 10] (v := ?_) rfl (by kernel_rfl) (by kernel_rfl) (by kernel_rfl) (by kernel_rfl) (fun _ _ _ h => h) (Or.inl ⟨by rfl, ?_⟩) (by assumption) ?_
        rotate_left 1
        · intro w' hSw
          try dsimp only at hSw
          go_simp
          try with_reducible rfl
        try simp only [List.getElem_toArray, List.getElem_cons_zero, List.getElem_cons_succ, Act.put, List.setIfInBounds_toArray, List.set_cons_zero, List.set_cons_succ]
        refine late.take (i := 3) [4, 7, 8, 10] (v := ?_) rfl (by kernel_rfl) (by kernel_rfl) (by kernel_rfl) (by kernel_rfl) (fun _ _ _ h => h) (Or.inl ⟨by rfl, ?_⟩) (by assumption) ?_
        rotate_left 1
        · intro w' hSw
          try dsimp only at hSw
          go_simp
          try with_reducible rfl
        try simp only [List.getElem_toArray, List.getElem_cons_zero, List.getElem_cons_succ, Act.put, List.setIfInBounds_toArray, List.set_cons_zero, List.set_cons_succ]
        refine late.take (i := 4) [7, 8, 10] (v := ?_) rfl (by kernel_rfl) (by kernel_rfl) (by kernel_rfl) (by kernel_rfl) (fun _ _ _ h => h) (Or.inl ⟨by rfl, ?_⟩) (by assumption) ?_
        rotate_left 1
        · intro w' hSw
          try dsimp only at hSw
          go_simp
          try with_reducible rfl
        try simp only [List.getElem_toArray, List.getElem_cons_zero, List.getElem_cons_succ, Act.put, List.setIfInBounds_toArray, List.set_cons_zero, List.set_cons_succ]
        refine late.take (i := 5) [6, 7, 8, 10] (v := ?_) rfl (by kernel_rfl) (by kernel_rfl) (by kernel_rfl) (by kernel_rfl) (fun _ _ _ h => h) (Or.inl ⟨by rfl, ?_⟩) (by assumption) ?_
        rotate_left 1
        · intro w' hSw
          try dsimp only at hSw
          go_simp
          try with_reducible rfl
        try simp only [List.getElem_toArray, List.getElem_cons_zero, List.getElem_cons_succ, Act.put, List.setIfInBounds_toArray, List.set_cons_zero, List.set_cons_succ]
        refine late.take (i := 6) [7, 8, 10] (v := ?_) rfl (by kernel_rfl) (by kernel_rfl) (by kernel_rfl) (by kernel_rfl) (fun _ _ _ h => h) (Or.inl ⟨by rfl, ?_⟩) (by assumption) ?_
        rotate_left 1
        · intro w' hSw
          try dsimp only at hSw
          go_simp
          try with_reducible rfl
        try simp only [List.getElem_toArray, List.getElem_cons_zero, List.getElem_cons_succ, Act.put, List.setIfInBounds_toArray, List.set_cons_zero, List.set_cons_succ]
        refine late.take (i := 7) [8, 10] (v := ?_) rfl (by kernel_rfl) (by kernel_rfl) (by kernel_rfl) (by kernel_rfl) (fun _ _ _ h => h) (Or.inl ⟨by rfl, ?_⟩) (by assumption) ?_
        rotate_left 1
        · intro w' hSw
          try dsimp only at hSw
          go_simp
          try with_reducible rfl
        try simp only [List.getElem_toArray, List.getElem_cons_zero, List.getElem_cons_succ, Act.put, List.setIfInBounds_toArray, List.set_cons_zero, List.set_cons_succ]
        refine late.take (i := 8) [10] (v := ?_) rfl (by kernel_rfl) (by kernel_rfl) (by kernel_rfl) (by kernel_rfl) (fun _ _ _ h => h) (Or.inl ⟨by rfl, ?_⟩) (by assumption) ?_
        rotate_left 1
        · intro w' hSw
          try dsimp only at hSw
          go_simp
          try with_reducible rfl
        try simp only [List.getElem_toArray, List.getElem_cons_zero, List.getElem_cons_succ, Act.put, List.setIfInBounds_toArray, List.set_cons_zero, List.set_cons_succ]
        refine late.ready (rs := [9]) (by kernel_rfl) (by simp) ?_
        refine late.Each.cons rfl (fun K hK => ?_) late.Each.nil
        try simp only [List.getElem_toArray, List.getElem_cons_zero, List.getElem_cons_succ]
        go_simp
        obtain ⟨z1, hz1⟩ : ∃ x, x = z0.alloc (.cells #[.int .i64 0, .int .i64 0, .int .i64 0, .int .i64 0, .int .i64 0] 69) := ⟨_, rfl⟩
        obtain ⟨g, hg⟩ : ∃ x, x = z0.heap.size := ⟨_, rfl⟩
        rw [← hz1, ← hg]
        have ho1 : Only (fun _ => False) wr z1 := by rw [hz1]; exact hou.alloc _
        have hgs : wr.heap.size ≤ g := by rw [hg]; exact hou.size
        have hfive : Five z1 g := by rw [hz1]; exact Five.new hg
        have HFV := Lib.hid hfive
        obtain ⟨⟨y0, hy0'⟩, ⟨y1, hy1'⟩, ⟨y2, hy2'⟩, ⟨y3, hy3'⟩, ⟨y4, hy4'⟩, f0, f1, f2, f3, f4⟩ := hfive
        clear hz1 hg hou
        refine hK.out _ _ (fun _ => HSL.out _ ho1) (fun hHeld1 => ?_)
        replace hHeld1 := hHeld1 rfl
        clear hK K
        try simp only [List.getElem_toArray, List.getElem_cons_zero, List.getElem_cons_succ, Act.put, List.setIfInBounds_toArray, List.set_cons_zero, List.set_cons_succ]
        refine late.ready (rs := [10]) (by kernel_rfl) (by simp) ?_
        refine late.Each.cons rfl (fun K hK => ?_) late.Each.nil
        try simp only [List.getElem_toArray, List.getElem_cons_zero, List.getElem_cons_succ]
        go_simp
        obtain ⟨z2, hz2⟩ : ∃ x, x = put50 z1 g (.int .i64 at_) (.int .i64 ac) (.int .i64 ae) (.int .i64 au) (.int .i64 ah) := ⟨_, rfl⟩
        have HZ2 := Lib.hid hz2
        unfold put50 at hz2
        rw [← hz2]
        have ho2 : Only (fun _ => False) wr z2 := ho1.then (by rw [HZ2.out, put50_eq]; exact put5_only _ _ _ _ _ _ _ _) (fun i hi e => by omega)
        have hbx : (z2.cell? ⟨g, 0, none⟩ = some (.int .i64 at_) ∧ z2.cell? ⟨g, 1, none⟩ = some (.int .i64 ac) ∧ z2.cell? ⟨g, 2, none⟩ = some (.int .i64 ae) ∧ z2.cell? ⟨g, 3, none⟩ = some (.int .i64 au) ∧ z2.cell? ⟨g, 4, none⟩ = some (.int .i64 ah)) := by rw [HZ2.out]; exact HFV.out.put _ _ _ _ _
        obtain ⟨e0, e1, e2, e3, e4⟩ := hbx
        replace f3 : z2.frozen? ⟨g, 3, none⟩ = false := by rw [HZ2.out, put50_eq, put5_froz]; exact f3
        replace f4 : z2.frozen? ⟨g, 4, none⟩ = false := by rw [HZ2.out, put50_eq, put5_froz]; exact f4
        clear hz2 HZ2 HFV hy0' hy1' hy2' hy3' hy4' f0 f1 f2 ho1
        refine hK.out _ _ (fun _ => HSL.out _ ho2) (fun hHeld2 => ?_)
        replace hHeld2 := hHeld2 rfl
        clear hK K
        try simp only [List.getElem_toArray, List.getElem_cons_zero, List.getElem_cons_succ, Act.put, List.setIfInBounds_toArray, List.set_cons_zero, List.set_cons_succ]
        refine late.done (by kernel_rfl) ?_ _
        refine NoPanic.normal ?_
        clear f3 f4
        go_wp2_with fail
        refine (HAV.out _).mono ?_
        rintro _ w9 ⟨rfl, ho⟩
        have HO9 := Lib.hid (HO.out.trans (ho2.trans ho))
        replace e3 := ho.cell' e3 (fun f => f)
        replace e4 := ho.cell' e4 (fun f => f)
        replace cm := (ho2.trans ho).cell' cm (fun f => f)
        clear ho ho2 HAV e0 e1 e2 cx c0 c1 c2 c3 c4 HSL
        by_cases hm0 : 0 ≤ lim
        · have HD2 : Hid (RN = roomR A (l.drop (i + 1)) (ls.drop (i + 1)) (min r (min lf (max (lim - au - ah) 0)))) := Lib.hid (by rw [HDD.out, if_pos (show 0 ≤ lim from by omega), Int.max_comm 0 (lim - au - ah), Int.min_assoc])
          go_upto_region 10 with fail
          refine wp_region_noPanic ?_
          refine late.region (fun w' => ∀ q, w'.cell? q = w9.cell? q) (fun j => [].contains j) (by kernel_rfl) (fun q => by simp) (fun hHeld => ?_)
          refine late.take (i := 0) [12, 13] (v := ?_) rfl (by kernel_rfl) (by kernel_rfl) (by kernel_rfl) (by kernel_rfl) (fun _ _ _ h => h) (Or.inl ⟨by rfl, ?_⟩) (by assumption) ?_
          rotate_left 1
          · intro w' hSw
            try dsimp only at hSw
            go_simp
            try with_reducible rfl
          try simp only [List.getElem_toArray, List.getElem_cons_zero, Act.put, List.setIfInBounds_toArray, List.set_cons_zero, List.set_cons_succ]
          refine late.take (i := 1) [3, 4, 7, 10, 11, 12, 13] (v := ?_) rfl (by kernel_rfl) (by kernel_rfl) (by kernel_rfl) (by kernel_rfl) (fun _ _ _ h => h) (Or.inl ⟨by rfl, ?_⟩) (by assumption) ?_
          rotate_left 1
          · intro w' hSw
            try dsimp only at hSw
            go_simp
            try with_reducible rfl
          try simp only [List.getElem_toArray, List.getElem_cons_zero, List.getElem_cons_succ, Act.put, List.setIfInBounds_toArray, List.set_cons_zero, List.set_cons_succ]
          refine late.take (i := 2) [3, 4, 7, 10, 11, 12, 13] (v := ?_) rfl (by kernel_rfl) (by kernel_rfl) (by kernel_rfl) (by kernel_rfl) (fun _ _ _ h => h) (Or.inl ⟨by rfl, ?_⟩) (by assumption) ?_
          rotate_left 1
          · intro w' hSw
            try dsimp only at hSw
            go_simp
            try with_reducible rfl
          try simp only [List.getElem_toArray, List.getElem_cons_zero, List.getElem_cons_succ, Act.put, List.setIfInBounds_toArray, List.set_cons_zero, List.set_cons_succ]
          refine late.take (i := 3) [4, 7, 10, 11, 12, 13] (v := ?_) rfl (by kernel_rfl) (by kernel_rfl) (by kernel_rfl) (by kernel_rfl) (fun _ _ _ h => h) (Or.inl ⟨by rfl, ?_⟩) (by assumption) ?_
          rotate_left 1
          · intro w' hSw
            try dsimp only at hSw
            go_simp
            try with_reducible rfl
          try simp only [List.getElem_toArray, List.getElem_cons_zero, List.getElem_cons_succ, Act.put, List.setIfInBounds_toArray, List.set_cons_zero, List.set_cons_succ]
          refine late.take (i := 4) [7, 10, 11, 12, 13] (v := ?_) rfl (by kernel_rfl) (by kernel_rfl) (by kernel_rfl) (by kernel_rfl) (fun _ _ _ h => h) (Or.inl ⟨by rfl, ?_⟩) (by assumption) ?_
          rotate_left 1
          · intro w' hSw
            try dsimp only at hSw
            go_simp
            try with_reducible rfl
          try simp only [List.getElem_toArray, List.getElem_cons_zero, List.getElem_cons_succ, Act.put, List.setIfInBounds_toArray, List.set_cons_zero, List.set_cons_succ]
          refine late.take (i := 5) [6, 7, 10, 11, 12, 13] (v := ?_) rfl (by kernel_rfl) (by kernel_rfl) (by kernel_rfl) (by kernel_rfl) (fun _ _ _ h => h) (Or.inl ⟨by rfl, ?_⟩) (by assumption) ?_
          rotate_left 1
          · intro w' hSw
            try dsimp only at hSw
            go_simp
            try with_reducible rfl
          try simp only [List.getElem_toArray, List.getElem_cons_zero, List.getElem_cons_succ, Act.put, List.setIfInBounds_toArray, List.set_cons_zero, List.set_cons_succ]
          refine late.take (i := 6) [7, 10, 11, 12, 13] (v := ?_) rfl (by kernel_rfl) (by kernel_rfl) (by kernel_rfl) (by kernel_rfl) (fun _ _ _ h => h) (Or.inl ⟨by rfl, ?_⟩) (by assumption) ?_
          rotate_left 1
          · intro w' hSw
            try dsimp only at hSw
            go_simp
            try with_reducible rfl
          try simp only [List.getElem_toArray, List.getElem_cons_zero, List.getElem_cons_succ, Act.put, List.setIfInBounds_toArray, List.set_cons_zero, List.set_cons_succ]
          refine late.take (i := 7) [10, 11, 12, 13] (v := ?_) rfl (by kernel_rfl) (by kernel_rfl) (by kernel_rfl) (by kernel_rfl) (fun _ _ _ h => h) (Or.inl ⟨by rfl, ?_⟩) (by assumption) ?_
          rotate_left 1
          · intro w' hSw
            try dsimp only at hSw
            go_simp
            try with_reducible rfl
          try simp only [List.getElem_toArray, List.getElem_cons_zero, List.getElem_cons_succ, Act.put, List.setIfInBounds_toArray, List.set_cons_zero, List.set_cons_succ]
          refine late.take (i := 8) [9, 10, 11, 12, 13] (v := ?_) rfl (by kernel_rfl) (by kernel_rfl) (by kernel_rfl) (by kernel_rfl) (fun _ _ _ h => h) (Or.inl ⟨by rfl, ?_⟩) (by assumption) ?_
          rotate_left 1
          · intro w' hSw
            try dsimp only at hSw
            go_simp
            try with_reducible rfl
          try simp only [List.getElem_toArray, List.getElem_cons_zero, List.getElem_cons_succ, Act.put, List.setIfInBounds_toArray, List.set_cons_zero, List.set_cons_succ]
          refine late.take (i := 9) [10, 11, 12, 13] (v := ?_) rfl (by kernel_rfl) (by kernel_rfl) (by kernel_rfl) (by kernel_rfl) (fun _ _ _ h => h) (Or.inl ⟨by rfl, ?_⟩) (by assumption) ?_
          rotate_left 1
          · intro w' hSw
            try dsimp only at hSw
            go_simp
            try with_reducible rfl
          try simp only [List.getElem_toArray, List.getElem_cons_zero, List.getElem_cons_succ, Act.put, List.setIfInBounds_toArray, List.set_cons_zero, List.set_cons_succ]
          refine late.take (i := 10) [11, 12, 13] (v := ?_) rfl (by kernel_rfl) (by kernel_rfl) (by kernel_rfl) (by kernel_rfl) (fun _ _ _ h => h) (Or.inl ⟨by rfl, ?_⟩) (by assumption) ?_
          rotate_left 1
          · intro w' hSw
            try dsimp only at hSw
            go_simp
            try with_reducible rfl
          try simp only [List.getElem_toArray, List.getElem_cons_zero, List.getElem_cons_succ, Act.put, List.setIfInBounds_toArray, List.set_cons_zero, List.set_cons_succ]
          refine late.take (i := 11) [12, 13] (v := ?_) rfl (by kernel_rfl) (by kernel_rfl) (by kernel_rfl) (by kernel_rfl) (fun _ _ _ h => h) (Or.inl ⟨by rfl, ?_⟩) (by assumption) ?_
          rotate_left 1
          · intro w' hSw
            try dsimp only at hSw
            go_simp
            try with_reducible rfl
          try simp only [List.getElem_toArray, List.getElem_cons_zero, List.getElem_cons_succ, Act.put, List.setIfInBounds_toArray, List.set_cons_zero, List.set_cons_succ]
          refine late.take (i := 12) [13] (v := ?_) rfl (by kernel_rfl) (by kernel_rfl) (by kernel_rfl) (by kernel_rfl) (fun _ _ _ h => h) (Or.inl ⟨by rfl, ?_⟩) (by assumption) ?_
          rotate_left 1
          · intro w' hSw
            try dsimp only at hSw
            go_simp
            try with_reducible rfl
          try simp only [List.getElem_toArray, List.getElem_cons_zero, List.getElem_cons_succ, Act.put, List.setIfInBounds_toArray, List.set_cons_zero, List.set_cons_succ]
          refine late.take (i := 13) [] (v := ?_) rfl (by kernel_rfl) (by kernel_rfl) (by kernel_rfl) (by kernel_rfl) (fun _ _ _ h => h) (Or.inl ⟨by rfl, ?_⟩) (by assumption) ?_
          rotate_left 1
          · intro w' hSw
            try dsimp only at hSw
            go_simp
            try with_reducible rfl
          try simp only [List.getElem_toArray, List.getElem_cons_zero, List.getElem_cons_succ, Act.put, List.setIfInBounds_toArray, List.set_cons_zero, List.set_cons_succ]
          refine late.done (by kernel_rfl) ?_ _
          refine NoPanic.normal ?_
          have HOD := Lib.hid HO9.out.drew
          go_wp2_with fail
          go_roundw
          case rel => exact ⟨i + 1, _, by omega, rfl, by go_num, HD2, HOD⟩
          case measure => simp [intOf]; omega
        · have HD2 : Hid (RN = roomR A (l.drop (i + 1)) (ls.drop (i + 1)) (min r lf)) := Lib.hid (by rw [HDD.out, if_neg (show ¬ 0 ≤ lim from by omega)])
          go_wp2_with fail
          go_roundw
          case rel => exact ⟨i + 1, _, by omega, rfl, by go_num, HD2, HO9⟩
          case measure => simp [intOf]; omega
      · obtain rfl : i = m := by omega
        have HF : Hid (RN = r) := Lib.hid (by rw [HD.out, HBN.out])
        have HE9 := Lib.hid (HO1.out.trans HO.out)
        go_wp2_with fail
        go_ret2
        exact ⟨by rw [HF.out]; rfl, HE9.out⟩
  · have HDP : Hid (decide (PathOk l ∧ m = n ∧ LOk ls m) = false) := Lib.hid (decide_eq_false hpl)
    rw [HDP.out] at HIS
    have hno : ¬ RoomOk l ls := fun q => hpl ⟨q.1, by have := q.2.1; rw [HLN.out, HLN2.out] at this; exact this, by have := q.2.2; rw [HLN2.out] at this; exact this⟩
    have hE : roomE l ls = 1 := by unfold roomE; rw [if_neg hno]
    have hT : roomN A l ls = 0 := by unfold roomN; rw [if_neg hno]
    rw [hE, hT]
    clear hE hT hno
    clear hpl HDP
    go_enter Try.func44, Try.ntmps44
    go_wp2_with fail
    refine (HIS.out).mono ?_
    rintro _ w1 ⟨rfl, ho⟩
    have HO := Lib.hid ho
    clear ho
    go_wp2_with fail
    go_ret2
    exact ⟨rfl, HO.out⟩
end Go.Proofs.Ytfpeimihlihphaa.fnd
