/- EntryMakes: both Makes answer alike; the walk. -/
import Derived.Test.YtnhlmodhmodilaaEntMk
import Derived.Test.YtnhlmodhmodilaaEntN
import Derived.Test.YtnhlmodhmodilaaEntT
import Derived.Test.YtnhlmodhmodilaaEntW
import Derived.Test.YtnhlmodhmodilaaOwI
namespace Go.Proofs.Ytnhlmodhmodilaa.entw
open Go.RowKit mem entm
set_option linter.unusedVariables false

theorem same_ls {kind amount gr : Int} {path : List Int} {ls D : List Lg} (h1 : ls.Perm (rawL kind amount gr path)) (s1 : Sorted ls) (h2 : D.Perm (rawL kind amount gr path)) (s2 : Sorted D) : ls = D :=
  sorted_one (h1.trans h2.symm) s1 s2 (fun x hx y hy => raw_one x (h2.mem_iff.1 hx) y (h2.mem_iff.1 hy))
/-- none is made, by this error; these legs are made -/
def NoC (kind amount gr : Int) (path : List Int) (c : Int) : Prop := c ≠ 0 ∧ (mkNo kind amount path = c ∨ mkNo kind amount path = 0 ∧ ∃ ls, ls.Perm (rawL kind amount gr path) ∧ Sorted ls ∧ chk kind ls = c)
def YesL (kind amount gr : Int) (path : List Int) (ls : List Lg) : Prop := mkNo kind amount path = 0 ∧ ls.Perm (rawL kind amount gr path) ∧ Sorted ls ∧ chk kind ls = 0 ∧ (∀ l ∈ ls, InL l) ∧ ls.length ≤ 64
def PM (kind amount gr : Int) (path : List Int) (w : World) (e : Ending) (w' : World) : Prop := Only (fun _ => False) w w' ∧ ((∃ c, NoC kind amount gr path c ∧ e = .returned (.tuple #[.agg #[.int .i64 0, .slice none 0 0], .int .i64 c])) ∨ (∃ g cap ls, YesL kind amount gr path ls ∧ ReadsL w' (some ⟨g, 0, none⟩) ls.length ls ∧ e = .returned (.tuple #[.agg #[.int .i64 kind, .slice (some ⟨g, 0, none⟩) ls.length cap], .int .i64 0])))
theorem pmake_any (kind amount gr : Int) (hg : InI gr) (a : Option Addr) (len cap : Nat) (path : List Int) (w : World) (h : ReadsI w a len path) (hlc : len ≤ cap) (hcm : cap ≤ 9223372036854775807) :
    Calls Try.prog 4 #[.int .i64 kind, .int .i64 amount, .slice a len cap, .int .i64 gr] w (PM kind amount gr path w) := by
  rcases mk_cases kind amount path with hno | ⟨hk, ha, hp⟩
  · refine (make_no kind amount gr a len cap path w h hlc hcm hno).mono ?_
    rintro e w' ⟨rfl, ho⟩
    exact ⟨ho, .inl ⟨_, ⟨hno, .inl rfl⟩, rfl⟩⟩
  · have hz : mkNo kind amount path = 0 := by unfold mkNo; rw [hk, if_neg (by simp), if_neg (by rw [hp]; simp [ha])]
    refine (make_yes kind amount gr hk ha hg a len cap path hp w h hlc hcm).mono ?_
    rintro e w' ⟨g, cp, ls, h1, h2, h3, h4, h5, h6⟩
    refine ⟨h4, ?_⟩
    rcases h6 with ⟨h6, rfl⟩ | ⟨h6, rfl⟩
    · refine .inr ⟨g, cp, ls, ⟨hz, h1, h2, h6, h5.2.2.1, ?_⟩, h5, rfl⟩
      have := (chk_ok kind ls).1 h6
      omega
    · exact .inl ⟨_, ⟨h6, .inr ⟨hz, ls, h1, h2, rfl⟩⟩, rfl⟩
theorem rmake_no (kind amount gr c : Int) (hg : InI gr) (a : Option Addr) (len cap : Nat) (path : List Int) (w : World) (h : ReadsI w a len path) (hn : NoC kind amount gr path c) :
    Calls Try.prog 5 #[.int .i64 kind, .int .i64 amount, .slice a len cap, .int .i64 gr] w fun e w' => e = .returned (.tuple #[.agg #[.int .i64 0, .slice none 0 0], .int .i64 c]) ∧ Only (fun _ => False) w w' := by
  refine (rmake_any kind amount gr hg a len cap path w h).mono ?_
  rintro e w' (⟨h1, rfl, h3⟩ | ⟨h1, a', cp, D, h2, h3, h4, h5, h6⟩)
  · rcases hn.2 with e | ⟨e, _⟩
    · rw [e]; exact ⟨rfl, h3⟩
    · exact absurd e h1
  · rcases hn.2 with e | ⟨_, ls, k1, k2, k3⟩
    · exact absurd (by rw [← e]; exact h1) hn.1
    · obtain rfl := same_ls k1 k2 h2 h3
      rw [k3] at h6
      rcases h6 with ⟨h6, _⟩ | ⟨_, rfl⟩
      · exact absurd h6 hn.1
      · exact ⟨rfl, h4⟩
theorem rmake_yes (kind amount gr : Int) (hg : InI gr) (a : Option Addr) (len cap : Nat) (path : List Int) (ls : List Lg) (w : World) (h : ReadsI w a len path) (hn : YesL kind amount gr path ls) :
    Calls Try.prog 5 #[.int .i64 kind, .int .i64 amount, .slice a len cap, .int .i64 gr] w fun e w' => (∃ a' cp, e = .returned (.tuple #[.agg #[.int .i64 kind, .slice a' ls.length cp], .int .i64 0]) ∧ ReadsL w' a' ls.length ls) ∧ Only (fun _ => False) w w' := by
  obtain ⟨n1, n2, n3, n4, n5, n6⟩ := hn
  refine (rmake_any kind amount gr hg a len cap path w h).mono ?_
  rintro e w' (⟨h1, _, _⟩ | ⟨h1, a', cp, D, h2, h3, h4, h5, h6⟩)
  · exact absurd n1 h1
  · obtain rfl := same_ls n2 n3 h2 h3
    rcases h6 with ⟨_, rfl⟩ | ⟨h6, _⟩
    · exact ⟨⟨a', cp, rfl, h5⟩, h4⟩
    · exact absurd n4 h6
set_option maxRecDepth 100000 in
set_option maxHeartbeats 8000000 in
theorem makes_any (kind amount : Int) (a : Option Addr) (len cap : Nat) (l0 : List Int) (w : World) (h : IntsR w a len cap l0) :
    Calls Try.prog 3 #[.int .i64 kind, .int .i64 amount, .slice a len cap] w fun e w' => e = .returned (.bool true) ∧ Only (fun _ => False) w w' := by
  obtain ⟨i0, hi, hz0, hz1, hz2⟩ := info_parts info_i64
  obtain ⟨hr, hlc, hcm, hnone⟩ := h
  unfold maxLen at hcm
  have hk6 : min len 6 ≤ 6 := by omega
  have HR : Hid (ReadsI w a (min len 6) (l0.take (min len 6))) := Lib.hid (hr.take _ (by omega))
  have HLN : Hid ((l0.take (min len 6)).length = min len 6) := Lib.hid HR.out.1
  have HLI : Hid (∀ c ∈ l0.take (min len 6), -9223372036854775808 ≤ c ∧ c ≤ 9223372036854775807) := Lib.hid HR.out.2.2.1
  have HNN := Lib.hid hnone
  generalize l0.take (min len 6) = l at *
  obtain ⟨n, hn⟩ : ∃ n, min len 6 = n := ⟨_, rfl⟩
  rw [hn] at HR HLN hk6
  have HN := Lib.hid hn
  clear hr hnone hn
  have HOW : Hid (∀ wx : World, (wx.alloc (.cells #[] 3)).ownsRow 0 3 1 (.slice (some ⟨wx.heap.size, 0, none⟩) 0 0) 0 (iv [])) := Lib.hid (fun wx => World.ownsRow_lit wx #[] 0 (Nat.zero_le _) (by decide) rfl)
  go_enter Try.func3, Try.ntmps3
  go_upto_region 1 with fail
  go_cut [2] from 17 to 23 (fun pv wx => ∃ (g1 c1 : Nat), pv = .slice (some ⟨g1, 0, none⟩) n c1 ∧ Hid (ReadsI wx (some ⟨g1, 0, none⟩) n l) ∧ n ≤ c1 ∧ c1 ≤ 9223372036854775807 ∧ Hid (Only (fun _ => False) w wx))
  case first =>
    rcases a with _ | x
    · obtain rfl : cap = 0 := HNN.out rfl
      obtain rfl : len = 0 := by omega
      obtain rfl : n = 0 := by have := HN.out; omega
      have hm0 : min (0 : Int) 6 = 0 := by decide
      have HL0 : Hid (l = []) := Lib.hid (List.eq_nil_of_length_eq_zero HLN.out)
      clear hi hz0 hz1 hz2
      go_wp2_with fail
      go_meet
      exact ⟨_, _, rfl, Lib.hid (by rw [HL0.out]; exact nilI_reads _ _), by omega, by omega, Lib.hid ((Only.refl _ w).alloc _)⟩
    · have HOWA := Lib.hid (HOW.out w)
      have HRW := Lib.hid (HR.out.only (S := fun _ => False) ((Only.refl _ w).alloc (.cells #[] 3)) (fun _ _ f => f))
      have hn6 : (len ≤ 6 ∧ n = len) ∨ (6 < len ∧ n = 6) := by have := HN.out; omega
      have hnc : (n : Int) ≤ (cap : Int) := by have := HN.out; omega
      rcases hn6 with ⟨h6, rfl⟩ | ⟨h6, rfl⟩
      · have h66 : (n : Int) ≤ 6 := by omega
        have hmn : min (n : Int) 6 = n := by omega
        have hn0 : (0 : Int) ≤ n := by omega
        go_wp2_with (at_builtin; refine append_mine2 rfl _ _ 22 rfl 3 i0 _ 1 8 Try.underlying22 hi hz0 hz1 hz2 rfl (by decide) _ 0 _ rfl HOWA.out x n cap (iv l) rfl ?a1 ?a2 ?a3 ?a4 ?a5 ?_)
        case a1 => (rw [iv_length, HLN.out]; try omega)
        case a2 => exact newsI HRW.out
        case a3 => exact iv_one l
        case a4 => unfold maxLen; omega
        case a5 => omega
        intro v2 w3 hown hgrow hkk hne
        try rw [Nat.zero_add] at hown
        obtain ⟨g1, c1, rfl, hc1, hc2, HR3⟩ : ∃ g1 c1, v2 = .slice (some ⟨g1, 0, none⟩) n c1 ∧ n ≤ c1 ∧ c1 ≤ 9223372036854775807 ∧ Hid (ReadsI w3 (some ⟨g1, 0, none⟩) n l) := by
          rcases hown.2 with ⟨hv, _⟩ | ⟨g1, c1, cur, hv, hg1, hh, hcc, hmm, _⟩
          · exact absurd (hne hv) (by simp)
          · unfold maxLen at hmm
            refine ⟨g1, c1, hv, hcc, by omega, Lib.hid (ReadsI.of_owns (by rw [← hv]; simpa [iv] using hown) (by unfold maxLen; omega) HLI.out)⟩
        have HO3 : Hid (Only (fun _ => False) w w3) := Lib.hid (((Only.refl _ w).alloc _).then (Only.of_grown hgrow) (fun q hq e => by
          have : w.heap.size = q := by simpa [Value.ownBlock] using e
          omega))
        clear hown hgrow hkk hne
        go_wp2_with fail
        go_meet
        exact ⟨g1, c1, rfl, HR3, hc1, hc2, HO3⟩
      · have h66 : (6 : Int) < len := by omega
        have hmn : min (len : Int) 6 = 6 := by omega
        go_wp2_with (at_builtin; refine append_mine2 rfl _ _ 22 rfl 3 i0 _ 1 8 Try.underlying22 hi hz0 hz1 hz2 rfl (by decide) _ 0 _ rfl HOWA.out x 6 cap (iv l) rfl ?b1 ?b2 ?b3 ?b4 ?b5 ?_)
        case b1 => (rw [iv_length, HLN.out]; try omega)
        case b2 => exact newsI HRW.out
        case b3 => exact iv_one l
        case b4 => unfold maxLen; omega
        case b5 => omega
        intro v2 w3 hown hgrow hkk hne
        try rw [Nat.zero_add] at hown
        obtain ⟨g1, c1, rfl, hc1, hc2, HR3⟩ : ∃ g1 c1, v2 = .slice (some ⟨g1, 0, none⟩) 6 c1 ∧ 6 ≤ c1 ∧ c1 ≤ 9223372036854775807 ∧ Hid (ReadsI w3 (some ⟨g1, 0, none⟩) 6 l) := by
          rcases hown.2 with ⟨hv, _⟩ | ⟨g1, c1, cur, hv, hg1, hh, hcc, hmm, _⟩
          · exact absurd (hne hv) (by simp)
          · unfold maxLen at hmm
            refine ⟨g1, c1, hv, hcc, by omega, Lib.hid (ReadsI.of_owns (by rw [← hv]; simpa [iv] using hown) (by unfold maxLen; omega) HLI.out)⟩
        have HO3 : Hid (Only (fun _ => False) w w3) := Lib.hid (((Only.refl _ w).alloc _).then (Only.of_grown hgrow) (fun q hq e => by
          have : w.heap.size = q := by simpa [Value.ownBlock] using e
          omega))
        clear hown hgrow hkk hne
        go_wp2_with fail
        go_meet
        exact ⟨g1, c1, rfl, HR3, hc1, hc2, HO3⟩
  case rest =>
    obtain ⟨g1, c1, rfl, HR1, hn1, hc1, HO1⟩ := hcut
    rename World => w1
    clear HR HNN HN hlc hcm
    go_upto_region 2 with fail
    go_cut [7] from 24 to 26 (fun pv wx => ∃ (g2 c2 : Nat), pv = .slice (some ⟨g2, 0, none⟩) n c2 ∧ Hid (ReadsI wx (some ⟨g2, 0, none⟩) n l) ∧ n ≤ c2 ∧ c2 ≤ 9223372036854775807 ∧ Hid (Only (fun _ => False) w1 wx))
    case first =>
      have HOWA := Lib.hid (HOW.out w1)
      have HRW := Lib.hid (HR1.out.only (S := fun _ => False) ((Only.refl _ w1).alloc (.cells #[] 3)) (fun _ _ f => f))
      go_wp2_with (at_builtin; refine append_mine2 rfl _ _ 22 rfl 3 i0 _ 1 8 Try.underlying22 hi hz0 hz1 hz2 rfl (by decide) _ 0 _ rfl HOWA.out ⟨g1, 0, none⟩ n c1 (iv l) rfl ?d1 ?d2 ?d3 ?d4 ?d5 ?_)
      case d1 => (rw [iv_length, HLN.out]; try omega)
      case d2 => exact newsI HRW.out
      case d3 => exact iv_one l
      case d4 => unfold maxLen; omega
      case d5 => omega
      intro v2 w3 hown hgrow hkk hne
      try rw [Nat.zero_add] at hown
      obtain ⟨g1, c1, rfl, hc1, hc2, HR3⟩ : ∃ g1 c1, v2 = .slice (some ⟨g1, 0, none⟩) n c1 ∧ n ≤ c1 ∧ c1 ≤ 9223372036854775807 ∧ Hid (ReadsI w3 (some ⟨g1, 0, none⟩) n l) := by
        rcases hown.2 with ⟨hv, _⟩ | ⟨g1, c1, cur, hv, hg1, hh, hcc, hmm, _⟩
        · exact absurd (hne hv) (by simp)
        · unfold maxLen at hmm
          refine ⟨g1, c1, hv, hcc, by omega, Lib.hid (ReadsI.of_owns (by rw [← hv]; simpa [iv] using hown) (by unfold maxLen; omega) HLI.out)⟩
      have HO3 : Hid (Only (fun _ => False) w1 w3) := Lib.hid (((Only.refl _ w1).alloc _).then (Only.of_grown hgrow) (fun q hq e => by
        have : w1.heap.size = q := by simpa [Value.ownBlock] using e
        omega))
      clear hown hgrow hkk hne
      go_wp2_with fail
      go_meet
      exact ⟨g1, c1, rfl, HR3, hc1, hc2, HO3⟩
    case rest =>
      obtain ⟨g2, c2, rfl, HR2, hn2, hc2, HO2⟩ := hcut
      rename World => w2
      have HP1 : Hid (∀ w', Only (fun _ => False) w2 w' → ReadsI w' (some ⟨g1, 0, none⟩) n l) := Lib.hid (fun w' ho => HR1.out.only (HO2.out.trans ho) (fun _ _ f => f))
      have HP2 : Hid (∀ w', Only (fun _ => False) w2 w' → ReadsI w' (some ⟨g2, 0, none⟩) n l) := Lib.hid (fun w' ho => HR2.out.only ho (fun _ _ f => f))
      have HOF := Lib.hid (HO1.out.trans HO2.out)
      clear HR1 HR2 HO1 HO2 HOW hi hz0 hz1 hz2
      go_wp2_with fail
      go_loopw [8] (fun gv wr => ∃ gr : Int, -1 ≤ gr ∧ gr ≤ 10 ∧ gv = .int .i64 gr ∧ Hid (Only (fun _ => False) w2 wr)) (fun gv _ => (10 - intOf gv).toNat)
      case atStart => exact ⟨-1, by omega, by omega, rfl, Lib.hid (Only.refl _ _)⟩
      case round =>
        obtain ⟨gr, g1', g2', rfl, HO⟩ := hrel
        rename World => wr
        by_cases h8 : gr < 10
        · have HGI : Hid (InI gr) := Lib.hid (by unfold InI; omega)
          have HPM := Lib.hid (pmake_any kind amount gr HGI.out (some ⟨g1, 0, none⟩) n c1 l wr (HP1.out wr HO.out) hn1 hc1)
          unfold PM at HPM
          go_wp2_with fail
          refine HPM.out.mono ?_
          rintro _ w3 ⟨ho, hpost⟩
          have HO3 := Lib.hid (HO.out.trans ho)
          clear ho HPM HO
          rcases hpost with ⟨c, hno, rfl⟩ | ⟨gl, cl, ls, hy, hrd, rfl⟩
          · have HNO := Lib.hid hno
            have hcz : (c == 0) = false := by have := hno.1; simp [this]
            have hcc : (c != c) = false := by simp
            clear hno
            go_upto_region 7 with fail
            obtain ⟨w4, hw4⟩ : ∃ x, x = w3.alloc (.cells #[.int .i64 0, .slice none 0 0] 25) := ⟨_, rfl⟩
            obtain ⟨p4, hp4⟩ : ∃ x, x = w3.heap.size := ⟨_, rfl⟩
            have HC4 : Hid (w4.cell? ⟨p4, 0, none⟩ = some (.int .i64 0) ∧ w4.cell? ⟨p4, 1, none⟩ = some (.slice none 0 0)) := Lib.hid (by rw [hw4]; exact ⟨alloc_new _ _ _ _ _ _ hp4 rfl, alloc_new _ _ _ _ _ _ hp4 rfl⟩)
            have HO4 : Hid (Only (fun _ => False) w2 w4) := Lib.hid (by rw [hw4]; exact HO3.out.alloc _)
            simp only [← hw4, ← hp4]
            clear hw4 hp4 HO3
            have HRN := Lib.hid (rmake_no kind amount gr c HGI.out (some ⟨g2, 0, none⟩) n c2 l w4 (HP2.out w4 HO4.out) HNO.out)
            go_wp2_with fail
            refine HRN.out.mono ?_
            rintro _ w5 ⟨rfl, ho⟩
            have HC5 : Hid (w5.cell? ⟨p4, 0, none⟩ = some (.int .i64 0) ∧ w5.cell? ⟨p4, 1, none⟩ = some (.slice none 0 0)) := Lib.hid ⟨ho.cell' HC4.out.1 (fun f => f), ho.cell' HC4.out.2 (fun f => f)⟩
            have HO5 := Lib.hid (HO4.out.trans ho)
            clear ho HRN HC4 HO4
            go_upto_region 8 with fail
            obtain ⟨w6, hw6⟩ : ∃ x, x = w5.alloc (.cells #[.int .i64 0, .slice none 0 0] 31) := ⟨_, rfl⟩
            obtain ⟨p6, hp6⟩ : ∃ x, x = w5.heap.size := ⟨_, rfl⟩
            have ha6 : Only (fun _ => False) w5 w6 := by rw [hw6]; exact (Only.refl _ _).alloc _
            have HSL : Hid (∀ w', Only (fun _ => False) w6 w' → w'.cell? ⟨p4, 0, none⟩ = some (.int .i64 0) ∧ w'.cell? ⟨p4, 1, none⟩ = some (.slice none 0 0) ∧ w'.cell? ⟨p6, 0, none⟩ = some (.int .i64 0) ∧ w'.cell? ⟨p6, 1, none⟩ = some (.slice none 0 0)) := Lib.hid (fun w' ho => ⟨(ha6.trans ho).cell' HC5.out.1 (fun f => f), (ha6.trans ho).cell' HC5.out.2 (fun f => f), ho.cell' (by rw [hw6]; exact alloc_new _ _ _ _ _ _ hp6 rfl) (fun f => f), ho.cell' (by rw [hw6]; exact alloc_new _ _ _ _ _ _ hp6 rfl) (fun f => f)⟩)
            have HO6 := Lib.hid (HO5.out.trans ha6)
            have HFR : Hid (∀ w', _) := Lib.hid (fun w' => from_any 0 none 0 0 [] w' (ReadsL.nil _ _) (by omega))
            unfold LegsMade at HFR
            simp only [← hw6, ← hp6]
            clear hw6 hp6 ha6 HC5 HO5
            refine wp_region_noPanic ?_
            refine late.region (fun w' => w'.cell? ⟨p4, 0, none⟩ = some (.int .i64 0) ∧ w'.cell? ⟨p4, 1, none⟩ = some (.slice none 0 0) ∧ w'.cell? ⟨p6, 0, none⟩ = some (.int .i64 0) ∧ w'.cell? ⟨p6, 1, none⟩ = some (.slice none 0 0)) (fun j => [].contains j) (by kernel_rfl) (HSL.out _ (Only.refl _ _).drew) (fun hHeld => ?_)
            obtain ⟨z0, hz0⟩ : ∃ x, x = w6.drew := ⟨_, rfl⟩
            rw [← hz0] at hHeld ⊢
            have hot : Hid (Only (fun _ => False) w6 z0) := Lib.hid (by rw [hz0]; exact (Only.refl _ _).drew)
            clear hz0
            refine late.take (i := 0) [2, 3, 4, 5, 6, 7, 8, 9, 10, 11, 12, 13, 14, 15] (v := ?_) rfl (by kernel_rfl) (by kernel_rfl) (by kernel_rfl) (by kernel_rfl) (fun _ _ _ h => h) (Or.inl ⟨by rfl, ?_⟩) (by assumption) ?_
            rotate_left 1
            · intro w' hSw
              try dsimp only at hSw
              go_simp
              try with_reducible rfl
            try simp only [List.getElem_toArray, List.getElem_cons_zero, Act.put, List.setIfInBounds_toArray, List.set_cons_zero, List.set_cons_succ]
            refine late.take (i := 1) [2, 3, 4, 5, 6, 7, 8, 9, 10, 11, 12, 13, 14, 15] (v := ?_) rfl (by kernel_rfl) (by kernel_rfl) (by kernel_rfl) (by kernel_rfl) (fun _ _ _ h => h) (Or.inl ⟨by rfl, ?_⟩) (by assumption) ?_
            rotate_left 1
            · intro w' hSw
              try dsimp only at hSw
              go_simp
              try with_reducible rfl
            try simp only [List.getElem_toArray, List.getElem_cons_zero, List.getElem_cons_succ, Act.put, List.setIfInBounds_toArray, List.set_cons_zero, List.set_cons_succ]
            refine late.take (i := 2) [3, 4, 5, 6, 7, 8, 9, 10, 11, 12, 13, 14, 15] (v := ?_) rfl (by kernel_rfl) (by kernel_rfl) (by kernel_rfl) (by kernel_rfl) (fun _ _ _ h => h) (Or.inl ⟨by rfl, ?_⟩) (by assumption) ?_
            rotate_left 1
            · intro w' hSw
              try dsimp only at hSw
              go_simp
              try with_reducible rfl
            try simp only [List.getElem_toArray, List.getElem_cons_zero, List.getElem_cons_succ, Act.put, List.setIfInBounds_toArray, List.set_cons_zero, List.set_cons_succ]
            refine late.take (i := 3) [4, 5, 6, 7, 8, 9, 10, 11, 12, 13, 14, 15] (v := ?_) rfl (by kernel_rfl) (by kernel_rfl) (by kernel_rfl) (by kernel_rfl) (fun _ _ _ h => h) (Or.inl ⟨by rfl, ?_⟩) (by assumption) ?_
            rotate_left 1
            · intro w' hSw
              try dsimp only at hSw
              go_simp
              try with_reducible rfl
            try simp only [List.getElem_toArray, List.getElem_cons_zero, List.getElem_cons_succ, Act.put, List.setIfInBounds_toArray, List.set_cons_zero, List.set_cons_succ]
            refine late.take (i := 4) [5, 7, 8, 9, 10, 11, 12, 13, 14, 15] (v := ?_) rfl (by kernel_rfl) (by kernel_rfl) (by kernel_rfl) (by kernel_rfl) (fun _ _ _ h => h) (Or.inl ⟨by rfl, ?_⟩) (by assumption) ?_
            rotate_left 1
            · intro w' hSw
              try dsimp only at hSw
              go_simp
              try with_reducible rfl
            try simp only [List.getElem_toArray, List.getElem_cons_zero, List.getElem_cons_succ, Act.put, List.setIfInBounds_toArray, List.set_cons_zero, List.set_cons_succ]
            refine late.take (i := 6) [7, 8, 9, 10, 11, 12, 13, 14, 15] (v := ?_) rfl (by kernel_rfl) (by kernel_rfl) (by kernel_rfl) (by kernel_rfl) (fun _ _ _ h => h) (Or.inl ⟨by rfl, ?_⟩) (by assumption) ?_
            rotate_left 1
            · intro w' hSw
              try dsimp only at hSw
              go_simp
              try with_reducible rfl
            try simp only [List.getElem_toArray, List.getElem_cons_zero, List.getElem_cons_succ, Act.put, List.setIfInBounds_toArray, List.set_cons_zero, List.set_cons_succ]
            refine late.ready (rs := [5]) (by kernel_rfl) (by simp) ?_
            refine late.Each.cons rfl (fun K hK => ?_) late.Each.nil
            try simp only [List.getElem_toArray, List.getElem_cons_zero, List.getElem_cons_succ]
            go_simp
            go_at_call 7
            with_reducible refine (HFR.out _).mono ?_
            rintro _ W1 ⟨fa, fc, rfl, hfr, -, -, ho⟩
            have HFA := Lib.hid hfr
            clear hfr
            replace hot := Lib.hid (hot.out.trans ho)
            clear ho
            try dsimp only
            refine hK.out _ _ (fun _ => HSL.out _ hot.out) (fun hHeld1 => ?_)
            replace hHeld1 := hHeld1 rfl
            clear hK K
            try simp only [List.getElem_toArray, List.getElem_cons_zero, List.getElem_cons_succ, Act.put, List.setIfInBounds_toArray, List.set_cons_zero, List.set_cons_succ]
            refine late.ready (rs := [7]) (by kernel_rfl) (by simp) ?_
            refine late.Each.cons rfl (fun K hK => ?_) late.Each.nil
            try simp only [List.getElem_toArray, List.getElem_cons_zero, List.getElem_cons_succ]
            go_simp
            go_at_call 6
            with_reducible refine (same_yes 0 fa none 0 fc 0 [] _ HFA.out (ReadsL.nil _ _)).mono ?_
            rintro _ W2 ⟨rfl, ho⟩
            replace hot := Lib.hid (hot.out.trans ho)
            clear ho
            try dsimp only
            refine hK.out _ _ (fun _ => HSL.out _ hot.out) (fun hHeld2 => ?_)
            replace hHeld2 := hHeld2 rfl
            clear hK K
            try simp only [List.getElem_toArray, List.getElem_cons_zero, List.getElem_cons_succ, Act.put, List.setIfInBounds_toArray, List.set_cons_zero, List.set_cons_succ]
            refine late.take (i := 8) [9, 10, 11, 12, 13, 14, 15] (v := ?_) rfl (by kernel_rfl) (by kernel_rfl) (by kernel_rfl) (by kernel_rfl) (fun _ _ _ h => h) (Or.inl ⟨by rfl, ?_⟩) (by assumption) ?_
            rotate_left 1
            · intro w' hSw
              try dsimp only at hSw
              go_simp
              try with_reducible rfl
            try simp only [List.getElem_toArray, List.getElem_cons_zero, List.getElem_cons_succ, Act.put, List.setIfInBounds_toArray, List.set_cons_zero, List.set_cons_succ]
            refine late.take (i := 9) [10, 11, 12, 13, 14, 15] (v := ?_) rfl (by kernel_rfl) (by kernel_rfl) (by kernel_rfl) (by kernel_rfl) (fun _ _ _ h => h) (Or.inl ⟨by rfl, ?_⟩) (by assumption) ?_
            rotate_left 1
            · intro w' hSw
              try dsimp only at hSw
              go_simp
              try with_reducible rfl
            try simp only [List.getElem_toArray, List.getElem_cons_zero, List.getElem_cons_succ, Act.put, List.setIfInBounds_toArray, List.set_cons_zero, List.set_cons_succ]
            refine late.take (i := 10) [11, 12, 13, 14, 15] (v := ?_) rfl (by kernel_rfl) (by kernel_rfl) (by kernel_rfl) (by kernel_rfl) (fun _ _ _ h => h) (Or.inl ⟨by rfl, ?_⟩) (by assumption) ?_
            rotate_left 1
            · intro w' hSw
              try dsimp only at hSw
              go_simp
              try with_reducible rfl
            try simp only [List.getElem_toArray, List.getElem_cons_zero, List.getElem_cons_succ, Act.put, List.setIfInBounds_toArray, List.set_cons_zero, List.set_cons_succ]
            refine late.take (i := 11) [13, 14, 15] (v := ?_) rfl (by kernel_rfl) (by kernel_rfl) (by kernel_rfl) (by kernel_rfl) (fun _ _ _ h => h) (Or.inl ⟨by rfl, ?_⟩) (by assumption) ?_
            rotate_left 1
            · intro w' hSw
              try dsimp only at hSw
              go_simp
              try with_reducible rfl
            try simp only [List.getElem_toArray, List.getElem_cons_zero, List.getElem_cons_succ, Act.put, List.setIfInBounds_toArray, List.set_cons_zero, List.set_cons_succ]
            refine late.take (i := 12) [13, 14, 15] (v := ?_) rfl (by kernel_rfl) (by kernel_rfl) (by kernel_rfl) (by kernel_rfl) (fun _ _ _ h => h) (Or.inl ⟨by rfl, ?_⟩) (by assumption) ?_
            rotate_left 1
            · intro w' hSw
              try dsimp only at hSw
              go_simp
              try with_reducible rfl
            try simp only [List.getElem_toArray, List.getElem_cons_zero, List.getElem_cons_succ, Act.put, List.setIfInBounds_toArray, List.set_cons_zero, List.set_cons_succ]
            refine late.ready (rs := [13]) (by kernel_rfl) (by simp) ?_
            refine late.Each.cons rfl (fun K hK => ?_) late.Each.nil
            try simp only [List.getElem_toArray, List.getElem_cons_zero, List.getElem_cons_succ]
            go_simp
            go_at_call 8
            with_reducible refine (owi.same_any (some ⟨g1, 0, none⟩) (some ⟨g2, 0, none⟩) n c1 c2 l _ (HP1.out _ (HO6.out.trans hot.out)) (HP2.out _ (HO6.out.trans hot.out))).mono ?_
            rintro _ W3 ⟨rfl, ho⟩
            replace hot := Lib.hid (hot.out.trans ho)
            clear ho
            try dsimp only
            refine hK.out _ _ (fun _ => HSL.out _ hot.out) (fun hHeld3 => ?_)
            replace hHeld3 := hHeld3 rfl
            clear hK K
            try simp only [List.getElem_toArray, List.getElem_cons_zero, List.getElem_cons_succ, Act.put, List.setIfInBounds_toArray, List.set_cons_zero, List.set_cons_succ]
            refine late.take (i := 14) [15] (v := ?_) rfl (by kernel_rfl) (by kernel_rfl) (by kernel_rfl) (by kernel_rfl) (fun _ _ _ h => h) (Or.inl ⟨by rfl, ?_⟩) (by assumption) ?_
            rotate_left 1
            · intro w' hSw
              try dsimp only at hSw
              go_simp
              try with_reducible rfl
            try simp only [List.getElem_toArray, List.getElem_cons_zero, List.getElem_cons_succ, Act.put, List.setIfInBounds_toArray, List.set_cons_zero, List.set_cons_succ]
            refine late.take (i := 15) [] (v := ?_) rfl (by kernel_rfl) (by kernel_rfl) (by kernel_rfl) (by kernel_rfl) (fun _ _ _ h => h) (Or.inl ⟨by rfl, ?_⟩) (by assumption) ?_
            rotate_left 1
            · intro w' hSw
              try dsimp only at hSw
              go_simp
              try with_reducible rfl
            try simp only [List.getElem_toArray, List.getElem_cons_zero, List.getElem_cons_succ, Act.put, List.setIfInBounds_toArray, List.set_cons_zero, List.set_cons_succ]
            refine late.done (by kernel_rfl) ?_ _
            refine NoPanic.normal ?_
            have HO9 := Lib.hid (HO6.out.trans hot.out)
            clear hHeld hot HSL HFR HO6
            go_wp2_with fail
            go_roundw
            case rel => exact ⟨gr + 1, by omega, by omega, by go_num, HO9⟩
            case measure => (simp [intOf]; omega)
          · have HY := Lib.hid hy
            have HRL := Lib.hid hrd
            clear hy hrd
            obtain ⟨lz, hlz⟩ : ∃ x, ls.length = x := ⟨_, rfl⟩
            rw [hlz] at HRL
            have HLE := Lib.hid hlz
            have hl64 : lz ≤ 64 := by rw [← hlz]; exact HY.out.2.2.2.2.2
            clear hlz
            rw [HLE.out]
            go_upto_region 7 with fail
            obtain ⟨w4, hw4⟩ : ∃ x, x = w3.alloc (.cells #[.int .i64 kind, .slice (some ⟨gl, 0, none⟩) lz cl] 25) := ⟨_, rfl⟩
            obtain ⟨p4, hp4⟩ : ∃ x, x = w3.heap.size := ⟨_, rfl⟩
            have ha4 : Only (fun _ => False) w3 w4 := by rw [hw4]; exact (Only.refl _ _).alloc _
            have HC4 : Hid (w4.cell? ⟨p4, 0, none⟩ = some (.int .i64 kind) ∧ w4.cell? ⟨p4, 1, none⟩ = some (.slice (some ⟨gl, 0, none⟩) lz cl)) := Lib.hid (by rw [hw4]; exact ⟨alloc_new _ _ _ _ _ _ hp4 rfl, alloc_new _ _ _ _ _ _ hp4 rfl⟩)
            have HRL4 := Lib.hid (HRL.out.only ha4 (fun _ _ f => f))
            have HO4 : Hid (Only (fun _ => False) w2 w4) := Lib.hid (HO3.out.trans ha4)
            simp only [← hw4, ← hp4]
            clear hw4 hp4 HO3 ha4 HRL
            have HRN := Lib.hid (rmake_yes kind amount gr HGI.out (some ⟨g2, 0, none⟩) n c2 l ls w4 (HP2.out w4 HO4.out) HY.out)
            go_wp2_with fail
            refine HRN.out.mono ?_
            rintro _ w5 ⟨⟨al, dl, rfl, hra⟩, ho⟩
            rw [HLE.out] at hra ⊢
            have HRA5 := Lib.hid hra
            have HC5 : Hid (w5.cell? ⟨p4, 0, none⟩ = some (.int .i64 kind) ∧ w5.cell? ⟨p4, 1, none⟩ = some (.slice (some ⟨gl, 0, none⟩) lz cl)) := Lib.hid ⟨ho.cell' HC4.out.1 (fun f => f), ho.cell' HC4.out.2 (fun f => f)⟩
            have HRL5 := Lib.hid (HRL4.out.only ho (fun _ _ f => f))
            have HO5 := Lib.hid (HO4.out.trans ho)
            clear ho HRN HC4 HO4 hra HRL4
            go_upto_region 8 with fail
            obtain ⟨w6, hw6⟩ : ∃ x, x = w5.alloc (.cells #[.int .i64 kind, .slice al lz dl] 31) := ⟨_, rfl⟩
            obtain ⟨p6, hp6⟩ : ∃ x, x = w5.heap.size := ⟨_, rfl⟩
            have ha6 : Only (fun _ => False) w5 w6 := by rw [hw6]; exact (Only.refl _ _).alloc _
            have HSL : Hid (∀ w', Only (fun _ => False) w6 w' → w'.cell? ⟨p4, 0, none⟩ = some (.int .i64 kind) ∧ w'.cell? ⟨p4, 1, none⟩ = some (.slice (some ⟨gl, 0, none⟩) lz cl) ∧ w'.cell? ⟨p6, 0, none⟩ = some (.int .i64 kind) ∧ w'.cell? ⟨p6, 1, none⟩ = some (.slice al lz dl)) := Lib.hid (fun w' ho => ⟨(ha6.trans ho).cell' HC5.out.1 (fun f => f), (ha6.trans ho).cell' HC5.out.2 (fun f => f), ho.cell' (by rw [hw6]; exact alloc_new _ _ _ _ _ _ hp6 rfl) (fun f => f), ho.cell' (by rw [hw6]; exact alloc_new _ _ _ _ _ _ hp6 rfl) (fun f => f)⟩)
            have HRG : Hid (∀ w', Only (fun _ => False) w6 w' → ReadsL w' (some ⟨gl, 0, none⟩) lz ls) := Lib.hid (fun w' ho => HRL5.out.only (ha6.trans ho) (fun _ _ f => f))
            have HRA : Hid (∀ w', Only (fun _ => False) w6 w' → ReadsL w' al lz ls) := Lib.hid (fun w' ho => HRA5.out.only (ha6.trans ho) (fun _ _ f => f))
            have HO6 := Lib.hid (HO5.out.trans ha6)
            have HFR : Hid (∀ w', Only (fun _ => False) w6 w' → _) := Lib.hid (fun w' (ho : Only (fun _ => False) w6 w') => from_any kind (some ⟨gl, 0, none⟩) lz cl ls w' (HRG.out w' ho) (by omega))
            unfold LegsMade at HFR
            simp only [← hw6, ← hp6]
            clear hw6 hp6 ha6 HC5 HO5 HRA5 HRL5
            refine wp_region_noPanic ?_
            refine late.region (fun w' => w'.cell? ⟨p4, 0, none⟩ = some (.int .i64 kind) ∧ w'.cell? ⟨p4, 1, none⟩ = some (.slice (some ⟨gl, 0, none⟩) lz cl) ∧ w'.cell? ⟨p6, 0, none⟩ = some (.int .i64 kind) ∧ w'.cell? ⟨p6, 1, none⟩ = some (.slice al lz dl)) (fun j => [].contains j) (by kernel_rfl) (HSL.out _ (Only.refl _ _).drew) (fun hHeld => ?_)
            obtain ⟨z0, hz0⟩ : ∃ x, x = w6.drew := ⟨_, rfl⟩
            rw [← hz0] at hHeld ⊢
            have hot : Hid (Only (fun _ => False) w6 z0) := Lib.hid (by rw [hz0]; exact (Only.refl _ _).drew)
            clear hz0
            refine late.take (i := 0) [2, 3, 4, 5, 6, 7, 8, 9, 10, 11, 12, 13, 14, 15] (v := ?_) rfl (by kernel_rfl) (by kernel_rfl) (by kernel_rfl) (by kernel_rfl) (fun _ _ _ h => h) (Or.inl ⟨by rfl, ?_⟩) (by assumption) ?_
            rotate_left 1
            · intro w' hSw
              try dsimp only at hSw
              go_simp
              try with_reducible rfl
            try simp only [List.getElem_toArray, List.getElem_cons_zero, Act.put, List.setIfInBounds_toArray, List.set_cons_zero, List.set_cons_succ]
            refine late.take (i := 1) [2, 3, 4, 5, 6, 7, 8, 9, 10, 11, 12, 13, 14, 15] (v := ?_) rfl (by kernel_rfl) (by kernel_rfl) (by kernel_rfl) (by kernel_rfl) (fun _ _ _ h => h) (Or.inl ⟨by rfl, ?_⟩) (by assumption) ?_
            rotate_left 1
            · intro w' hSw
              try dsimp only at hSw
              go_simp
              try with_reducible rfl
            try simp only [List.getElem_toArray, List.getElem_cons_zero, List.getElem_cons_succ, Act.put, List.setIfInBounds_toArray, List.set_cons_zero, List.set_cons_succ]
            refine late.take (i := 2) [3, 4, 5, 6, 7, 8, 9, 10, 11, 12, 13, 14, 15] (v := ?_) rfl (by kernel_rfl) (by kernel_rfl) (by kernel_rfl) (by kernel_rfl) (fun _ _ _ h => h) (Or.inl ⟨by rfl, ?_⟩) (by assumption) ?_
            rotate_left 1
            · intro w' hSw
              try dsimp only at hSw
              go_simp
              try with_reducible rfl
            try simp only [List.getElem_toArray, List.getElem_cons_zero, List.getElem_cons_succ, Act.put, List.setIfInBounds_toArray, List.set_cons_zero, List.set_cons_succ]
            refine late.take (i := 3) [4, 5, 6, 7, 8, 9, 10, 11, 12, 13, 14, 15] (v := ?_) rfl (by kernel_rfl) (by kernel_rfl) (by kernel_rfl) (by kernel_rfl) (fun _ _ _ h => h) (Or.inl ⟨by rfl, ?_⟩) (by assumption) ?_
            rotate_left 1
            · intro w' hSw
              try dsimp only at hSw
              go_simp
              try with_reducible rfl
            try simp only [List.getElem_toArray, List.getElem_cons_zero, List.getElem_cons_succ, Act.put, List.setIfInBounds_toArray, List.set_cons_zero, List.set_cons_succ]
            refine late.take (i := 4) [5, 7, 8, 9, 10, 11, 12, 13, 14, 15] (v := ?_) rfl (by kernel_rfl) (by kernel_rfl) (by kernel_rfl) (by kernel_rfl) (fun _ _ _ h => h) (Or.inl ⟨by rfl, ?_⟩) (by assumption) ?_
            rotate_left 1
            · intro w' hSw
              try dsimp only at hSw
              go_simp
              try with_reducible rfl
            try simp only [List.getElem_toArray, List.getElem_cons_zero, List.getElem_cons_succ, Act.put, List.setIfInBounds_toArray, List.set_cons_zero, List.set_cons_succ]
            refine late.take (i := 6) [7, 8, 9, 10, 11, 12, 13, 14, 15] (v := ?_) rfl (by kernel_rfl) (by kernel_rfl) (by kernel_rfl) (by kernel_rfl) (fun _ _ _ h => h) (Or.inl ⟨by rfl, ?_⟩) (by assumption) ?_
            rotate_left 1
            · intro w' hSw
              try dsimp only at hSw
              go_simp
              try with_reducible rfl
            try simp only [List.getElem_toArray, List.getElem_cons_zero, List.getElem_cons_succ, Act.put, List.setIfInBounds_toArray, List.set_cons_zero, List.set_cons_succ]
            refine late.ready (rs := [5]) (by kernel_rfl) (by simp) ?_
            refine late.Each.cons rfl (fun K hK => ?_) late.Each.nil
            try simp only [List.getElem_toArray, List.getElem_cons_zero, List.getElem_cons_succ]
            go_simp
            go_at_call 7
            with_reducible refine (HFR.out _ hot.out).mono ?_
            rintro _ W1 ⟨fa, fc, rfl, hfr, -, -, ho⟩
            rw [HLE.out]
            have HFA := Lib.hid (HLE.out ▸ hfr)
            clear hfr
            replace hot := Lib.hid (hot.out.trans ho)
            clear ho
            try dsimp only
            refine hK.out _ _ (fun _ => HSL.out _ hot.out) (fun hHeld1 => ?_)
            replace hHeld1 := hHeld1 rfl
            clear hK K
            try simp only [List.getElem_toArray, List.getElem_cons_zero, List.getElem_cons_succ, Act.put, List.setIfInBounds_toArray, List.set_cons_zero, List.set_cons_succ]
            refine late.ready (rs := [7]) (by kernel_rfl) (by simp) ?_
            refine late.Each.cons rfl (fun K hK => ?_) late.Each.nil
            try simp only [List.getElem_toArray, List.getElem_cons_zero, List.getElem_cons_succ]
            go_simp
            go_at_call 6
            with_reducible refine (same_yes kind fa al lz fc dl ls _ HFA.out (HRA.out _ hot.out)).mono ?_
            rintro _ W2 ⟨rfl, ho⟩
            replace hot := Lib.hid (hot.out.trans ho)
            clear ho
            try dsimp only
            refine hK.out _ _ (fun _ => HSL.out _ hot.out) (fun hHeld2 => ?_)
            replace hHeld2 := hHeld2 rfl
            clear hK K
            try simp only [List.getElem_toArray, List.getElem_cons_zero, List.getElem_cons_succ, Act.put, List.setIfInBounds_toArray, List.set_cons_zero, List.set_cons_succ]
            refine late.take (i := 8) [9, 10, 11, 12, 13, 14, 15] (v := ?_) rfl (by kernel_rfl) (by kernel_rfl) (by kernel_rfl) (by kernel_rfl) (fun _ _ _ h => h) (Or.inl ⟨by rfl, ?_⟩) (by assumption) ?_
            rotate_left 1
            · intro w' hSw
              try dsimp only at hSw
              go_simp
              try with_reducible rfl
            try simp only [List.getElem_toArray, List.getElem_cons_zero, List.getElem_cons_succ, Act.put, List.setIfInBounds_toArray, List.set_cons_zero, List.set_cons_succ]
            refine late.take (i := 9) [10, 11, 12, 13, 14, 15] (v := ?_) rfl (by kernel_rfl) (by kernel_rfl) (by kernel_rfl) (by kernel_rfl) (fun _ _ _ h => h) (Or.inl ⟨by rfl, ?_⟩) (by assumption) ?_
            rotate_left 1
            · intro w' hSw
              try dsimp only at hSw
              go_simp
              try with_reducible rfl
            try simp only [List.getElem_toArray, List.getElem_cons_zero, List.getElem_cons_succ, Act.put, List.setIfInBounds_toArray, List.set_cons_zero, List.set_cons_succ]
            refine late.take (i := 10) [11, 12, 13, 14, 15] (v := ?_) rfl (by kernel_rfl) (by kernel_rfl) (by kernel_rfl) (by kernel_rfl) (fun _ _ _ h => h) (Or.inl ⟨by rfl, ?_⟩) (by assumption) ?_
            rotate_left 1
            · intro w' hSw
              try dsimp only at hSw
              go_simp
              try with_reducible rfl
            try simp only [List.getElem_toArray, List.getElem_cons_zero, List.getElem_cons_succ, Act.put, List.setIfInBounds_toArray, List.set_cons_zero, List.set_cons_succ]
            refine late.take (i := 11) [13, 14, 15] (v := ?_) rfl (by kernel_rfl) (by kernel_rfl) (by kernel_rfl) (by kernel_rfl) (fun _ _ _ h => h) (Or.inl ⟨by rfl, ?_⟩) (by assumption) ?_
            rotate_left 1
            · intro w' hSw
              try dsimp only at hSw
              go_simp
              try with_reducible rfl
            try simp only [List.getElem_toArray, List.getElem_cons_zero, List.getElem_cons_succ, Act.put, List.setIfInBounds_toArray, List.set_cons_zero, List.set_cons_succ]
            refine late.take (i := 12) [13, 14, 15] (v := ?_) rfl (by kernel_rfl) (by kernel_rfl) (by kernel_rfl) (by kernel_rfl) (fun _ _ _ h => h) (Or.inl ⟨by rfl, ?_⟩) (by assumption) ?_
            rotate_left 1
            · intro w' hSw
              try dsimp only at hSw
              go_simp
              try with_reducible rfl
            try simp only [List.getElem_toArray, List.getElem_cons_zero, List.getElem_cons_succ, Act.put, List.setIfInBounds_toArray, List.set_cons_zero, List.set_cons_succ]
            refine late.ready (rs := [13]) (by kernel_rfl) (by simp) ?_
            refine late.Each.cons rfl (fun K hK => ?_) late.Each.nil
            try simp only [List.getElem_toArray, List.getElem_cons_zero, List.getElem_cons_succ]
            go_simp
            go_at_call 8
            with_reducible refine (owi.same_any (some ⟨g1, 0, none⟩) (some ⟨g2, 0, none⟩) n c1 c2 l _ (HP1.out _ (HO6.out.trans hot.out)) (HP2.out _ (HO6.out.trans hot.out))).mono ?_
            rintro _ W3 ⟨rfl, ho⟩
            replace hot := Lib.hid (hot.out.trans ho)
            clear ho
            try dsimp only
            refine hK.out _ _ (fun _ => HSL.out _ hot.out) (fun hHeld3 => ?_)
            replace hHeld3 := hHeld3 rfl
            clear hK K
            try simp only [List.getElem_toArray, List.getElem_cons_zero, List.getElem_cons_succ, Act.put, List.setIfInBounds_toArray, List.set_cons_zero, List.set_cons_succ]
            refine late.take (i := 14) [15] (v := ?_) rfl (by kernel_rfl) (by kernel_rfl) (by kernel_rfl) (by kernel_rfl) (fun _ _ _ h => h) (Or.inl ⟨by rfl, ?_⟩) (by assumption) ?_
            rotate_left 1
            · intro w' hSw
              try dsimp only at hSw
              go_simp
              try with_reducible rfl
            try simp only [List.getElem_toArray, List.getElem_cons_zero, List.getElem_cons_succ, Act.put, List.setIfInBounds_toArray, List.set_cons_zero, List.set_cons_succ]
            refine late.take (i := 15) [] (v := ?_) rfl (by kernel_rfl) (by kernel_rfl) (by kernel_rfl) (by kernel_rfl) (fun _ _ _ h => h) (Or.inl ⟨by rfl, ?_⟩) (by assumption) ?_
            rotate_left 1
            · intro w' hSw
              try dsimp only at hSw
              go_simp
              try with_reducible rfl
            try simp only [List.getElem_toArray, List.getElem_cons_zero, List.getElem_cons_succ, Act.put, List.setIfInBounds_toArray, List.set_cons_zero, List.set_cons_succ]
            refine late.done (by kernel_rfl) ?_ _
            refine NoPanic.normal ?_
            have HO7 := Lib.hid (HO6.out.trans hot.out)
            have HO67 := Lib.hid hot.out
            obtain ⟨k0, k1, k2, k3⟩ := HSL.out _ hot.out
            clear hHeld hot HFR
            rename World => w7
            have HWR := Lib.hid (ewrite_yes kind (some ⟨gl, 0, none⟩) lz cl ls w7 (HRG.out w7 HO67.out) HY.out.2.2.2.1)
            unfold Written at HWR
            go_wp2_with fail
            refine HWR.out.mono ?_
            rintro _ w8 ⟨v8, rfl, hob, ho, -⟩
            obtain ⟨ba, bn, bc, rfl, hby⟩ := codw.bytes_of_own hob
            have HBY := Lib.hid hby
            have HO68 := Lib.hid (HO67.out.trans ho)
            clear hob hby ho k0 k1 k2 k3 HWR
            have HRD := Lib.hid (eread_yes kind ba bn bc ls w8 HBY.out HY.out.2.2.2.1 HY.out.2.2.2.2.1)
            unfold ReadAt at HRD
            go_wp2_with fail
            refine HRD.out.mono ?_
            rintro _ w8b ⟨gy, cy, rfl, hry, -, ho⟩
            have HRY := Lib.hid (HLE.out ▸ hry)
            have HO8 := Lib.hid (HO68.out.trans ho)
            rw [HLE.out]
            clear hry ho HRD HBY HO68 HO67
            go_upto_region 13 with fail
            obtain ⟨w9, hw9⟩ : ∃ x, x = w8b.alloc (.cells #[.int .i64 kind, .slice (some ⟨gy, 0, none⟩) lz cy] 25) := ⟨_, rfl⟩
            obtain ⟨p9, hp9⟩ : ∃ x, x = w8b.heap.size := ⟨_, rfl⟩
            have ha9 : Only (fun _ => False) w8b w9 := by rw [hw9]; exact (Only.refl _ _).alloc _
            have HO69 : Hid (Only (fun _ => False) w6 w9) := Lib.hid (HO8.out.trans ha9)
            have HO9 : Hid (Only (fun _ => False) w2 w9) := Lib.hid (HO6.out.trans HO69.out)
            have HSL9 : Hid (∀ w', Only (fun _ => False) w9 w' → w'.cell? ⟨p4, 0, none⟩ = some (.int .i64 kind) ∧ w'.cell? ⟨p4, 1, none⟩ = some (.slice (some ⟨gl, 0, none⟩) lz cl) ∧ w'.cell? ⟨p6, 0, none⟩ = some (.int .i64 kind) ∧ w'.cell? ⟨p6, 1, none⟩ = some (.slice al lz dl) ∧ w'.cell? ⟨p9, 0, none⟩ = some (.int .i64 kind) ∧ w'.cell? ⟨p9, 1, none⟩ = some (.slice (some ⟨gy, 0, none⟩) lz cy)) := Lib.hid (fun w' ho => by
              obtain ⟨q0, q1, q2, q3⟩ := HSL.out w' (HO69.out.trans ho)
              exact ⟨q0, q1, q2, q3, ho.cell' (by rw [hw9]; exact alloc_new _ _ _ _ _ _ hp9 rfl) (fun f => f), ho.cell' (by rw [hw9]; exact alloc_new _ _ _ _ _ _ hp9 rfl) (fun f => f)⟩)
            have HFY : Hid (∀ w', Only (fun _ => False) w9 w' → _) := Lib.hid (fun w' (ho : Only (fun _ => False) w9 w') => from_any kind (some ⟨gy, 0, none⟩) lz cy ls w' (HRY.out.only (ha9.trans ho) (fun _ _ f => f)) (by have := HY.out.2.2.2.2.2; have := HLE.out; omega))
            unfold LegsMade at HFY
            have hck := fun w' (ho : Only (fun _ => False) w9 w') => check_any kind (some ⟨gl, 0, none⟩) lz cl ls w' (HRG.out w' (HO69.out.trans ho))
            rw [HY.out.2.2.2.1] at hck
            have HCK := Lib.hid hck
            simp only [← hw9, ← hp9]
            clear hw9 hp9 ha9 HRY HO8 HO7 HSL hck HO6
            refine wp_region_noPanic ?_
            refine late.region (fun w' => w'.cell? ⟨p4, 0, none⟩ = some (.int .i64 kind) ∧ w'.cell? ⟨p4, 1, none⟩ = some (.slice (some ⟨gl, 0, none⟩) lz cl) ∧ w'.cell? ⟨p6, 0, none⟩ = some (.int .i64 kind) ∧ w'.cell? ⟨p6, 1, none⟩ = some (.slice al lz dl) ∧ w'.cell? ⟨p9, 0, none⟩ = some (.int .i64 kind) ∧ w'.cell? ⟨p9, 1, none⟩ = some (.slice (some ⟨gy, 0, none⟩) lz cy)) (fun j => [].contains j) (by kernel_rfl) (HSL9.out _ (Only.refl _ _).drew) (fun hHeld => ?_)
            obtain ⟨z0, hz0⟩ : ∃ x, x = w9.drew := ⟨_, rfl⟩
            rw [← hz0] at hHeld ⊢
            have hot : Hid (Only (fun _ => False) w9 z0) := Lib.hid (by rw [hz0]; exact (Only.refl _ _).drew)
            clear hz0
            refine late.take (i := 0) [1, 2, 3, 4, 5, 6, 7, 8, 9, 10, 11, 12, 13, 14, 15, 16, 17] (v := ?_) rfl (by kernel_rfl) (by kernel_rfl) (by kernel_rfl) (by kernel_rfl) (fun _ _ _ h => h) (Or.inl ⟨by rfl, ?_⟩) (by assumption) ?_
            rotate_left 1
            · intro w' hSw
              try dsimp only at hSw
              go_simp
              try with_reducible rfl
            try simp only [List.getElem_toArray, List.getElem_cons_zero, Act.put, List.setIfInBounds_toArray, List.set_cons_zero, List.set_cons_succ]
            refine late.ready (rs := [1]) (by kernel_rfl) (by simp) ?_
            refine late.Each.cons rfl (fun K hK => ?_) late.Each.nil
            try simp only [List.getElem_toArray, List.getElem_cons_zero, List.getElem_cons_succ]
            go_simp
            go_at_call 11
            with_reducible refine (HCK.out _ hot.out).mono ?_
            rintro _ W1 ⟨rfl, ho⟩
            replace hot := Lib.hid (hot.out.trans ho)
            clear ho
            try dsimp only
            refine hK.out _ _ (fun _ => HSL9.out _ hot.out) (fun hHeld1 => ?_)
            replace hHeld1 := hHeld1 rfl
            clear hK K
            try simp only [List.getElem_toArray, List.getElem_cons_zero, List.getElem_cons_succ, Act.put, List.setIfInBounds_toArray, List.set_cons_zero, List.set_cons_succ]
            refine late.take (i := 2) [3, 4, 5, 6, 7, 8, 9, 10, 11, 12, 13, 14, 15, 16, 17] (v := ?_) rfl (by kernel_rfl) (by kernel_rfl) (by kernel_rfl) (by kernel_rfl) (fun _ _ _ h => h) (Or.inl ⟨by rfl, ?_⟩) (by assumption) ?_
            rotate_left 1
            · intro w' hSw
              try dsimp only at hSw
              go_simp
              try with_reducible rfl
            try simp only [List.getElem_toArray, List.getElem_cons_zero, List.getElem_cons_succ, Act.put, List.setIfInBounds_toArray, List.set_cons_zero, List.set_cons_succ]
            refine late.take (i := 3) [4, 5, 6, 7, 8, 9, 10, 11, 12, 13, 14, 15, 16, 17] (v := ?_) rfl (by kernel_rfl) (by kernel_rfl) (by kernel_rfl) (by kernel_rfl) (fun _ _ _ h => h) (Or.inl ⟨by rfl, ?_⟩) (by assumption) ?_
            rotate_left 1
            · intro w' hSw
              try dsimp only at hSw
              go_simp
              try with_reducible rfl
            try simp only [List.getElem_toArray, List.getElem_cons_zero, List.getElem_cons_succ, Act.put, List.setIfInBounds_toArray, List.set_cons_zero, List.set_cons_succ]
            refine late.take (i := 4) [5, 6, 7, 8, 9, 10, 11, 12, 13, 14, 15, 16, 17] (v := ?_) rfl (by kernel_rfl) (by kernel_rfl) (by kernel_rfl) (by kernel_rfl) (fun _ _ _ h => h) (Or.inl ⟨by rfl, ?_⟩) (by assumption) ?_
            rotate_left 1
            · intro w' hSw
              try dsimp only at hSw
              go_simp
              try with_reducible rfl
            try simp only [List.getElem_toArray, List.getElem_cons_zero, List.getElem_cons_succ, Act.put, List.setIfInBounds_toArray, List.set_cons_zero, List.set_cons_succ]
            refine late.take (i := 5) [6, 7, 8, 9, 10, 11, 12, 13, 14, 15, 16, 17] (v := ?_) rfl (by kernel_rfl) (by kernel_rfl) (by kernel_rfl) (by kernel_rfl) (fun _ _ _ h => h) (Or.inl ⟨by rfl, ?_⟩) (by assumption) ?_
            rotate_left 1
            · intro w' hSw
              try dsimp only at hSw
              go_simp
              try with_reducible rfl
            try simp only [List.getElem_toArray, List.getElem_cons_zero, List.getElem_cons_succ, Act.put, List.setIfInBounds_toArray, List.set_cons_zero, List.set_cons_succ]
            refine late.take (i := 6) [7, 8, 9, 10, 11, 12, 13, 14, 15, 16, 17] (v := ?_) rfl (by kernel_rfl) (by kernel_rfl) (by kernel_rfl) (by kernel_rfl) (fun _ _ _ h => h) (Or.inl ⟨by rfl, ?_⟩) (by assumption) ?_
            rotate_left 1
            · intro w' hSw
              try dsimp only at hSw
              go_simp
              try with_reducible rfl
            try simp only [List.getElem_toArray, List.getElem_cons_zero, List.getElem_cons_succ, Act.put, List.setIfInBounds_toArray, List.set_cons_zero, List.set_cons_succ]
            refine late.take (i := 7) [8, 9, 10, 11, 12, 13, 14, 15, 16, 17] (v := ?_) rfl (by kernel_rfl) (by kernel_rfl) (by kernel_rfl) (by kernel_rfl) (fun _ _ _ h => h) (Or.inl ⟨by rfl, ?_⟩) (by assumption) ?_
            rotate_left 1
            · intro w' hSw
              try dsimp only at hSw
              go_simp
              try with_reducible rfl
            try simp only [List.getElem_toArray, List.getElem_cons_zero, List.getElem_cons_succ, Act.put, List.setIfInBounds_toArray, List.set_cons_zero, List.set_cons_succ]
            refine late.take (i := 8) [9, 10, 11, 12, 13, 14, 15, 16, 17] (v := ?_) rfl (by kernel_rfl) (by kernel_rfl) (by kernel_rfl) (by kernel_rfl) (fun _ _ _ h => h) (Or.inl ⟨by rfl, ?_⟩) (by assumption) ?_
            rotate_left 1
            · intro w' hSw
              try dsimp only at hSw
              go_simp
              try with_reducible rfl
            try simp only [List.getElem_toArray, List.getElem_cons_zero, List.getElem_cons_succ, Act.put, List.setIfInBounds_toArray, List.set_cons_zero, List.set_cons_succ]
            refine late.take (i := 9) [10, 11, 12, 13, 14, 15, 16, 17] (v := ?_) rfl (by kernel_rfl) (by kernel_rfl) (by kernel_rfl) (by kernel_rfl) (fun _ _ _ h => h) (Or.inl ⟨by rfl, ?_⟩) (by assumption) ?_
            rotate_left 1
            · intro w' hSw
              try dsimp only at hSw
              go_simp
              try with_reducible rfl
            try simp only [List.getElem_toArray, List.getElem_cons_zero, List.getElem_cons_succ, Act.put, List.setIfInBounds_toArray, List.set_cons_zero, List.set_cons_succ]
            refine late.take (i := 10) [11, 12, 13, 14, 15, 16, 17] (v := ?_) rfl (by kernel_rfl) (by kernel_rfl) (by kernel_rfl) (by kernel_rfl) (fun _ _ _ h => h) (Or.inl ⟨by rfl, ?_⟩) (by assumption) ?_
            rotate_left 1
            · intro w' hSw
              try dsimp only at hSw
              go_simp
              try with_reducible rfl
            try simp only [List.getElem_toArray, List.getElem_cons_zero, List.getElem_cons_succ, Act.put, List.setIfInBounds_toArray, List.set_cons_zero, List.set_cons_succ]
            refine late.take (i := 11) [12, 13, 14, 15, 16, 17] (v := ?_) rfl (by kernel_rfl) (by kernel_rfl) (by kernel_rfl) (by kernel_rfl) (fun _ _ _ h => h) (Or.inl ⟨by rfl, ?_⟩) (by assumption) ?_
            rotate_left 1
            · intro w' hSw
              try dsimp only at hSw
              go_simp
              try with_reducible rfl
            try simp only [List.getElem_toArray, List.getElem_cons_zero, List.getElem_cons_succ, Act.put, List.setIfInBounds_toArray, List.set_cons_zero, List.set_cons_succ]
            refine late.take (i := 12) [13, 15, 16, 17] (v := ?_) rfl (by kernel_rfl) (by kernel_rfl) (by kernel_rfl) (by kernel_rfl) (fun _ _ _ h => h) (Or.inl ⟨by rfl, ?_⟩) (by assumption) ?_
            rotate_left 1
            · intro w' hSw
              try dsimp only at hSw
              go_simp
              try with_reducible rfl
            try simp only [List.getElem_toArray, List.getElem_cons_zero, List.getElem_cons_succ, Act.put, List.setIfInBounds_toArray, List.set_cons_zero, List.set_cons_succ]
            refine late.take (i := 14) [15, 16, 17] (v := ?_) rfl (by kernel_rfl) (by kernel_rfl) (by kernel_rfl) (by kernel_rfl) (fun _ _ _ h => h) (Or.inl ⟨by rfl, ?_⟩) (by assumption) ?_
            rotate_left 1
            · intro w' hSw
              try dsimp only at hSw
              go_simp
              try with_reducible rfl
            try simp only [List.getElem_toArray, List.getElem_cons_zero, List.getElem_cons_succ, Act.put, List.setIfInBounds_toArray, List.set_cons_zero, List.set_cons_succ]
            refine late.ready (rs := [13]) (by kernel_rfl) (by simp) ?_
            refine late.Each.cons rfl (fun K hK => ?_) late.Each.nil
            try simp only [List.getElem_toArray, List.getElem_cons_zero, List.getElem_cons_succ]
            go_simp
            go_at_call 7
            with_reducible refine (HFY.out _ hot.out).mono ?_
            rintro _ W2 ⟨fa2, fc2, rfl, hfr, -, -, ho⟩
            rw [HLE.out]
            have HFB := Lib.hid (HLE.out ▸ hfr)
            clear hfr
            replace hot := Lib.hid (hot.out.trans ho)
            clear ho
            try dsimp only
            refine hK.out _ _ (fun _ => HSL9.out _ hot.out) (fun hHeld2 => ?_)
            replace hHeld2 := hHeld2 rfl
            clear hK K
            try simp only [List.getElem_toArray, List.getElem_cons_zero, List.getElem_cons_succ, Act.put, List.setIfInBounds_toArray, List.set_cons_zero, List.set_cons_succ]
            refine late.ready (rs := [15]) (by kernel_rfl) (by simp) ?_
            refine late.Each.cons rfl (fun K hK => ?_) late.Each.nil
            try simp only [List.getElem_toArray, List.getElem_cons_zero, List.getElem_cons_succ]
            go_simp
            go_at_call 6
            with_reducible refine (same_yes kind fa2 al lz fc2 dl ls _ HFB.out (HRA.out _ (HO69.out.trans hot.out))).mono ?_
            rintro _ W3 ⟨rfl, ho⟩
            replace hot := Lib.hid (hot.out.trans ho)
            clear ho
            try dsimp only
            refine hK.out _ _ (fun _ => HSL9.out _ hot.out) (fun hHeld3 => ?_)
            replace hHeld3 := hHeld3 rfl
            clear hK K
            try simp only [List.getElem_toArray, List.getElem_cons_zero, List.getElem_cons_succ, Act.put, List.setIfInBounds_toArray, List.set_cons_zero, List.set_cons_succ]
            refine late.take (i := 16) [17] (v := ?_) rfl (by kernel_rfl) (by kernel_rfl) (by kernel_rfl) (by kernel_rfl) (fun _ _ _ h => h) (Or.inl ⟨by rfl, ?_⟩) (by assumption) ?_
            rotate_left 1
            · intro w' hSw
              try dsimp only at hSw
              go_simp
              try with_reducible rfl
            try simp only [List.getElem_toArray, List.getElem_cons_zero, List.getElem_cons_succ, Act.put, List.setIfInBounds_toArray, List.set_cons_zero, List.set_cons_succ]
            refine late.take (i := 17) [] (v := ?_) rfl (by kernel_rfl) (by kernel_rfl) (by kernel_rfl) (by kernel_rfl) (fun _ _ _ h => h) (Or.inl ⟨by rfl, ?_⟩) (by assumption) ?_
            rotate_left 1
            · intro w' hSw
              try dsimp only at hSw
              go_simp
              try with_reducible rfl
            try simp only [List.getElem_toArray, List.getElem_cons_zero, List.getElem_cons_succ, Act.put, List.setIfInBounds_toArray, List.set_cons_zero, List.set_cons_succ]
            refine late.done (by kernel_rfl) ?_ _
            refine NoPanic.normal ?_
            have HO10 := Lib.hid (HO9.out.trans hot.out)
            clear hHeld hot HSL9 HFY HCK HO9 HRA HRG
            go_wp2_with fail
            go_roundw
            case rel => exact ⟨gr + 1, by omega, by omega, by go_num, HO10⟩
            case measure => (simp [intOf]; omega)
        · have hge : ¬ gr < 10 := h8
          have hg10 : gr = 10 := by omega
          subst hg10
          go_wp2_with fail
          refine (ents_any _).mono ?_
          rintro _ w3 ⟨rfl, ho⟩
          have HO3 := Lib.hid (HOF.out.trans (HO.out.trans ho))
          clear ho
          go_wp2_with fail
          go_ret
          exact ⟨rfl, HO3.out⟩
theorem makes_walk (kind amount : Int) (a : Option Addr) (len cap : Nat) (l : List Int) (w : World) (h : IntsR w a len cap l) :
    Calls Try.prog 3 #[.int .i64 kind, .int .i64 amount, .slice a len cap] w fun e w' => e = .returned (.bool true) ∧ Below w.heap.size w w' :=
  (makes_any kind amount a len cap l w h).mono fun _ _ ⟨p, q⟩ => ⟨p, q.none⟩
end Go.Proofs.Ytnhlmodhmodilaa.entw
