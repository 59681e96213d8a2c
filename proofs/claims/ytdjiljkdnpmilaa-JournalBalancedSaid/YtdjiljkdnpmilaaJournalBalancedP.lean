/- JournalBalanced returns true for every row of jobs, and leaves what came in as it was; nothing is asked of the inputs. -/
import Derived.Test.YtdjiljkdnpmilaaJnN
import Derived.Test.YtdjiljkdnpmilaaJoO
import Derived.Test.YtdjiljkdnpmilaaRows
import Derived.WalkKit
import Derived.ProofKit
import Derived.OpenShut
import Derived.ShutString
import Derived.ChangeOld
import Derived.Below
namespace Go.Proofs.Ytdjiljkdnpmilaa.jnw
open Go.RowKit mem accm accn entw entm acck
set_option linter.unusedVariables false

/-- a journal that came of posts and closes alone -/
def Jn (p : Nat) (most : Nat) (wx : World) : Prop := ∃ (op : Nat) (v : Value) (m : Option Nat) (nn : Nat) (C : Ac → Option (List Int)) (L : List Ps) (K : List Ac), JnAt (fun q => p ≤ q) wx p v op m nn C L ∧ L.length ≤ most ∧ InvK C K 0 ∧ InvR C op
theorem Jn.quiet {p most : Nat} {w w' : World} (h : Jn p most w) (ho : Only (fun _ => False) w w') : Jn p most w' := by
  obtain ⟨op, v, m, nn, C, L, K, h1, h2⟩ := h
  exact ⟨op, v, m, nn, C, L, K, h1.quiet ho, h2⟩
theorem Jn.mono {p most most' : Nat} {w : World} (h : Jn p most w) (hm : most ≤ most') : Jn p most' w := by
  obtain ⟨op, v, m, nn, C, L, K, h1, h2, h3⟩ := h
  exact ⟨op, v, m, nn, C, L, K, h1, Nat.le_trans h2 hm, h3⟩
theorem jn_close (p most : Nat) (w : World) (h : Jn p most w) : Calls Try.prog 14 #[.pointer (some ⟨p, 0, none⟩)] w fun e w' => (∃ k er, e = .returned (.tuple #[.int .i64 k, .int .i64 er])) ∧ Jn p most w' ∧ Only (fun q => q = p) w w' := by
  obtain ⟨op, v, m, nn, C, L, K, h1, h2, h3, h4⟩ := h
  by_cases ho : op < 31
  · refine (close_yes p op v m w h1.jc ho).mono ?_
    rintro _ w' ⟨rfl, hj, ho⟩
    exact ⟨⟨_, _, rfl⟩, ⟨op + 1, v, m, nn, C, L, K, h1.close hj ho, h2, h3, h4.close⟩, ho⟩
  · refine (close_full p op v m w h1.jc (by omega)).mono ?_
    rintro _ w' ⟨rfl, rfl⟩
    exact ⟨⟨_, _, rfl⟩, ⟨op, v, m, nn, C, L, K, h1, h2, h3, h4⟩, Only.refl _ _⟩
theorem jn_post (p most : Nat) (hmost : most < 16384) (kind : Int) (a : Option Addr) (n cap : Nat) (ls : List Lg) (w w0 : World) (h0 : Jn p most w0) (h00 : Only (fun _ => False) w0 w) (hr : ReadsL w a n ls) (ha : ∀ x, a = some x → w0.heap.size ≤ x.block) :
    Calls Try.prog 13 #[.pointer (some ⟨p, 0, none⟩), .agg #[.int .i64 kind, .slice a n cap]] w fun e w' => (∃ k er, e = .returned (.tuple #[.int .i64 k, .int .i64 er])) ∧ Jn p (most + 1) w' ∧ Only (fun q => p ≤ q) w w' := by
  obtain ⟨op, v, m, nn, C, L, K, h1, h2, h3, h4⟩ := h0
  have h5 : JnAt (fun q => p ≤ q ∧ q < w0.heap.size) w p v op m nn C L := (h1.mono (fun q hq s => ⟨s, hq⟩)).quiet h00
  refine (post_any p op v m nn C L kind a n cap ls w h5 hr (by omega) (fun x e s => by have := ha x e; omega)).mono ?_
  rintro _ w' (⟨_, rfl, ho⟩ | ⟨_, hc, rfl, ⟨v', m', nn', g, cp, h6⟩, ho⟩)
  · exact ⟨⟨_, _, rfl⟩, ⟨op, v, m, nn, C, L, K, (h5.quiet ho).mono (fun q _ s => s.1), by omega, h3, h4⟩, ho.mono (fun _ _ f => f.elim)⟩
  · obtain ⟨K', h7⟩ := h3.add h1.jc.le ls (fun a => (h1.mp.row a).1)
    have hz : amts ls = 0 := ((chk_ok kind ls).1 hc).2.2.2.1
    rw [hz] at h7
    have hp := h5.lt
    exact ⟨⟨_, _, rfl⟩, ⟨op, v', m', nn', _, _, K', h6.mono (fun q _ s => s.elim (fun s => s.1) (fun s => by omega)), by simp; omega, by simpa using h7, h4.add ls⟩, ho.mono (fun q _ s => s.1)⟩
theorem ownL_form {w : World} {v : Value} {ls : List Lg} (h : OwnL w v ls) : ∃ a c, v = .slice a ls.length c ∧ (∀ y, a = some y → v.ownBlock = some y.block) := by
  rcases h.2 with ⟨hv, h0⟩ | ⟨g, cp, cur, hv, _⟩
  · exact ⟨none, 0, by rw [hv, h0], fun y e => by cases e⟩
  · exact ⟨_, cp, hv, fun y e => by cases e; rw [hv]; rfl⟩
theorem ownL_reads {w : World} {a : Option Addr} {c : Nat} {ls : List Lg} (h : OwnL w (.slice a ls.length c) ls) (hb : ∀ l ∈ ls, InL l) (hm : ls.length ≤ 1000) : ReadsL w a ls.length ls := by
  rcases h.2 with ⟨hv, h0⟩ | ⟨g, cp, cur, hv, _⟩
  · exact ⟨rfl, by omega, hb, .inl h0⟩
  · injection hv with hv
    subst hv
    exact OwnL.reads h rfl (by omega) hb
set_option maxRecDepth 100000 in
set_option maxHeartbeats 4000000 in
theorem balanced_walk (a : Option Addr) (len cap : Nat) (w : World) (hrow : RowJ w a len) : Calls Try.prog 5 #[.slice a len cap] w fun e w' => e = .returned (.bool true) ∧ Only (fun _ => False) w w' := by
  obtain ⟨p, hp⟩ : ∃ x, x = w.heap.size := ⟨_, rfl⟩
  have HP := Lib.hid hp
  have HRJ := Lib.hid hrow
  have hlm := hrow.1
  unfold maxLen at hlm
  clear hrow
  go_enter Try.func5, Try.ntmps5
  go_wp2_with fail
  refine (new_any w).mono ?_
  rintro _ w1 ⟨rfl, hj, ho⟩
  rw [← hp] at hj ⊢
  have HJ1 : Hid (Jn p 0 w1) := Lib.hid ⟨0, _, _, _, _, [], [], JnAt.new hj (Nat.le_refl _), Nat.le_refl _, InvK.nil, InvR.nil 0⟩
  have HO1 := Lib.hid ho
  clear hj ho hp
  go_wp2_with fail
  refine (journals_any w1).mono ?_
  rintro _ w2 ⟨rfl, ho⟩
  have HJ2 := Lib.hid (HJ1.out.quiet ho)
  have HO2 : Hid (Only (fun q => p ≤ q) w w2) := Lib.hid ((HO1.out.trans ho).mono (fun _ _ f => f.elim))
  clear ho HJ1 HO1
  go_upto_block 0 with fail
  go_cut [4] from 19 to 50 (fun iv wx => Hid (Jn p 60 wx) ∧ Hid (Only (fun q => p ≤ q) w wx))
  case first =>
    go_wp2_with fail
    go_loopw [4] (fun iv wr => ∃ i : Nat, i ≤ 60 ∧ iv = .int .i64 (i : Int) ∧ Hid (Jn p i wr) ∧ Hid (Only (fun q => p ≤ q) w wr)) (fun iv _ => 60 - (intOf iv).toNat)
    case atStart => exact ⟨0, by omega, rfl, HJ2, HO2⟩
    case round =>
      obtain ⟨i, hi, rfl, HJ, HO⟩ := hrel
      rename World => wr
      by_cases h8 : i < len
      · by_cases h20 : i < 60
        · have hin : (i : Int) < len := by omega
          have hi20 : (i : Int) < 60 := by omega
          have hi0 : (0 : Int) ≤ i := by omega
          obtain ⟨b, off, rfl, hcell⟩ := HRJ.out.2.resolve_left (by omega)
          obtain ⟨⟨what, kind, amt, pa, pn, pc, pl, grp, rk, la, ln, lc, ll⟩, hat, hjin⟩ := hcell i h8
          have HIN : Hid (JbIn wr _) := Lib.hid (hjin.keep (b := p) (by have := HP.out; omega) HO.out)
          obtain ⟨x0, x1, x2, x3, x4, x5, x6⟩ := hat.keep (b := p) (by have := HP.out; omega) HO.out
          dsimp only at x0 x1 x2 x3 x4 x5 x6
          have hwt := tmod_inJ what 3 (by decide) (by decide)
          generalize hwz : wrap64 ((IntKind.u64.wrap what).tmod 3) = z at hwt
          clear hcell hat hjin
          by_cases h2 : z = 2
          · subst h2
            have HCL := Lib.hid (jn_close p i wr HJ.out)
            go_wp2_with fail
            refine HCL.out.mono ?_
            rintro _ w3 ⟨⟨k3, er3, rfl⟩, hj, ho⟩
            have HJ3 : Hid (Jn p (i + 1) w3) := Lib.hid (hj.mono (by omega))
            have HO3 : Hid (Only (fun q => p ≤ q) w w3) := Lib.hid (HO.out.trans (ho.mono (fun q _ e => by have e : q = p := e; omega)))
            clear HCL hj ho hwz x0 x1 x2 x3 x4 x5 x6
            go_wp2_with fail
            go_roundw
            case rel => exact ⟨i + 1, by omega, by go_num, HJ3, HO3⟩
            case measure => (simp [intOf]; omega)
          · have hzb : (z == 2) = false := by simpa using h2
            have HJB := Lib.hid (job_any what kind amt grp rk pa pn pc pl la ln lc ll wr HIN.out.1 HIN.out.2.1 HIN.out.2.2.1 HIN.out.2.2.2.1 HIN.out.2.2.2.2)
            go_wp2_with fail
            refine HJB.out.mono ?_
            rintro _ w3 ⟨k, ls, v9, a9, n9, c9, rfl, hown, hfr, hrd, hn9, -, ho⟩
            obtain ⟨a8, c8, rfl, hab⟩ := ownL_form hown
            have HRD : Hid (ReadsL w3 a8 ls.length ls) := Lib.hid (ownL_reads hown hrd.2.2.1 (by have := hrd.1; omega))
            have HFR : Hid (∀ x, a8 = some x → wr.heap.size ≤ x.block) := Lib.hid (fun x e => hfr _ (hab x e))
            have HO3 := Lib.hid ho
            obtain ⟨w4, hw4⟩ : ∃ x, x = (w3.alloc (.cells #[.int .i64 k, .slice a8 ls.length c8] 25)).alloc (.cells #[.int .i64 k, .slice a9 n9 c9] 33) := ⟨_, rfl⟩
            obtain ⟨q, hq⟩ : ∃ x, x = w3.heap.size := ⟨_, rfl⟩
            have o1 : Only (fun _ => False) (w3.alloc (.cells #[.int .i64 k, .slice a8 ls.length c8] 25)) w4 := by rw [hw4]; exact (Only.refl _ _).alloc _
            have o2 : Only (fun _ => False) w3 w4 := by rw [hw4]; exact ((Only.refl _ _).alloc _).alloc _
            have c0 : w4.cell? ⟨q, 0, none⟩ = some (.int .i64 k) := o1.cell' (alloc_new _ _ _ _ _ _ hq rfl) (fun f => f)
            have c1 : w4.cell? ⟨q, 1, none⟩ = some (.slice a8 ls.length c8) := o1.cell' (alloc_new _ _ _ _ _ _ hq rfl) (fun f => f)
            have HO4 := Lib.hid (ho.trans o2)
            have HPO := Lib.hid (jn_post p i (by omega) k a8 ls.length c8 ls w4 wr HJ.out HO4.out (HRD.out.only o2 (fun _ _ f => f)) HFR.out)
            clear HJB hown hfr hrd hn9 ho hab hwz x0 x1 x2 x3 x4 x5 x6 HIN o1 o2
            go_upto_region 10 with fail
            simp only [← hw4, ← hq]
            clear hw4 hq
            go_wp2_with fail
            refine HPO.out.mono ?_
            rintro _ w5 ⟨⟨k3, er3, rfl⟩, hj, ho⟩
            have HJ5 := Lib.hid hj
            have HO5 : Hid (Only (fun q => p ≤ q) w w5) := Lib.hid ((HO.out.trans (HO4.out.mono (fun _ _ f => f.elim))).trans ho)
            clear hj ho HPO c0 c1
            go_wp2_with fail
            go_roundw
            case rel => exact ⟨i + 1, by omega, by go_num, HJ5, HO5⟩
            case measure => (simp [intOf]; omega)
        · have hi20 : ¬ (i : Int) < 60 := by omega
          have hin : (i : Int) < len := by omega
          go_wp2_with fail
          go_meet
          exact ⟨Lib.hid (HJ.out.mono hi), HO⟩
      · have hin : ¬ (i : Int) < len := by omega
        go_wp2_with fail
        go_meet
        exact ⟨Lib.hid (HJ.out.mono hi), HO⟩
  obtain ⟨op, v, m, nn, C, L, K, h1, -, h3, h4⟩ := hcut.1.out
  have HO3 := hcut.2
  rename World => wc
  have HAT := Lib.hid h1
  have HIK := Lib.hid h3
  have HIR := Lib.hid h4
  have hop := h1.jc.le
  have HFIN : Hid (∀ w', Only (fun _ => False) wc w' → Only (fun _ => False) w w') := Lib.hid (fun w' ho => (HO3.out.then ho (fun q _ f => f.elim)).mono (fun q hq s => by have := HP.out; omega))
  have HTR : Hid (∀ x, -1 ≤ x → x ≤ (op : Int) → (triO op L x).1 = (triO op L x).2 ∧ (triE op L x = 0 ∨ triE op L x = 6)) := Lib.hid (fun x hx1 hx2 => by
    unfold triO triE
    rw [if_neg (by omega), if_neg (by omega)]
    cases ht : trP x L (0, 0) with
    | none => exact ⟨rfl, .inr rfl⟩
    | some y =>
      have := trP_diff x L (fun z hz => ((chk_ok _ _).1 (HAT.out.pl z hz).2.1).2.2.2.1) ht
      exact ⟨by show y.1 = y.2; simp only at this; omega, .inl rfl⟩)
  clear hcut h1 h3 h4 HJ2 HO2 HO3 HRJ
  go_wp2_with fail
  go_loopw [7] (fun iv wr => ∃ x : Int, -1 ≤ x ∧ x ≤ (op : Int) + 1 ∧ iv = .int .i64 x ∧ Hid (Only (fun _ => False) wc wr)) (fun iv _ => ((op : Int) + 1 - intOf iv).toNat)
  case atStart => exact ⟨-1, by omega, by omega, rfl, Lib.hid (Only.refl _ _)⟩
  case round =>
    obtain ⟨x, hx1, hx2, rfl, HW⟩ := hrel
    rename World => wr
    have HPE := Lib.hid (period_any p op v m wr (HAT.out.quiet HW.out).jc)
    by_cases h8 : x ≤ (op : Int)
    · go_wp2_with fail
      refine HPE.out.mono ?_
      rintro _ _ ⟨rfl, rfl⟩
      have HTA := Lib.hid (trial_any p op v m nn C L x _ (HAT.out.quiet HW.out))
      have htr := HTR.out x hx1 h8
      clear HPE
      generalize (triO op L x).1 = d at *
      generalize (triO op L x).2 = d2 at *
      generalize triE op L x = er at *
      obtain ⟨rfl, her⟩ := htr
      have hxw : wrap64 (x + 1) = x + 1 := by unfold wrap64; omega
      go_wp2_with fail
      refine HTA.out.mono ?_
      rintro _ w3 ⟨rfl, ho⟩
      have HW3 := Lib.hid (HW.out.trans ho)
      clear ho HTA
      have hdd : (d != d) = false := by simp
      rcases her with rfl | rfl
      · go_wp2_with fail
        go_roundw
        case rel => exact ⟨x + 1, by omega, by omega, rfl, HW3⟩
        case measure => (simp [intOf]; omega)
      · go_wp2_with fail
        go_roundw
        case rel => exact ⟨x + 1, by omega, by omega, rfl, HW3⟩
        case measure => (simp [intOf]; omega)
    · go_wp2_with fail
      refine HPE.out.mono ?_
      rintro _ _ ⟨rfl, rfl⟩
      have HAC := Lib.hid (accounts_any p op v m nn C L _ (HAT.out.quiet HW.out))
      clear HPE
      go_wp2_with fail
      refine HAC.out.mono ?_
      rintro _ w4 ⟨v4, rfl, a4, c4, ss, rfl, hra, hks, -, hlc, hcm, ho⟩
      have HRA := Lib.hid hra
      have HKS := Lib.hid hks
      have HW4 := Lib.hid (HW.out.trans ho)
      unfold maxLen at hcm
      clear HAC hra hks ho
      go_wp2_with fail
      go_loopw [13, 11] (fun iv tv wx => ∃ j : Nat, j ≤ ss.length ∧ iv = .int .i64 (j : Int) ∧ tv = .int .i64 (wrap64 (tot C (ss.take j))) ∧ Hid (Only (fun _ => False) w4 wx)) (fun iv _ _ => ss.length - (intOf iv).toNat)
      case atStart => exact ⟨0, by omega, rfl, by simp [tot, wrap64], Lib.hid (Only.refl _ _)⟩
      case round =>
        obtain ⟨j, hj, rfl, rfl, HX⟩ := hrel
        rename World => wx
        by_cases hjl : j < ss.length
        · have hji : (j : Int) < (ss.length : Int) := by omega
          have hj0 : (0 : Int) ≤ (j : Int) := by omega
          obtain ⟨g, rfl, hcell⟩ := HRA.out.2.resolve_left (by omega)
          obtain ⟨y0, y1, y2⟩ := hcell j hjl
          have HA : Hid (InA (ss.getD j default)) := Lib.hid (HKS.out.2.2 _ (by rw [List.getD_eq_getElem?_getD, List.getElem?_eq_getElem hjl]; exact List.getElem_mem hjl))
          have HTK : Hid (tot C (ss.take (j + 1)) = tot C (ss.take j) + rsum C (ss.getD j default)) := Lib.hid (by
            have : ss.getD j default = ss[j] := by simp [List.getD, hjl]
            rw [this, List.take_succ_eq_append_getElem hjl]
            unfold tot
            rw [List.map_append, List.sum_append]
            simp)
          obtain ⟨⟨ak, an, ag⟩, hac⟩ : ∃ x, ss.getD j default = x := ⟨_, rfl⟩
          rw [hac] at y0 y1 y2 HA HTK
          dsimp only at y0 y1 y2
          have HY : Hid (∀ w', Only (fun _ => False) w4 w' → w'.cell? ⟨g, j * 3, none⟩ = some (.int .i64 ak) ∧ w'.cell? ⟨g, j * 3 + 1, none⟩ = some (.int .i64 an) ∧ w'.cell? ⟨g, j * 3 + 2, none⟩ = some (.int .i64 ag)) := Lib.hid (fun w' ho => ⟨ho.cell' y0 (fun f => f), ho.cell' y1 (fun f => f), ho.cell' y2 (fun f => f)⟩)
          obtain ⟨row, hrow⟩ : ∃ r, r = (C ⟨ak, an, ag⟩).getD noughts := ⟨_, rfl⟩
          have HRW : Hid (row.length = 32) := Lib.hid (by rw [hrow]; exact (HAT.out.mp.row _).1)
          have HRS : Hid (rsum C ⟨ak, an, ag⟩ = row.sum) := Lib.hid (by rw [hrow]; rfl)
          have HR0 : Hid ((row.take (op + 1)).sum = row.sum) := Lib.hid (take_all (fun q hq => by rw [hrow]; exact HIR.out _ q (by omega)))
          have HMV : Hid (∀ t : Nat, t ≤ op → ∀ w', Only (fun _ => False) w4 w' → Calls Try.prog 21 #[.pointer (some ⟨p, 0, none⟩), .agg #[.int .i64 ak, .int .i64 an, .int .i64 ag], .int .i64 (t : Int)] w' fun e w'' => e = .returned (.int .i64 (row.getD t 0)) ∧ Only (fun _ => False) w' w'') := Lib.hid (fun t ht w' ho => by
            have h := moved_any p op v m nn C ak an ag HA.out (t : Int) w' (HAT.out.quiet (HW4.out.trans ho)).jc (HAT.out.quiet (HW4.out.trans ho)).mp
            have e : movV C op ⟨ak, an, ag⟩ (t : Int) = row.getD t 0 := by unfold movV; rw [if_neg (by omega), hrow]; rfl
            rw [e] at h
            exact h)
          have HBA : Hid (∀ w', Only (fun _ => False) w4 w' → Calls Try.prog 20 #[.pointer (some ⟨p, 0, none⟩), .agg #[.int .i64 ak, .int .i64 an, .int .i64 ag]] w' fun e w'' => e = .returned (.int .i64 (wrap64 row.sum)) ∧ Only (fun _ => False) w' w'') := Lib.hid (fun w' ho => by
            have h := bal_any p op v m nn C ak an ag HA.out w' (HAT.out.quiet (HW4.out.trans ho)).jc (HAT.out.quiet (HW4.out.trans ho)).mp
            rw [← hrow] at h
            exact h)
          clear hcell y0 y1 y2 hac hrow HA
          go_wp2_with fail
          go_loopw [15, 14] (fun pv nv wy => ∃ t : Nat, t ≤ op + 1 ∧ pv = .int .i64 (t : Int) ∧ nv = .int .i64 (wrap64 (row.take t).sum) ∧ Hid (Only (fun _ => False) w4 wy)) (fun pv _ _ => op + 1 - (intOf pv).toNat)
          case atStart => exact ⟨0, by omega, rfl, by simp [wrap64], HX⟩
          case round =>
            obtain ⟨t, ht, rfl, rfl, HY2⟩ := hrel
            rename World => wy
            have HPE := Lib.hid (period_any p op v m wy (HAT.out.quiet (HW4.out.trans HY2.out)).jc)
            obtain ⟨y0, y1, y2⟩ := HY.out wy HY2.out
            by_cases htl : t ≤ op
            · have hti : (t : Int) ≤ (op : Int) := by omega
              have HMC := Lib.hid (HMV.out t htl wy HY2.out)
              have hs := take_sum row t (by rw [HRW.out]; omega)
              have hw := wrap_add (row.take t).sum (row.getD t 0)
              rw [← hs] at hw
              clear hs
              have HS1 : Hid (wrap64 (row.take (t + 1)).sum = wrap64 (row.take (t + 1)).sum) := Lib.hid rfl
              obtain ⟨s1, hs1⟩ : ∃ x, x = wrap64 (row.take (t + 1)).sum := ⟨_, rfl⟩
              rw [← hs1] at hw
              have HSS := Lib.hid hs1
              clear hs1 HS1
              generalize wrap64 (row.take t).sum = s0 at *
              generalize row.getD t 0 = mv at *
              go_wp2_with fail
              refine HPE.out.mono ?_
              rintro _ _ ⟨rfl, rfl⟩
              go_wp2_with fail
              refine HMC.out.mono ?_
              rintro _ wz ⟨rfl, ho⟩
              have HZ := Lib.hid (HY2.out.trans ho)
              clear ho HMC HPE y0 y1 y2
              go_wp2_with fail
              go_roundw
              case rel => exact ⟨t + 1, by omega, by go_num, by first | rw [HSS.out] | rw [hw, HSS.out], HZ⟩
              case measure => (simp [intOf]; omega)
            · have hti : ¬ (t : Int) ≤ (op : Int) := by omega
              obtain rfl : t = op + 1 := by omega
              rw [HR0.out]
              have HBC := Lib.hid (HBA.out wy HY2.out)
              have hw := wrap_add (tot C (ss.take j)) row.sum
              have hw2 : wrap64 (wrap64 (tot C (ss.take j)) + wrap64 row.sum) = wrap64 (tot C (ss.take (j + 1))) := by rw [HTK.out, HRS.out]; unfold wrap64; omega
              have HT1 : Hid (wrap64 (tot C (ss.take (j + 1))) = wrap64 (tot C (ss.take (j + 1)))) := Lib.hid rfl
              obtain ⟨s1, hs1⟩ : ∃ x, x = wrap64 (tot C (ss.take (j + 1))) := ⟨_, rfl⟩
              rw [← hs1] at hw2
              have HSS := Lib.hid hs1
              clear hs1 HT1 hw
              generalize wrap64 (tot C (ss.take j)) = t0 at *
              generalize wrap64 row.sum = r0 at *
              have hrr : (r0 != r0) = false := by simp
              go_wp2_with fail
              refine HPE.out.mono ?_
              rintro _ _ ⟨rfl, rfl⟩
              go_wp2_with fail
              refine HBC.out.mono ?_
              rintro _ wz ⟨rfl, ho⟩
              have HZ := Lib.hid (HY2.out.trans ho)
              clear ho HBC HPE y0 y1 y2
              go_wp2_with fail
              go_roundw
              case rel => exact ⟨j + 1, by omega, by go_num, by first | rw [HSS.out] | rw [hw2, HSS.out], HZ⟩
              case measure => (simp [intOf]; omega)
        · have hji : ¬ (j : Int) < (ss.length : Int) := by omega
          obtain rfl : j = ss.length := by omega
          have hz : wrap64 (tot C (ss.take ss.length)) = 0 := by
            rw [List.take_length]
            have := keys_tot HIK.out HKS.out
            unfold wrap64
            omega
          rw [hz]
          have HE := Lib.hid (HFIN.out wx (HW4.out.trans HX.out))
          go_wp2_with fail
          go_ret
          exact ⟨rfl, HE.out⟩
theorem balanced_below (a : Option Addr) (len cap : Nat) (w : World) (hrow : RowJ w a len) : Calls Try.prog 5 #[.slice a len cap] w fun e w' => e = .returned (.bool true) ∧ Below w.heap.size w w' := (balanced_walk a len cap w hrow).mono (fun e w' h => ⟨h.1, h.2.none⟩)
end Go.Proofs.Ytdjiljkdnpmilaa.jnw
namespace Go.Proofs.Ytdjiljkdnpmilaa.journalBalanced
open Go.ChangeShapes Go.WideShapes Go.ChangeAt Go.RowKit
set_option linter.unusedVariables false

theorem own : ownKnob Try.prog.godebug = none := by kernel_rfl
theorem laidOut : laidOutB Try.prog = true := by kernel_rfl

set_option maxRecDepth 100000 in
theorem lifted (os : Os) (started : os.Started) (H : Type) (enc : TypeId × Value → H) :
    ReturnsInHanded {} Try.checked os 5 .any (Rows.journalBalancedSpec.pre6 enc Try.prog Try.f5 Rows.journalBalancedRow.domain false) (Rows.journalBalancedSpec.post enc Try.prog Try.f5 false true false false) := by
  refine returnsInHanded_of_change (C := Try.checked) own started (by kernel_rfl) Try.func5
    (ChangeSpec.witness6 (enc := enc) (C := Try.checked) false ⟨#[], #[.slice none 0 0], []⟩ 8 (by kernel_rfl) (by kernel_rfl) (by kernel_rfl) (by kernel_rfl)) ?_
  intro W base args ds gs before hval0 hW hcnd _
  have hval : ∀ (j : Nat) t v, Try.f5.params[j]? = some t → args[j]? = some v → Value.okWide Try.prog W .any base t v := hval0
  have hW' := hW
  obtain ⟨p, q, hA0, hV, rfl, hfz, hnd⟩ := hW
  have hA : DataW.TrodAll enc Try.prog W 0 (fun _ => true) true Try.f5.params.toList args.toList ds p := hA0
  rw [Try.params5] at hA hval
  obtain ⟨v0, vs0, d0, ds0, p0, q0, hargs, rfl, rfl, h0, r0⟩ := trodAll_cons hA
  obtain ⟨rfl, rfl, rfl⟩ := trodAll_nil r0
  obtain rfl : args = #[v0] := by cases args; simp_all
  obtain ⟨rfl, rfl⟩ := trodVars_none hV
  obtain ⟨a0, len0, cap0, rfl⟩ := okWide_slice Try.underlying42 (hval 0 42 v0 rfl rfl)
  have k0 := h0
  have lt0 : ∀ x ∈ p0, x.block < W.heap.size := by obtain ⟨m, hm⟩ := k0; exact DataW.trod_lt m _ _ _ hm
  have w0 := Exists.elim h0 (fun _ hf => jnw.jobs_open hf)
  clear hA0 hval0
  refine Calls.mono (jnw.balanced_below a0 len0 cap0 W w0) fun e W' ⟨he, bel⟩ => ?_
  subst he
  exact ⟨_, rfl, _, _, _, [], _, [], hW', trodAll_mk1 (shut_bool Try.underlying4 _), (trodAll_cons_mk (Below.trod laidOut (by kernel_rfl) (of_decide_eq_true (by kernel_rfl)) k0 bel lt0) trodAll_mk0), rfl, bel.frame _, fun h => by cases h⟩

theorem over : Rows.journalBalancedRow.holds Try.pinned (OpenSpec.ofChange Rows.journalBalancedSpec) :=
  OpenClaim.holds_of_wide 5 Try.f5 rfl rfl rfl rfl rfl rfl rfl ⟨rfl, rfl, rfl, rfl, rfl⟩ rfl rfl rfl rfl rfl (by kernel_rfl) Try.func5 (by kernel_rfl)
    (of_decide_eq_true (by kernel_rfl)) (by unfold Func.isWrapper; first | (rw [if_pos (by decide +kernel)]; kernel_rfl) | (rw [if_neg (by decide +kernel)]; exact ⟨rfl, rfl⟩))
    (fun os started H enc _ => lifted os started H enc)

/-- THE STATEMENT -/
theorem proved : Rows.JournalBalancedSaid := over
end Go.Proofs.Ytdjiljkdnpmilaa.journalBalanced
