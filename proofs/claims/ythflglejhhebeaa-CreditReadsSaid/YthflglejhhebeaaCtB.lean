/- What the document's Read of any bytes answers. -/
import Derived.Test.YthflglejhhebeaaCtA
namespace Go.Proofs.Ythflglejhhebeaa.cs
open Go.RowKit mem rwg codm codp rdr
set_option linter.unusedVariables false

/-- what the document reads -/
def hdD (b : List Nat) : Prop := (1 ≤ pl0 4611686018427387904 b ∧ pl0 4611686018427387904 b ≤ 16) ∧ n0 4611686018427387904 16 b ≤ pl0 4611686018427387904 b
def DocR (w : World) (b : List Nat) (e : Ending) (w' : World) : Prop := Only (fun _ => False) w w' ∧ ∃ (ok : Bool) (p : Nat), e = .returned (.tuple #[.pointer (some ⟨p, 0, none⟩), .bool ok]) ∧ ((ok = true ∧ ∃ pl last K v L, isT b pl last K ∧ DT (fun q => w.heap.size ≤ q) w' p pl last v L ∧ L.map Sd.sx = K) ∨ (ok = false ∧ ¬ hasT b))
theorem doc_yes {b : List Nat} (hb : By b) (hh : hdD b) (hs : (rdSs (n0 4611686018427387904 16 b) (q3 4611686018427387904 16 b)).2 = some []) (ho : okD (la0 4611686018427387904 b) (rdSs (n0 4611686018427387904 16 b) (q3 4611686018427387904 16 b)).1) : isT b (pl0 4611686018427387904 b) (la0 4611686018427387904 b) (rdSs (n0 4611686018427387904 16 b) (q3 4611686018427387904 16 b)).1 := by
  obtain ⟨⟨h1, h2⟩, h3⟩ := hh
  refine ⟨ho.tok ⟨by omega, by omega⟩ (by rw [rdSs_len]; omega) ⟨by omega, uF_bd (sok1 hb _)⟩, tab_back hb _ _ hs⟩
theorem doc_no {b : List Nat} (h : hasT b) : hdD b ∧ (rdSs (n0 4611686018427387904 16 b) (q3 4611686018427387904 16 b)).2 = some [] ∧ okD (la0 4611686018427387904 b) (rdSs (n0 4611686018427387904 16 b) (q3 4611686018427387904 16 b)).1 := by
  obtain ⟨pl, last, L, h⟩ := h
  have h1 := h.1.p1
  have h2 := h.1.ln
  obtain ⟨a1, a2, a3, a4⟩ := h.parse (m := 4611686018427387904) (k := 16) (by omega) (by omega)
  have e1 := a4 L.length (Nat.le_refl _)
  refine ⟨⟨⟨by omega, by omega⟩, by omega⟩, ?_⟩
  rw [a3, e1, a2, List.drop_length, List.take_length]
  exact ⟨rfl, h.1.okD⟩
theorem rdS_some (s : Option (List Nat)) (h : (rdS s).2 ≠ none) : s ≠ none := by
  rintro rfl
  exact h (rdGs_none _ rfl _)
/-- the flag behind a session more -/
theorem flag_step {hd : Prop} {la lx : Int} {K : List Sx} {X : Sx} {RB : Bool} (h : RB = true ↔ hd ∧ okD la K) (hl : lx = lK K) : (RB && rightB X && decide (lx < X.i) && decide (X.i ≤ la)) = true ↔ hd ∧ okD la (K ++ [X]) := by
  rw [okD.snoc, ← hl]
  simp only [Bool.and_eq_true, decide_eq_true_eq]
  rw [h]
  constructor
  · rintro ⟨⟨⟨⟨h1, h2⟩, h3⟩, h4⟩, h5⟩; exact ⟨h1, h2, h3, h4, h5⟩
  · rintro ⟨h1, h2, h3, h4, h5⟩; exact ⟨⟨⟨⟨h1, h2⟩, h3⟩, h4⟩, h5⟩
set_option maxRecDepth 100000 in
set_option maxHeartbeats 16000000 in
theorem rtread_any (b : List Nat) (w : World) (hb : By b) : Calls Try.prog 23 #[.string (dskw.strN b)] w (DocR w b) := by
  have HSK0 : Hid (SOk (q3 4611686018427387904 16 b)) := Lib.hid (sok3 hb _ _)
  have HYES := Lib.hid (fun h1 h2 h3 => doc_yes hb h1 h2 h3)
  have HNO := Lib.hid (fun (h : hasT b) => doc_no h)
  obtain ⟨m, hm⟩ : ∃ x : Int, (pl0 4611686018427387904 b : Int) = x := ⟨_, rfl⟩
  obtain ⟨la, hla⟩ : ∃ x : Int, (la0 4611686018427387904 b : Int) = x := ⟨_, rfl⟩
  obtain ⟨n, hn⟩ : ∃ x, n0 4611686018427387904 16 b = x := ⟨_, rfl⟩
  obtain ⟨Q3, hQ3⟩ : ∃ x, q3 4611686018427387904 16 b = x := ⟨_, rfl⟩
  have hn16 : n ≤ 16 := by
    have := uS_bd (most := 16) (q2 4611686018427387904 b) (sok2 hb _) (by omega)
    rw [← hn]
    unfold n0
    omega
  have HHD : Hid (hdD b ↔ (1 ≤ m ∧ m ≤ 16) ∧ (n : Int) ≤ m) := Lib.hid (by unfold hdD; rw [hn, ← hm]; omega)
  have HM0 : Hid (((uS 4611686018427387904 (some b)).1 : Int) = m ∧ ((uS 4611686018427387904 (q1 4611686018427387904 b)).1 : Int) = la ∧ (uS 16 (q2 4611686018427387904 b)).1 = n ∧ (uS 16 (q2 4611686018427387904 b)).2 = Q3) := Lib.hid ⟨hm, hla, hn, hQ3⟩
  rw [hm, hla, hn, hQ3] at HYES
  rw [hla, hn, hQ3] at HNO
  rw [hQ3] at HSK0
  have HOR : Hid (∀ wz t, Only (fun _ => False) wz (wz.alloc (.cells #[.string (dskw.strN b), .int .i64 0] t)) ∧ RR (wz.alloc (.cells #[.string (dskw.strN b), .int .i64 0] t)) wz.heap.size (some b)) := Lib.hid (fun wz t => ⟨(Only.refl _ _).alloc _, ⟨b, 0, ⟨by simp, by simp, by simp, by simp⟩, hb, rfl, rfl⟩⟩)
  clear hb hm hla hn hQ3
  go_enter Try.func23, Try.ntmps23
  go_upto_region 2 with fail
  obtain ⟨w1, hw1⟩ : ∃ x, x = w.alloc (.cells #[.string (dskw.strN b), .int .i64 0] 96) := ⟨_, rfl⟩
  obtain ⟨rp, hrp⟩ : ∃ x, x = w.heap.size := ⟨_, rfl⟩
  have HR1 : Hid (Only (fun _ => False) w w1 ∧ RR w1 rp (some b)) := Lib.hid (by rw [hw1, hrp]; exact HOR.out w _)
  have HRPE := Lib.hid hrp
  simp only [← hw1, ← hrp]
  clear hw1 hrp HOR
  go_wp2_with fail
  refine (ruint_s rp 4611686018427387904 (some b) w1 HR1.out.2 (by omega)).mono ?_
  rintro _ w2 ⟨rfl, hrs, ho⟩
  have HR2 : Hid (RR w2 rp (q1 4611686018427387904 b)) := Lib.hid hrs
  have HO2 : Hid (Only (fun _ => False) w w2) := Lib.hid (HR1.out.1.then ho (fun q hq e => by have := HRPE.out; omega))
  clear hrs ho HR1
  rw [HM0.out.1]
  go_upto_region 3 with fail
  obtain ⟨w3, hw3⟩ : ∃ x, x = w2.alloc (.cells #[.int .i64 m, .int .i64 0, .slice none 0 0] 47) := ⟨_, rfl⟩
  obtain ⟨vp, hvp⟩ : ∃ x, x = w2.heap.size := ⟨_, rfl⟩
  have hal3 : Only (fun _ => False) w2 w3 := by rw [hw3]; exact (Only.refl _ _).alloc _
  have HD3 : Hid (DT (fun q => w.heap.size ≤ q ∧ q ≠ rp) w3 vp m 0 (.slice none 0 0) []) := Lib.hid (by
    have hlt := RR.lt' HR2.out
    have hsz := HO2.out.size
    have hc : ∀ k u, (#[.int .i64 m, .int .i64 0, .slice none 0 0] : Array Value)[k]? = some u → w3.cell? ⟨vp, k, none⟩ = some u := fun k u hu => by
      rw [hw3]; exact codw.ballot hvp hu
    have hf : ∀ k, w3.frozen? ⟨vp, k, none⟩ = false := fun k => by rw [hw3]; exact sfrozen hvp k
    exact ⟨hc 0 _ rfl, hc 1 _ rfl, hc 2 _ rfl, hf 1, hf 2, OwnR.nil _ _, by simp [Value.ownBlock], by simp, ⟨by omega, by omega⟩, (fun q e => by simp [Value.ownBlock] at e), (fun x hx => by cases hx), (fun e => by cases e)⟩)
  have HR3 := Lib.hid (HR2.out.only hal3 (fun f => f))
  have HO3 := Lib.hid (HO2.out.trans hal3)
  simp only [← hw3, ← hvp]
  clear hw3 hvp hal3 HR2 HO2
  go_wp2_with fail
  refine (ruint_s rp 4611686018427387904 (q1 4611686018427387904 b) w3 HR3.out (by omega)).mono ?_
  rintro _ w4 ⟨rfl, hrs, ho⟩
  have HR4 : Hid (RR w4 rp (q2 4611686018427387904 b)) := Lib.hid hrs
  have HD4 := Lib.hid (HD3.out.only ho (fun q s e => s.2 e))
  have HO4 : Hid (Only (fun _ => False) w w4) := Lib.hid (HO3.out.then ho (fun q hq e => by have := HRPE.out; omega))
  clear hrs ho HR3 HD3 HO3
  rw [HM0.out.2.1]
  have c1 := HD4.out.c1
  have f1 := HD4.out.f1
  go_upto_region 4 with fail
  obtain ⟨w5, hw5⟩ : ∃ x, x = w4.setCell ⟨vp, 1, none⟩ (.int .i64 la) := ⟨_, rfl⟩
  have hset : Only (fun q => q = vp) w4 w5 := by rw [hw5]; exact Only.set _ _ vp 1 _ rfl
  have HD5 : Hid (DT (fun q => w.heap.size ≤ q ∧ q ≠ rp) w5 vp m la (.slice none 0 0) []) := Lib.hid (by rw [hw5]; exact HD4.out.last la)
  have HR5 := Lib.hid (HR4.out.only hset (fun e => HD4.out.sp.2 e.symm))
  have HO5 : Hid (Only (fun _ => False) w w5) := Lib.hid (HO4.out.then hset (fun q hq e => by have := HD4.out.sp.1; omega))
  simp only [← hw5]
  clear hw5 hset HD4 HR4 HO4 c1 f1
  go_wp2_with fail
  refine (ruint_s rp 16 (q2 4611686018427387904 b) w5 HR5.out (by omega)).mono ?_
  rintro _ w6 ⟨rfl, hrs, ho⟩
  rw [HM0.out.2.2.2] at hrs
  have HR6 : Hid (RR w6 rp (rdSs 0 Q3).2) := Lib.hid hrs
  have HD6 := Lib.hid (HD5.out.only ho (fun q s e => s.2 e))
  have HO6 : Hid (Only (fun _ => False) w w6) := Lib.hid (HO5.out.then ho (fun q hq e => by have := HRPE.out; omega))
  clear hrs ho HR5 HD5 HO5
  rw [HM0.out.2.2.1]
  clear HM0
  have c0 := HD6.out.c0
  go_upto_region 5 with fail
  go_cut [7] from 28 to 40 (fun bv wx => ∃ RB : Bool, bv = .bool RB ∧ Hid (RB = true ↔ hdD b) ∧ w6 = wx)
  case first =>
    go_wp2_with fail
    refine (rbet_any m 1 16 w6).mono ?_
    rintro _ _ ⟨rfl, rfl⟩
    by_cases h1 : 1 ≤ m ∧ m ≤ 16
    · have hb1 : betB m 1 16 = true := by unfold betB; exact decide_eq_true h1
      by_cases h2 : (n : Int) ≤ m
      · have HD : Hid (hdD b) := Lib.hid (HHD.out.2 ⟨h1, h2⟩)
        rw [hb1]
        go_wp2_with fail
        go_meet
        exact ⟨_, rfl, Lib.hid ⟨fun _ => HD.out, fun _ => by simp⟩, rfl⟩
      · have HD : Hid (¬ hdD b) := Lib.hid (fun q => h2 (HHD.out.1 q).2)
        rw [hb1]
        go_wp2_with fail
        go_meet
        exact ⟨_, rfl, Lib.hid ⟨fun h => absurd (of_decide_eq_true h) (by omega), fun h => absurd h HD.out⟩, rfl⟩
    · have hb1 : betB m 1 16 = false := by unfold betB; exact decide_eq_false h1
      have HD : Hid (¬ hdD b) := Lib.hid (fun q => h1 (HHD.out.1 q).1)
      rw [hb1]
      go_wp2_with fail
      go_meet
      exact ⟨_, rfl, Lib.hid ⟨fun h => by simp at h, fun h => absurd h HD.out⟩, rfl⟩
  case rest =>
    obtain ⟨RB0, rfl, HB0', rfl⟩ := hcut
    have HFL0 : Hid ((rdSs 0 Q3).2 ≠ none → ([] : List Sd).map Sd.sx = (rdSs 0 Q3).1 ∧ (RB0 = true ↔ hdD b ∧ okD la (rdSs 0 Q3).1) ∧ (0 : Int) = lK (rdSs 0 Q3).1) := Lib.hid (fun _ => ⟨rfl, by rw [HB0'.out]; exact ⟨fun h => ⟨h, okD.nil la⟩, fun h => h.1⟩, rfl⟩)
    clear c0 HB0'
    go_upto_block 0 with fail
    go_cut [7, 8, 9, 10, 11, 12, 13] from 41 to 128 (fun bv lv iv gv nv kv hv wx => ∃ (RB : Bool) (lx : Int) (v : Value) (L : List Sd), bv = .bool RB ∧ Hid (RR wx rp (rdSs n Q3).2) ∧ Hid (DT (fun q => w.heap.size ≤ q ∧ q ≠ rp) wx vp m la v L) ∧ Hid ((rdSs n Q3).2 ≠ none → L.map Sd.sx = (rdSs n Q3).1 ∧ (RB = true ↔ hdD b ∧ okD la (rdSs n Q3).1) ∧ lx = lK (rdSs n Q3).1) ∧ Hid (Only (fun _ => False) w wx))
    case first =>
      go_wp2_with fail
      go_loopw [7, 8, 9] (fun bv lv iv wr => ∃ (i : Nat) (RB : Bool) (lx : Int) (v : Value) (L : List Sd), i ≤ n ∧ iv = .int .i64 (i : Int) ∧ bv = .bool RB ∧ lv = .int .i64 lx ∧ Hid (RR wr rp (rdSs i Q3).2) ∧ Hid (DT (fun q => w.heap.size ≤ q ∧ q ≠ rp) wr vp m la v L) ∧ Hid (L.length = i) ∧ ((rdSs i Q3).2 ≠ none → L.map Sd.sx = (rdSs i Q3).1 ∧ (RB = true ↔ hdD b ∧ okD la (rdSs i Q3).1) ∧ lx = lK (rdSs i Q3).1) ∧ Hid (Only (fun _ => False) w wr)) (fun _ _ iv _ => n - (intOf iv).toNat)
      case atStart => exact ⟨0, RB0, 0, _, [], by omega, rfl, rfl, rfl, HR6, HD6, Lib.hid rfl, HFL0.out, HO6⟩
      case round =>
        clear HR6 HD6 HFL0 HO6
        obtain ⟨i, RB, lx, v, L, hi, rfl, rfl, rfl, HR, HD, HLN, hfl, HO⟩ := hrel
        rename World => wr
        have HFL := Lib.hid hfl
        clear hfl
        have hi0 : (0 : Int) ≤ i := by omega
        have hi64 : (i : Int) ≤ 64 := by omega
        by_cases h8 : i < n
        · have hin : (i : Int) < n := by omega
          rcases hst : (rdSs i Q3).2 with _ | si
          · rw [hst] at HR
            obtain ⟨e1, z1, hz1⟩ := RR.e1 HR.out
            have HRN : Hid (RR wr rp (rdSs n Q3).2) := Lib.hid (by rw [rdSs_stop Q3 i n hst hi]; exact HR.out)
            have HFN : Hid ((rdSs n Q3).2 ≠ none → L.map Sd.sx = (rdSs n Q3).1 ∧ (RB = true ↔ hdD b ∧ okD la (rdSs n Q3).1) ∧ lx = lK (rdSs n Q3).1) := Lib.hid (fun h => absurd (rdSs_stop Q3 i n hst hi) h)
            clear HFL hst
            go_wp2_with fail
            go_meet
            exact ⟨RB, lx, v, L, rfl, HRN, HD, HFN, HO⟩
          · rw [hst] at HR
            have z1 := RR.e0 HR.out
            have HBW : Hid (w.heap.size = w.heap.size) := Lib.hid rfl
            have hsk : SOk (some si) := by rw [← hst]; exact SOk.ss HSK0.out i
            obtain ⟨xi, hxi⟩ : ∃ x : Int, ((cs.uF (some si)).1 : Int) = x := ⟨_, rfl⟩
            obtain ⟨sa, hsa⟩ : ∃ x, (cs.uF (some si)).2 = x := ⟨_, rfl⟩
            obtain ⟨xnd, hxnd⟩ : ∃ x : Int, ((cs.uF sa).1 : Int) = x := ⟨_, rfl⟩
            obtain ⟨sb, hsb⟩ : ∃ x, (cs.uF sa).2 = x := ⟨_, rfl⟩
            obtain ⟨xnum, hxnum⟩ : ∃ x : Int, ((cs.uF sb).1 : Int) = x := ⟨_, rfl⟩
            obtain ⟨sc, hsc⟩ : ∃ x, (cs.uF sb).2 = x := ⟨_, rfl⟩
            obtain ⟨xdl, hxdl⟩ : ∃ x : Int, ((cs.uF sc).1 : Int) = x := ⟨_, rfl⟩
            obtain ⟨sd, hsd⟩ : ∃ x, (cs.uF sc).2 = x := ⟨_, rfl⟩
            obtain ⟨mm, hmm⟩ : ∃ x, (uS 4 sd).1 = x := ⟨_, rfl⟩
            obtain ⟨S5, hS5⟩ : ∃ x, (uS 4 sd).2 = x := ⟨_, rfl⟩
            have hs4 : s4 (some si) = sd := by unfold s4; rw [hsa, hsb, hsc, hsd]
            have hmm4 : mm ≤ 4 := by have := sn_bd hsk; unfold sn at this; rw [hs4, hmm] at this; exact this
            have HRD : Hid ((rdS (some si)).1 = ⟨xi, xnd, xnum, xdl, (rdGs mm S5).1⟩ ∧ (rdS (some si)).2 = (rdGs mm S5).2) := Lib.hid (by
              have e1 : sn (some si) = mm := by unfold sn; rw [hs4, hmm]
              have e2 : s5 (some si) = S5 := by unfold s5; rw [hs4, hS5]
              unfold rdS
              rw [e1, e2, hxi, hsa, hxnd, hsb, hxnum, hsc, hxdl]
              exact ⟨rfl, rfl⟩)
            have HSS : Hid ((rdSs (i + 1) Q3).1 = (rdSs i Q3).1 ++ [(rdS (some si)).1] ∧ (rdSs (i + 1) Q3).2 = (rdS (some si)).2) := Lib.hid (by
              show (rdSs i Q3).1 ++ [(rdS (rdSs i Q3).2).1] = _ ∧ (rdS (rdSs i Q3).2).2 = _
              rw [hst]; exact ⟨rfl, rfl⟩)
            have HNN : Hid ((rdSs i Q3).2 ≠ none) := Lib.hid (by rw [hst]; simp)
            have HU1 : Hid (∀ w', RR w' rp (some si) → Calls Try.prog 48 #[.pointer (some ⟨rp, 0, none⟩), .int .i64 4611686018427387904] w' (Aft rp w' (.int .i64 xi) sa)) := Lib.hid (fun w' h => by have := ruint_s rp 4611686018427387904 (some si) w' h (by omega); rw [show ((uS 4611686018427387904 (some si)).1 : Int) = xi from hxi, show (uS 4611686018427387904 (some si)).2 = sa from hsa] at this; exact this)
            have HU2 : Hid (∀ w', RR w' rp (sa) → Calls Try.prog 48 #[.pointer (some ⟨rp, 0, none⟩), .int .i64 4611686018427387904] w' (Aft rp w' (.int .i64 xnd) sb)) := Lib.hid (fun w' h => by have := ruint_s rp 4611686018427387904 (sa) w' h (by omega); rw [show ((uS 4611686018427387904 (sa)).1 : Int) = xnd from hxnd, show (uS 4611686018427387904 (sa)).2 = sb from hsb] at this; exact this)
            have HU3 : Hid (∀ w', RR w' rp (sb) → Calls Try.prog 48 #[.pointer (some ⟨rp, 0, none⟩), .int .i64 4611686018427387904] w' (Aft rp w' (.int .i64 xnum) sc)) := Lib.hid (fun w' h => by have := ruint_s rp 4611686018427387904 (sb) w' h (by omega); rw [show ((uS 4611686018427387904 (sb)).1 : Int) = xnum from hxnum, show (uS 4611686018427387904 (sb)).2 = sc from hsc] at this; exact this)
            have HU4 : Hid (∀ w', RR w' rp (sc) → Calls Try.prog 48 #[.pointer (some ⟨rp, 0, none⟩), .int .i64 4611686018427387904] w' (Aft rp w' (.int .i64 xdl) sd)) := Lib.hid (fun w' h => by have := ruint_s rp 4611686018427387904 (sc) w' h (by omega); rw [show ((uS 4611686018427387904 (sc)).1 : Int) = xdl from hxdl, show (uS 4611686018427387904 (sc)).2 = sd from hsd] at this; exact this)
            have HU5 : Hid (∀ w', RR w' rp sd → Calls Try.prog 48 #[.pointer (some ⟨rp, 0, none⟩), .int .i64 4] w' (Aft rp w' (.int .i64 (mm : Int)) S5)) := Lib.hid (fun w' h => by have := ruint_s rp 4 sd w' h (by omega); rw [hmm, hS5] at this; exact this)
            clear hsk hxi hsa hxnd hsb hxnum hsc hxdl hsd hmm hS5 hs4 hst
            have HU1' := Lib.hid (HU1.out wr HR.out)
            go_wp2_with fail
            refine HU1'.out.mono ?_
            rintro _ w1 ⟨rfl, hrs, ho⟩
            have HRa := Lib.hid hrs
            have HDa := Lib.hid (HD.out.only ho (fun q s e => s.2 e))
            have HOa : Hid (Only (fun _ => False) w w1) := Lib.hid (HO.out.then ho (fun q hq e => by have := HRPE.out; omega))
            clear hrs ho HU1' HU1 HR HD HO z1
            go_upto_region 11 with fail
            obtain ⟨w2, hw2⟩ : ∃ x, x = w1.alloc (.cells #[.int .i64 xi, .int .i64 0, .int .i64 0, .int .i64 0, .slice none 0 0] 50) := ⟨_, rfl⟩
            obtain ⟨g, hg⟩ : ∃ x, x = w1.heap.size := ⟨_, rfl⟩
            obtain ⟨b1, hb1⟩ : ∃ x, x = w1.heap.size := ⟨_, rfl⟩
            obtain ⟨q0, q1', q2', q3', q4, hal⟩ := sbox hw2 hg
            have HB0 : Hid (w.heap.size ≤ b1) := Lib.hid (by rw [hb1]; exact HOa.out.size)
            have HST2 : Hid (StI w.heap.size b1 w2 rp vp g m la v L xi 0 0 0 (.slice none 0 0) [] sa) := Lib.hid (by
              have hlt := RR.lt' HRa.out
              exact ⟨HRa.out.only hal (fun f => f), (HDa.out.mono (T := Sz w.heap.size b1 rp) (fun q hq s => ⟨s.1, by omega, s.2⟩)).quiet hal, q0, q1', q2', q3', q4, fun j => by rw [hw2]; exact sfrozen hg j, OwnR.nil _ _, by simp [Value.ownBlock], (fun q e => by simp [Value.ownBlock] at e), by omega, ⟨by have := HRPE.out; omega, by omega⟩⟩)
            have HO2 := Lib.hid (HOa.out.trans hal)
            have HB2 : Hid (b1 ≤ w2.heap.size) := Lib.hid (by rw [hb1]; exact hal.size)
            simp only [← hw2, ← hg]
            clear hw2 hg hb1 q0 q1' q2' q3' q4 hal HRa HDa HOa
            have HC0 := Lib.hid (HU2.out w2 HST2.out.rr)
            go_wp2_with fail
            refine HC0.out.mono ?_
            rintro _ w3 ⟨rfl, hrs, ho⟩
            have HST3 := Lib.hid (HST2.out.rd hrs ho)
            have HO3 : Hid (Only (fun _ => False) w w3) := Lib.hid (HO2.out.then ho (fun q hq e => by have := HRPE.out; omega))
            have HB3 : Hid (b1 ≤ w3.heap.size) := Lib.hid (Nat.le_trans HB2.out ho.size)
            have d := HST3.out.c1
            have f := HST3.out.fz 1
            clear hrs ho HC0 HU2 HST2 HO2 HB2
            go_upto_region 12 with fail
            obtain ⟨w4, hw4⟩ : ∃ x, x = w3.setCell ⟨g, 1, none⟩ (.int .i64 xnd) := ⟨_, rfl⟩
            have HST4 := Lib.hid (HST3.out.s1 hw4)
            have HO4 : Hid (Only (fun _ => False) w w4) := Lib.hid (HO3.out.then (by rw [hw4]; exact Only.set (fun q => q = g) _ g 1 _ rfl) (fun q hq e => by have := HST3.out.gb; have := HB0.out; omega))
            have HB4 : Hid (b1 ≤ w4.heap.size) := Lib.hid (by rw [hw4]; exact Nat.le_trans HB3.out (Only.set (fun q => q = g) _ g 1 _ rfl).size)
            simp only [← hw4]
            clear hw4 d f HST3 HO3 HB3
            have HC1 := Lib.hid (HU3.out w4 HST4.out.rr)
            go_wp2_with fail
            refine HC1.out.mono ?_
            rintro _ w5 ⟨rfl, hrs, ho⟩
            have HST5 := Lib.hid (HST4.out.rd hrs ho)
            have HO5 : Hid (Only (fun _ => False) w w5) := Lib.hid (HO4.out.then ho (fun q hq e => by have := HRPE.out; omega))
            have HB5 : Hid (b1 ≤ w5.heap.size) := Lib.hid (Nat.le_trans HB4.out ho.size)
            have d := HST5.out.c2
            have f := HST5.out.fz 2
            clear hrs ho HC1 HU3 HST4 HO4 HB4
            go_upto_region 13 with fail
            obtain ⟨w6, hw6⟩ : ∃ x, x = w5.setCell ⟨g, 2, none⟩ (.int .i64 xnum) := ⟨_, rfl⟩
            have HST6 := Lib.hid (HST5.out.s2 hw6)
            have HO6 : Hid (Only (fun _ => False) w w6) := Lib.hid (HO5.out.then (by rw [hw6]; exact Only.set (fun q => q = g) _ g 2 _ rfl) (fun q hq e => by have := HST5.out.gb; have := HB0.out; omega))
            have HB6 : Hid (b1 ≤ w6.heap.size) := Lib.hid (by rw [hw6]; exact Nat.le_trans HB5.out (Only.set (fun q => q = g) _ g 2 _ rfl).size)
            simp only [← hw6]
            clear hw6 d f HST5 HO5 HB5
            have HC2 := Lib.hid (HU4.out w6 HST6.out.rr)
            go_wp2_with fail
            refine HC2.out.mono ?_
            rintro _ w7 ⟨rfl, hrs, ho⟩
            have HST7 := Lib.hid (HST6.out.rd hrs ho)
            have HO7 : Hid (Only (fun _ => False) w w7) := Lib.hid (HO6.out.then ho (fun q hq e => by have := HRPE.out; omega))
            have HB7 : Hid (b1 ≤ w7.heap.size) := Lib.hid (Nat.le_trans HB6.out ho.size)
            have d := HST7.out.c3
            have f := HST7.out.fz 3
            clear hrs ho HC2 HU4 HST6 HO6 HB6
            go_upto_region 14 with fail
            obtain ⟨w8, hw8⟩ : ∃ x, x = w7.setCell ⟨g, 3, none⟩ (.int .i64 xdl) := ⟨_, rfl⟩
            have HST8 := Lib.hid (HST7.out.s3 hw8)
            have HO8 : Hid (Only (fun _ => False) w w8) := Lib.hid (HO7.out.then (by rw [hw8]; exact Only.set (fun q => q = g) _ g 3 _ rfl) (fun q hq e => by have := HST7.out.gb; have := HB0.out; omega))
            have HB8 : Hid (b1 ≤ w8.heap.size) := Lib.hid (by rw [hw8]; exact Nat.le_trans HB7.out (Only.set (fun q => q = g) _ g 3 _ rfl).size)
            simp only [← hw8]
            clear hw8 d f HST7 HO7 HB7
            have HC4 := Lib.hid (HU5.out w8 HST8.out.rr)
            go_wp2_with fail
            refine HC4.out.mono ?_
            rintro _ w9 ⟨rfl, hrs, ho⟩
            have HST9 : Hid (StI w.heap.size b1 w9 rp vp g m la v L xi xnd xnum xdl (.slice none 0 0) (rdGs 0 S5).1 (rdGs 0 S5).2) := Lib.hid (HST8.out.rd hrs ho)
            have HO9 : Hid (Only (fun _ => False) w w9) := Lib.hid (HO8.out.then ho (fun q hq e => by have := HRPE.out; omega))
            have HB9 : Hid (b1 ≤ w9.heap.size) := Lib.hid (Nat.le_trans HB8.out ho.size)
            clear hrs ho HC4 HU5 HST8 HO8 HB8
            go_upto_block 2 with fail
            go_cut [12, 13] from 67 to 96 (fun kv hv wx => ∃ (k : Nat) (v4 : Value), Hid (k ≤ mm ∧ ((rdGs mm S5).2 ≠ none → k = mm)) ∧ Hid (StI w.heap.size b1 wx rp vp g m la v L xi xnd xnum xdl v4 (rdGs k S5).1 (rdGs mm S5).2) ∧ Hid (Only (fun _ => False) w wx) ∧ Hid (b1 ≤ wx.heap.size))
            case first =>
              go_wp2_with fail
              go_loopw [12] (fun kv wr => ∃ (k : Nat) (v4 : Value), k ≤ mm ∧ kv = .int .i64 (k : Int) ∧ Hid (StI w.heap.size b1 wr rp vp g m la v L xi xnd xnum xdl v4 (rdGs k S5).1 (rdGs k S5).2) ∧ Hid (Only (fun _ => False) w wr) ∧ Hid (b1 ≤ wr.heap.size)) (fun kv _ => mm - (intOf kv).toNat)
              case atStart => exact ⟨0, _, by omega, rfl, HST9, HO9, HB9⟩
              case round =>
                clear HST9 HO9 HB9
                obtain ⟨k, v4, hk, rfl, HST, HOk, HBk⟩ := hrel
                rename World => wk
                have hk0 : (0 : Int) ≤ k := by omega
                have hk64 : (k : Int) ≤ 64 := by omega
                by_cases h9 : k < mm
                · have hkn : (k : Int) < mm := by omega
                  rcases hgt : (rdGs k S5).2 with _ | gi
                  · rw [hgt] at HST
                    obtain ⟨e2, z2, hz2⟩ := RR.e1 HST.out.rr
                    have hs := rdGs_stop S5 k mm hgt hk
                    have HKM : Hid (k ≤ mm ∧ ((rdGs mm S5).2 ≠ none → k = mm)) := Lib.hid ⟨hk, fun h => absurd hs h⟩
                    have HST2 : Hid (StI w.heap.size b1 wk rp vp g m la v L xi xnd xnum xdl v4 (rdGs k S5).1 (rdGs mm S5).2) := Lib.hid (by rw [hs]; exact HST.out)
                    clear hs hgt HST
                    go_wp2_with fail
                    go_meet
                    exact ⟨k, v4, HKM, HST2, HOk, HBk⟩
                  · rw [hgt] at HST
                    have z2 := RR.e0 HST.out.rr
                    obtain ⟨yg, hyg⟩ : ∃ x : Int, ((cs.uF (some gi)).1 : Int) = x := ⟨_, rfl⟩
                    obtain ⟨ga, hga⟩ : ∃ x, (cs.uF (some gi)).2 = x := ⟨_, rfl⟩
                    obtain ⟨yu, hyu⟩ : ∃ x : Int, ((cs.uF (ga)).1 : Int) = x := ⟨_, rfl⟩
                    obtain ⟨gb, hgb⟩ : ∃ x, (cs.uF (ga)).2 = x := ⟨_, rfl⟩
                    obtain ⟨ya, hya⟩ : ∃ x : Int, ((cs.uF (gb)).1 : Int) = x := ⟨_, rfl⟩
                    obtain ⟨gc, hgc⟩ : ∃ x, (cs.uF (gb)).2 = x := ⟨_, rfl⟩
                    obtain ⟨yf, hyf⟩ : ∃ x : Bool, (codp.fS gc).1 = x := ⟨_, rfl⟩
                    obtain ⟨gd, hgd⟩ : ∃ x, (codp.fS gc).2 = x := ⟨_, rfl⟩
                    have HGG : Hid ((rdGs (k + 1) S5).1 = (rdGs k S5).1 ++ [⟨yg, yu, ya, yf⟩] ∧ (rdGs (k + 1) S5).2 = gd) := Lib.hid (by
                      show (rdGs k S5).1 ++ [(rdG (rdGs k S5).2).1] = _ ∧ (rdG (rdGs k S5).2).2 = _
                      rw [hgt]
                      unfold rdG
                      rw [hyg, hga, hyu, hgb, hya, hgc, hyf, hgd]
                      exact ⟨rfl, rfl⟩)
                    have HKL : Hid ((rdGs k S5).1.length = k) := Lib.hid (rdGs_len _ _)
                    have HG1 : Hid (∀ w', RR w' rp (some gi) → Calls Try.prog 48 #[.pointer (some ⟨rp, 0, none⟩), .int .i64 4611686018427387904] w' (Aft rp w' (.int .i64 yg) ga)) := Lib.hid (fun w' h => by have := ruint_s rp 4611686018427387904 (some gi) w' h (by omega); rw [show ((uS 4611686018427387904 (some gi)).1 : Int) = yg from hyg, show (uS 4611686018427387904 (some gi)).2 = ga from hga] at this; exact this)
                    have HG2 : Hid (∀ w', RR w' rp (ga) → Calls Try.prog 48 #[.pointer (some ⟨rp, 0, none⟩), .int .i64 4611686018427387904] w' (Aft rp w' (.int .i64 yu) gb)) := Lib.hid (fun w' h => by have := ruint_s rp 4611686018427387904 (ga) w' h (by omega); rw [show ((uS 4611686018427387904 (ga)).1 : Int) = yu from hyu, show (uS 4611686018427387904 (ga)).2 = gb from hgb] at this; exact this)
                    have HG3 : Hid (∀ w', RR w' rp (gb) → Calls Try.prog 48 #[.pointer (some ⟨rp, 0, none⟩), .int .i64 4611686018427387904] w' (Aft rp w' (.int .i64 ya) gc)) := Lib.hid (fun w' h => by have := ruint_s rp 4611686018427387904 (gb) w' h (by omega); rw [show ((uS 4611686018427387904 (gb)).1 : Int) = ya from hya, show (uS 4611686018427387904 (gb)).2 = gc from hgc] at this; exact this)
                    have HG4 : Hid (∀ w', RR w' rp gc → Calls Try.prog 50 #[.pointer (some ⟨rp, 0, none⟩)] w' (Aft rp w' (.bool yf) gd)) := Lib.hid (fun w' h => by have := rflag_s rp gc w' h; rw [hyf, hgd] at this; exact this)
                    clear hgt hyg hga hyu hgb hya hgc hyf hgd
                    have HC1 := Lib.hid (HG1.out wk HST.out.rr)
                    go_wp2_with fail
                    refine HC1.out.mono ?_
                    rintro _ w1 ⟨rfl, hrs, ho⟩
                    have HS1 := Lib.hid (HST.out.rd hrs ho)
                    have HO1 : Hid (Only (fun _ => False) w w1) := Lib.hid (HOk.out.then ho (fun q hq e => by have := HRPE.out; omega))
                    have HB1 : Hid (b1 ≤ w1.heap.size) := Lib.hid (Nat.le_trans HBk.out ho.size)
                    clear hrs ho HC1 HG1 HST HOk HBk z2
                    go_upto_region 19 with fail
                    obtain ⟨w2, hw2⟩ : ∃ x, x = w1.alloc (.cells #[.int .i64 yg, .int .i64 0, .int .i64 0, .bool false] 92) := ⟨_, rfl⟩
                    obtain ⟨h, hh⟩ : ∃ x, x = w1.heap.size := ⟨_, rfl⟩
                    have hal : Only (fun _ => False) w1 w2 := by rw [hw2]; exact (Only.refl _ _).alloc _
                    have HX2 := Lib.hid (B4.new hw2 hh)
                    have HN := Lib.hid (HS1.out.new hh)
                    have HS2 := Lib.hid (HS1.out.quiet hal)
                    have HO2 := Lib.hid (HO1.out.trans hal)
                    have HB2 : Hid (b1 ≤ w2.heap.size) := Lib.hid (Nat.le_trans HB1.out hal.size)
                    have HHR : Hid (¬ h = rp) := Lib.hid (by have := HS1.out.rp1; have := HN.out.2.2; omega)
                    simp only [← hw2, ← hh]
                    clear hw2 hh hal HS1 HO1 HB1
                    have HC0 := Lib.hid (HG2.out w2 HS2.out.rr)
                    go_wp2_with fail
                    refine HC0.out.mono ?_
                    rintro _ w3 ⟨rfl, hrs, ho⟩
                    have HS3 := Lib.hid (HS2.out.rd hrs ho)
                    have HX3 := Lib.hid (HX2.out.only ho HHR.out)
                    have HO3 : Hid (Only (fun _ => False) w w3) := Lib.hid (HO2.out.then ho (fun q hq e => by have := HRPE.out; omega))
                    have HB3 : Hid (b1 ≤ w3.heap.size) := Lib.hid (Nat.le_trans HB2.out ho.size)
                    obtain ⟨⟨d0, d1, d2, d3⟩, df⟩ := id HX3.out
                    have f := df 1
                    clear hrs ho HC0 HG2 HS2 HO2 HB2 HX2 df
                    go_upto_region 20 with fail
                    obtain ⟨w4, hw4⟩ : ∃ x, x = w3.setCell ⟨h, 1, none⟩ (.int .i64 yu) := ⟨_, rfl⟩
                    have hset : Only (fun q => q = h) w3 w4 := by rw [hw4]; exact Only.set (fun q => q = h) _ h 1 _ rfl
                    have HX4 := Lib.hid (HX3.out.s1 hw4)
                    have HS4 := Lib.hid (HS3.out.far hset HN.out)
                    have HO4 : Hid (Only (fun _ => False) w w4) := Lib.hid (HO3.out.then hset (fun q hq e => by have := HN.out.2.2; have := HB0.out; omega))
                    have HB4 : Hid (b1 ≤ w4.heap.size) := Lib.hid (Nat.le_trans HB3.out hset.size)
                    simp only [← hw4]
                    clear hw4 hset d0 d1 d2 d3 f HS3 HO3 HB3 HX3
                    have HC1 := Lib.hid (HG3.out w4 HS4.out.rr)
                    go_wp2_with fail
                    refine HC1.out.mono ?_
                    rintro _ w5 ⟨rfl, hrs, ho⟩
                    have HS5 := Lib.hid (HS4.out.rd hrs ho)
                    have HX5 := Lib.hid (HX4.out.only ho HHR.out)
                    have HO5 : Hid (Only (fun _ => False) w w5) := Lib.hid (HO4.out.then ho (fun q hq e => by have := HRPE.out; omega))
                    have HB5 : Hid (b1 ≤ w5.heap.size) := Lib.hid (Nat.le_trans HB4.out ho.size)
                    obtain ⟨⟨d0, d1, d2, d3⟩, df⟩ := id HX5.out
                    have f := df 2
                    clear hrs ho HC1 HG3 HS4 HO4 HB4 HX4 df
                    go_upto_region 21 with fail
                    obtain ⟨w6, hw6⟩ : ∃ x, x = w5.setCell ⟨h, 2, none⟩ (.int .i64 ya) := ⟨_, rfl⟩
                    have hset : Only (fun q => q = h) w5 w6 := by rw [hw6]; exact Only.set (fun q => q = h) _ h 2 _ rfl
                    have HX6 := Lib.hid (HX5.out.s2 hw6)
                    have HS6 := Lib.hid (HS5.out.far hset HN.out)
                    have HO6 : Hid (Only (fun _ => False) w w6) := Lib.hid (HO5.out.then hset (fun q hq e => by have := HN.out.2.2; have := HB0.out; omega))
                    have HB6 : Hid (b1 ≤ w6.heap.size) := Lib.hid (Nat.le_trans HB5.out hset.size)
                    simp only [← hw6]
                    clear hw6 hset d0 d1 d2 d3 f HS5 HO5 HB5 HX5
                    have HC2 := Lib.hid (HG4.out w6 HS6.out.rr)
                    go_wp2_with fail
                    refine HC2.out.mono ?_
                    rintro _ w7 ⟨rfl, hrs, ho⟩
                    have HS7 := Lib.hid (HS6.out.rd hrs ho)
                    have HX7 := Lib.hid (HX6.out.only ho HHR.out)
                    have HO7 : Hid (Only (fun _ => False) w w7) := Lib.hid (HO6.out.then ho (fun q hq e => by have := HRPE.out; omega))
                    have HB7 : Hid (b1 ≤ w7.heap.size) := Lib.hid (Nat.le_trans HB6.out ho.size)
                    obtain ⟨⟨d0, d1, d2, d3⟩, df⟩ := id HX7.out
                    have f := df 3
                    clear hrs ho HC2 HG4 HS6 HO6 HB6 HX6 df
                    go_upto_region 22 with fail
                    obtain ⟨w8, hw8⟩ : ∃ x, x = w7.setCell ⟨h, 3, none⟩ (.bool yf) := ⟨_, rfl⟩
                    have hset : Only (fun q => q = h) w7 w8 := by rw [hw8]; exact Only.set (fun q => q = h) _ h 3 _ rfl
                    have HX8 := Lib.hid (HX7.out.s3 hw8)
                    have HS8 := Lib.hid (HS7.out.far hset HN.out)
                    have HO8 : Hid (Only (fun _ => False) w w8) := Lib.hid (HO7.out.then hset (fun q hq e => by have := HN.out.2.2; have := HB0.out; omega))
                    have HB8 : Hid (b1 ≤ w8.heap.size) := Lib.hid (Nat.le_trans HB7.out hset.size)
                    simp only [← hw8]
                    clear hw8 hset d0 d1 d2 d3 f HS7 HO7 HB7 HX7
                    obtain ⟨i0, hi0', hz0', hz1', hz2'⟩ := info_partsS info_rgr
                    obtain ⟨va, vc, hv, -, -, -, -, -⟩ := HS8.out.own.reads
                    rw [HKL.out] at hv
                    subst hv
                    obtain ⟨⟨e0, e1, e2, e3⟩, -⟩ := id HX8.out
                    have hv := HS8.out.c4
                    have hfv := HS8.out.fz 4
                    have HOW2 : Hid (∀ o, (w8.alloc o).ownsRow 0 92 4 (.slice va k vc) k (gv (EG 0) (rdGs k S5).1)) := Lib.hid (fun o => by
                      have h := HS8.out.own.quiet ((Only.refl (fun _ => False) w8).alloc o)
                      unfold OwnR at h
                      rw [HKL.out] at h
                      exact h)
                    have hvb : (.slice va k vc : Value).ownBlock ≠ some g := HS8.out.vg
                    go_wp2_with (at_builtin; refine append_mine rfl _ _ 48 rfl 92 i0 _ 4 32 Try.underlying48 hi0' hz0' hz1' hz2' rfl (by decide) (.slice va k vc) k _ rfl (HOW2.out _) ⟨w8.heap.size, 0, none⟩ 1 1 (encG ⟨yg, yu, ya, yf⟩) rfl ?c1 ?c2 ?c3 ?c4 ?c5 ?_)
                    case c1 => rfl
                    case c2 =>
                      intro j u hu
                      rw [add_none, Nat.zero_add]
                      exact news_one (EG 0) (x := ⟨yg, yu, ya, yf⟩) rfl rfl j u hu
                    case c3 => exact (EG 0).one ⟨yg, yu, ya, yf⟩
                    case c4 => (unfold maxLen; omega)
                    case c5 => omega
                    intro v7 w7 hown hgrow hkk
                    obtain ⟨gq, bc, rfl, -⟩ := owns_form hown (by omega)
                    have hgo := Only.of_grown hgrow
                    have hal : Only (fun _ => False) w8 (w8.alloc (.cells #[.int .i64 yg, .int .i64 yu, .int .i64 ya, .bool yf] 92)) := (Only.refl _ _).alloc _
                    have hv7 := hgo.cell' (hal.cell' hv (fun f => f)) hvb
                    have hf7 : w7.frozen? ⟨g, 4, none⟩ = false := (hgo.frozen (p := ⟨g, 4, none⟩) (World.block_lt_of_cell? _ _ (hal.cell' hv (fun f => f))) hvb).trans ((hal.frozen (p := ⟨g, 4, none⟩) (World.block_lt_of_cell? w8 _ hv) (fun f => f)).trans hfv)
                    obtain ⟨wz, hwz⟩ : ∃ z, z = w7.setCell ⟨g, 4, none⟩ (.slice (some ⟨gq, 0, none⟩) (k + 1) bc) := ⟨_, rfl⟩
                    obtain ⟨hst8, hbo⟩ := HS8.out.app (v' := .slice (some ⟨gq, 0, none⟩) (k + 1) bc) (K' := (rdGs (k + 1) S5).1) HB8.out ((hal.mono (fun _ _ f => f.elim)).trans hgo) (by rw [HGG.out.1]; exact OwnR.app (E := EG 92) hown HKL.out) (fun q e => (hkk q e).imp (fun x => x) (fun e => by omega)) hwz
                    have HSZ : Hid (StI w.heap.size b1 wz rp vp g m la v L xi xnd xnum xdl (.slice (some ⟨gq, 0, none⟩) (k + 1) bc) (rdGs (k + 1) S5).1 (rdGs (k + 1) S5).2) := Lib.hid (by rw [HGG.out.2]; exact hst8)
                    have HOZ : Hid (Only (fun _ => False) w wz) := Lib.hid (HO8.out.then hbo (fun q hq e => e.elim (fun e => by have := HS8.out.vb q e; have := HB0.out; omega) (fun e => by have := HS8.out.gb; have := HB0.out; omega)))
                    have HBZ : Hid (b1 ≤ wz.heap.size) := Lib.hid (Nat.le_trans HB8.out hbo.size)
                    clear hown hgrow hkk hgo hal hvb HOW2 hv HS8 HX8 HO8 HB8 HGG e0 e1 e2 e3 hfv HKL hst8 hbo HN HHR
                    go_wp2_with fail
                    rw [← hwz]
                    clear hwz
                    go_roundw
                    case rel => exact ⟨k + 1, _, by omega, by go_num, HSZ, HOZ, HBZ⟩
                    case measure => (simp [intOf]; omega)
                · obtain rfl : k = mm := by omega
                  have hnl : ¬ (k : Int) < k := by omega
                  go_wp2_with fail
                  go_meet
                  exact ⟨k, v4, Lib.hid ⟨Nat.le_refl _, fun _ => rfl⟩, HST, HOk, HBk⟩
            case rest =>
              obtain ⟨k, v4, HKM, HST8, HO8, HB1⟩ := hcut
              rename World => w8
              clear HST9 HO9 HB9
              obtain ⟨GS, hGS⟩ : ∃ x, (rdGs k S5).1 = x := ⟨_, rfl⟩
              have hgl : GS.length = k := by rw [← hGS]; exact rdGs_len _ _
              rw [hGS] at HST8
              obtain ⟨a4, n4, c4, hv4, hn4⟩ : ∃ a4 n4 c4, v4 = .slice a4 n4 c4 ∧ GS.length = n4 := by
                obtain ⟨a, c, e, -⟩ := HST8.out.own.reads
                exact ⟨a, _, c, e, rfl⟩
              subst hv4
              have HGL := Lib.hid hn4
              have HRT0 : Hid (∀ w', Only (fun _ => False) w8 w' → Calls Try.prog 51 #[.agg #[.int .i64 xi, .int .i64 xnd, .int .i64 xnum, .int .i64 xdl, .slice a4 n4 c4]] w' fun e w'' => e = .returned (.bool (rightB ⟨xi, xnd, xnum, xdl, GS⟩)) ∧ Only (fun _ => False) w' w'') := Lib.hid (fun w' h => by
                subst hn4
                obtain ⟨a', c', he, hcp, hrg, -⟩ := own_G (HST8.out.own.quiet h) rfl
                injection he with e1 _ e3
                subst e1 e3
                exact rright_any xi xnd xnum xdl a4 _ c4 GS w' hrg hcp)
              have HFL2 : Hid ((rdSs (i + 1) Q3).2 ≠ none → (L ++ [(⟨xi, xnd, xnum, xdl, a4, n4, c4, GS⟩ : Sd)]).map Sd.sx = (rdSs (i + 1) Q3).1 ∧ ((RB && rightB ⟨xi, xnd, xnum, xdl, GS⟩ && decide (lx < xi) && decide (xi ≤ la)) = true ↔ hdD b ∧ okD la (rdSs (i + 1) Q3).1) ∧ xi = lK (rdSs (i + 1) Q3).1) := Lib.hid (fun h => by
                rw [HSS.out.2, HRD.out.2] at h
                have hkm := HKM.out.2 h
                have e : (rdS (some si)).1 = ⟨xi, xnd, xnum, xdl, GS⟩ := by rw [HRD.out.1, ← hGS, hkm]
                obtain ⟨f1, f2, f3⟩ := HFL.out HNN.out
                rw [HSS.out.1, e]
                refine ⟨by rw [List.map_append, f1]; rfl, flag_step (X := ⟨xi, xnd, xnum, xdl, GS⟩) f2 f3, by rw [lK_snoc]⟩)
              obtain ⟨RT, hRT⟩ : ∃ x, rightB ⟨xi, xnd, xnum, xdl, GS⟩ = x := ⟨_, rfl⟩
              rw [hRT] at HFL2
              have HRT : Hid (∀ w', Only (fun _ => False) w8 w' → Calls Try.prog 51 #[.agg #[.int .i64 xi, .int .i64 xnd, .int .i64 xnum, .int .i64 xdl, .slice a4 n4 c4]] w' fun e w'' => e = .returned (.bool RT) ∧ Only (fun _ => False) w' w'') := Lib.hid (by rw [← hRT]; exact HRT0.out)
              have HS23 : Hid (∀ w', Only (fun _ => False) w8 w' → w'.cell? ⟨g, 0, none⟩ = some (.int .i64 xi) ∧ w'.cell? ⟨g, 1, none⟩ = some (.int .i64 xnd) ∧ w'.cell? ⟨g, 2, none⟩ = some (.int .i64 xnum) ∧ w'.cell? ⟨g, 3, none⟩ = some (.int .i64 xdl) ∧ w'.cell? ⟨g, 4, none⟩ = some (.slice a4 n4 c4) ∧ w'.cell? ⟨vp, 1, none⟩ = some (.int .i64 la)) := Lib.hid (fun w' ho => by
                have h := HST8.out.quiet ho
                exact ⟨h.c0, h.c1, h.c2, h.c3, h.c4, h.dt.c1⟩)
              have HSTT : Hid ((rdGs mm S5).2 = (rdSs (i + 1) Q3).2) := Lib.hid (by rw [HSS.out.2, HRD.out.2])
              clear hRT HRT0 hGS hgl hn4 HFL HKM HRD HSS HNN
              replace HFL := HFL2
              clear HFL2
              go_upto_region 23 with fail
              go_cut [7] from 97 to 116 (fun bv wx => bv = .bool (RB && RT && decide (lx < xi) && decide (xi ≤ la)) ∧ Only (fun _ => False) w8 wx)
              case first =>
                cases RB
                · refine wp_region_noPanic ?_
                  refine late.region (fun w' => w'.cell? ⟨g, 0, none⟩ = some (.int .i64 xi) ∧ w'.cell? ⟨g, 1, none⟩ = some (.int .i64 xnd) ∧ w'.cell? ⟨g, 2, none⟩ = some (.int .i64 xnum) ∧ w'.cell? ⟨g, 3, none⟩ = some (.int .i64 xdl) ∧ w'.cell? ⟨g, 4, none⟩ = some (.slice a4 n4 c4) ∧ w'.cell? ⟨vp, 1, none⟩ = some (.int .i64 la)) (fun j => [].contains j) (by kernel_rfl) (HS23.out _ (Only.refl _ _).drew) (fun hHeld => ?_)
                  obtain ⟨z0, hz0⟩ : ∃ x, x = w8.drew := ⟨_, rfl⟩
                  rw [← hz0] at hHeld ⊢
                  have hot : Hid (Only (fun _ => False) w8 z0) := Lib.hid (by rw [hz0]; exact (Only.refl _ _).drew)
                  clear hz0
                  refine late.take (i := 0) [1, 2, 3, 4, 5, 6, 7, 8, 9, 10, 11, 12, 13, 14, 15, 16, 17, 18, 19, 20] (v := ?_) rfl (by kernel_rfl) (by kernel_rfl) (by kernel_rfl) (by kernel_rfl) (fun _ _ _ h => h) (Or.inl ⟨by rfl, ?_⟩) (by assumption) ?_
                  rotate_left 1
                  · intro w' hSw
                    try dsimp only at hSw
                    go_simp
                    try with_reducible rfl
                  try simp only [List.getElem_toArray, List.getElem_cons_zero, Act.put, List.setIfInBounds_toArray, List.set_cons_zero, List.set_cons_succ]
                  refine late.take (i := 1) [2, 3, 4, 5, 6, 7, 8, 9, 10, 11, 12, 13, 14, 15, 16, 17, 18, 19, 20] (v := ?_) rfl (by kernel_rfl) (by kernel_rfl) (by kernel_rfl) (by kernel_rfl) (fun _ _ _ h => h) (Or.inl ⟨by rfl, ?_⟩) (by assumption) ?_
                  rotate_left 1
                  · intro w' hSw
                    try dsimp only at hSw
                    go_simp
                    try with_reducible rfl
                  try simp only [List.getElem_toArray, List.getElem_cons_zero, List.getElem_cons_succ, Act.put, List.setIfInBounds_toArray, List.set_cons_zero, List.set_cons_succ]
                  refine late.take (i := 2) [3, 4, 5, 6, 7, 8, 9, 10, 11, 12, 13, 14, 15, 16, 17, 18, 19, 20] (v := undef) rfl (by kernel_rfl) (by kernel_rfl) (by kernel_rfl) (by kernel_rfl) (fun _ _ _ h => h) (Or.inr ⟨rfl, rfl⟩) (by assumption) ?_
                  try simp only [List.getElem_toArray, List.getElem_cons_zero, List.getElem_cons_succ, Act.put, List.setIfInBounds_toArray, List.set_cons_zero, List.set_cons_succ]
                  refine late.take (i := 3) [4, 5, 6, 7, 8, 9, 10, 11, 12, 13, 14, 15, 16, 17, 18, 19, 20] (v := undef) rfl (by kernel_rfl) (by kernel_rfl) (by kernel_rfl) (by kernel_rfl) (fun _ _ _ h => h) (Or.inr ⟨rfl, rfl⟩) (by assumption) ?_
                  try simp only [List.getElem_toArray, List.getElem_cons_zero, List.getElem_cons_succ, Act.put, List.setIfInBounds_toArray, List.set_cons_zero, List.set_cons_succ]
                  refine late.take (i := 4) [5, 6, 7, 8, 9, 10, 11, 12, 13, 14, 15, 16, 17, 18, 19, 20] (v := ?_) rfl (by kernel_rfl) (by kernel_rfl) (by kernel_rfl) (by kernel_rfl) (fun _ _ _ h => h) (Or.inl ⟨by rfl, ?_⟩) (by assumption) ?_
                  rotate_left 1
                  · intro w' hSw
                    try dsimp only at hSw
                    go_simp
                    try with_reducible rfl
                  try simp only [List.getElem_toArray, List.getElem_cons_zero, List.getElem_cons_succ, Act.put, List.setIfInBounds_toArray, List.set_cons_zero, List.set_cons_succ]
                  refine late.take (i := 5) [6, 7, 8, 9, 10, 11, 12, 13, 14, 15, 16, 17, 18, 19, 20] (v := ?_) rfl (by kernel_rfl) (by kernel_rfl) (by kernel_rfl) (by kernel_rfl) (fun _ _ _ h => h) (Or.inl ⟨by rfl, ?_⟩) (by assumption) ?_
                  rotate_left 1
                  · intro w' hSw
                    try dsimp only at hSw
                    go_simp
                    try with_reducible rfl
                  try simp only [List.getElem_toArray, List.getElem_cons_zero, List.getElem_cons_succ, Act.put, List.setIfInBounds_toArray, List.set_cons_zero, List.set_cons_succ]
                  refine late.take (i := 6) [7, 9, 10, 11, 12, 13, 14, 15, 16, 17, 18, 19, 20] (v := undef) rfl (by kernel_rfl) (by kernel_rfl) (by kernel_rfl) (by kernel_rfl) (fun _ _ _ h => h) (Or.inr ⟨rfl, rfl⟩) (by assumption) ?_
                  try simp only [List.getElem_toArray, List.getElem_cons_zero, List.getElem_cons_succ, Act.put, List.setIfInBounds_toArray, List.set_cons_zero, List.set_cons_succ]
                  refine late.take (i := 7) [9, 10, 11, 12, 13, 14, 15, 16, 17, 18, 19, 20] (v := undef) rfl (by kernel_rfl) (by kernel_rfl) (by kernel_rfl) (by kernel_rfl) (fun _ _ _ h => h) (Or.inr ⟨rfl, rfl⟩) (by assumption) ?_
                  try simp only [List.getElem_toArray, List.getElem_cons_zero, List.getElem_cons_succ, Act.put, List.setIfInBounds_toArray, List.set_cons_zero, List.set_cons_succ]
                  refine late.take (i := 8) [9, 10, 11, 12, 13, 14, 15, 16, 17, 18, 19, 20] (v := undef) rfl (by kernel_rfl) (by kernel_rfl) (by kernel_rfl) (by kernel_rfl) (fun _ _ _ h => h) (Or.inr ⟨rfl, rfl⟩) (by assumption) ?_
                  try simp only [List.getElem_toArray, List.getElem_cons_zero, List.getElem_cons_succ, Act.put, List.setIfInBounds_toArray, List.set_cons_zero, List.set_cons_succ]
                  refine late.take (i := 9) [10, 11, 12, 13, 14, 15, 16, 17, 18, 19, 20] (v := undef) rfl (by kernel_rfl) (by kernel_rfl) (by kernel_rfl) (by kernel_rfl) (fun _ _ _ h => h) (Or.inr ⟨rfl, rfl⟩) (by assumption) ?_
                  try simp only [List.getElem_toArray, List.getElem_cons_zero, List.getElem_cons_succ, Act.put, List.setIfInBounds_toArray, List.set_cons_zero, List.set_cons_succ]
                  refine late.take (i := 10) [11, 12, 13, 14, 15, 16, 17, 18, 19, 20] (v := ?_) rfl (by kernel_rfl) (by kernel_rfl) (by kernel_rfl) (by kernel_rfl) (fun _ _ _ h => h) (Or.inl ⟨by rfl, ?_⟩) (by assumption) ?_
                  rotate_left 1
                  · intro w' hSw
                    try dsimp only at hSw
                    go_simp
                    try with_reducible rfl
                  try simp only [List.getElem_toArray, List.getElem_cons_zero, List.getElem_cons_succ, Act.put, List.setIfInBounds_toArray, List.set_cons_zero, List.set_cons_succ]
                  refine late.take (i := 11) [12, 13, 14, 15, 16, 17, 18, 19, 20] (v := ?_) rfl (by kernel_rfl) (by kernel_rfl) (by kernel_rfl) (by kernel_rfl) (fun _ _ _ h => h) (Or.inl ⟨by rfl, ?_⟩) (by assumption) ?_
                  rotate_left 1
                  · intro w' hSw
                    try dsimp only at hSw
                    go_simp
                    try with_reducible rfl
                  try simp only [List.getElem_toArray, List.getElem_cons_zero, List.getElem_cons_succ, Act.put, List.setIfInBounds_toArray, List.set_cons_zero, List.set_cons_succ]
                  refine late.take (i := 12) [13, 18, 19, 20] (v := undef) rfl (by kernel_rfl) (by kernel_rfl) (by kernel_rfl) (by kernel_rfl) (fun _ _ _ h => h) (Or.inr ⟨rfl, rfl⟩) (by assumption) ?_
                  try simp only [List.getElem_toArray, List.getElem_cons_zero, List.getElem_cons_succ, Act.put, List.setIfInBounds_toArray, List.set_cons_zero, List.set_cons_succ]
                  refine late.take (i := 13) [18, 19, 20] (v := undef) rfl (by kernel_rfl) (by kernel_rfl) (by kernel_rfl) (by kernel_rfl) (fun _ _ _ h => h) (Or.inr ⟨rfl, rfl⟩) (by assumption) ?_
                  try simp only [List.getElem_toArray, List.getElem_cons_zero, List.getElem_cons_succ, Act.put, List.setIfInBounds_toArray, List.set_cons_zero, List.set_cons_succ]
                  refine late.take (i := 14) [15, 16, 17, 18, 19, 20] (v := undef) rfl (by kernel_rfl) (by kernel_rfl) (by kernel_rfl) (by kernel_rfl) (fun _ _ _ h => h) (Or.inr ⟨rfl, rfl⟩) (by assumption) ?_
                  try simp only [List.getElem_toArray, List.getElem_cons_zero, List.getElem_cons_succ, Act.put, List.setIfInBounds_toArray, List.set_cons_zero, List.set_cons_succ]
                  refine late.take (i := 15) [16, 17, 18, 19, 20] (v := undef) rfl (by kernel_rfl) (by kernel_rfl) (by kernel_rfl) (by kernel_rfl) (fun _ _ _ h => h) (Or.inr ⟨rfl, rfl⟩) (by assumption) ?_
                  try simp only [List.getElem_toArray, List.getElem_cons_zero, List.getElem_cons_succ, Act.put, List.setIfInBounds_toArray, List.set_cons_zero, List.set_cons_succ]
                  refine late.take (i := 16) [17, 18, 19, 20] (v := undef) rfl (by kernel_rfl) (by kernel_rfl) (by kernel_rfl) (by kernel_rfl) (fun _ _ _ h => h) (Or.inr ⟨rfl, rfl⟩) (by assumption) ?_
                  try simp only [List.getElem_toArray, List.getElem_cons_zero, List.getElem_cons_succ, Act.put, List.setIfInBounds_toArray, List.set_cons_zero, List.set_cons_succ]
                  refine late.take (i := 17) [18, 19, 20] (v := undef) rfl (by kernel_rfl) (by kernel_rfl) (by kernel_rfl) (by kernel_rfl) (fun _ _ _ h => h) (Or.inr ⟨rfl, rfl⟩) (by assumption) ?_
                  try simp only [List.getElem_toArray, List.getElem_cons_zero, List.getElem_cons_succ, Act.put, List.setIfInBounds_toArray, List.set_cons_zero, List.set_cons_succ]
                  refine late.take (i := 18) [19, 20] (v := undef) rfl (by kernel_rfl) (by kernel_rfl) (by kernel_rfl) (by kernel_rfl) (fun _ _ _ h => h) (Or.inr ⟨rfl, rfl⟩) (by assumption) ?_
                  try simp only [List.getElem_toArray, List.getElem_cons_zero, List.getElem_cons_succ, Act.put, List.setIfInBounds_toArray, List.set_cons_zero, List.set_cons_succ]
                  refine late.take (i := 19) [20] (v := ?_) rfl (by kernel_rfl) (by kernel_rfl) (by kernel_rfl) (by kernel_rfl) (fun _ _ _ h => h) (Or.inl ⟨by rfl, ?_⟩) (by assumption) ?_
                  rotate_left 1
                  · intro w' hSw
                    try dsimp only at hSw
                    go_simp
                    try with_reducible rfl
                  try simp only [List.getElem_toArray, List.getElem_cons_zero, List.getElem_cons_succ, Act.put, List.setIfInBounds_toArray, List.set_cons_zero, List.set_cons_succ]
                  refine late.take (i := 20) [] (v := ?_) rfl (by kernel_rfl) (by kernel_rfl) (by kernel_rfl) (by kernel_rfl) (fun _ _ _ h => h) (Or.inl ⟨by rfl, ?_⟩) (by assumption) ?_
                  rotate_left 1
                  · intro w' hSw
                    try dsimp only at hSw
                    go_simp
                    try with_reducible rfl
                  try simp only [List.getElem_toArray, List.getElem_cons_zero, List.getElem_cons_succ, Act.put, List.setIfInBounds_toArray, List.set_cons_zero, List.set_cons_succ]
                  refine late.done (by kernel_rfl) ?_ _
                  refine NoPanic.normal ?_
                  clear hHeld
                  go_wp2_with fail
                  go_meet
                  exact ⟨by simp, hot.out⟩
                · cases RT
                  · refine wp_region_noPanic ?_
                    refine late.region (fun w' => w'.cell? ⟨g, 0, none⟩ = some (.int .i64 xi) ∧ w'.cell? ⟨g, 1, none⟩ = some (.int .i64 xnd) ∧ w'.cell? ⟨g, 2, none⟩ = some (.int .i64 xnum) ∧ w'.cell? ⟨g, 3, none⟩ = some (.int .i64 xdl) ∧ w'.cell? ⟨g, 4, none⟩ = some (.slice a4 n4 c4) ∧ w'.cell? ⟨vp, 1, none⟩ = some (.int .i64 la)) (fun j => [].contains j) (by kernel_rfl) (HS23.out _ (Only.refl _ _).drew) (fun hHeld => ?_)
                    obtain ⟨z0, hz0⟩ : ∃ x, x = w8.drew := ⟨_, rfl⟩
                    rw [← hz0] at hHeld ⊢
                    have hot : Hid (Only (fun _ => False) w8 z0) := Lib.hid (by rw [hz0]; exact (Only.refl _ _).drew)
                    clear hz0
                    refine late.take (i := 0) [1, 2, 3, 4, 5, 6, 7, 8, 9, 10, 11, 12, 13, 14, 15, 16, 17, 18, 19, 20] (v := ?_) rfl (by kernel_rfl) (by kernel_rfl) (by kernel_rfl) (by kernel_rfl) (fun _ _ _ h => h) (Or.inl ⟨by rfl, ?_⟩) (by assumption) ?_
                    rotate_left 1
                    · intro w' hSw
                      try dsimp only at hSw
                      go_simp
                      try with_reducible rfl
                    try simp only [List.getElem_toArray, List.getElem_cons_zero, Act.put, List.setIfInBounds_toArray, List.set_cons_zero, List.set_cons_succ]
                    refine late.take (i := 1) [2, 3, 4, 5, 6, 7, 8, 9, 10, 11, 12, 13, 14, 15, 16, 17, 18, 19, 20] (v := ?_) rfl (by kernel_rfl) (by kernel_rfl) (by kernel_rfl) (by kernel_rfl) (fun _ _ _ h => h) (Or.inl ⟨by rfl, ?_⟩) (by assumption) ?_
                    rotate_left 1
                    · intro w' hSw
                      try dsimp only at hSw
                      go_simp
                      try with_reducible rfl
                    try simp only [List.getElem_toArray, List.getElem_cons_zero, List.getElem_cons_succ, Act.put, List.setIfInBounds_toArray, List.set_cons_zero, List.set_cons_succ]
                    refine late.take (i := 2) [3, 4, 5, 6, 7, 8, 9, 10, 11, 12, 13, 14, 15, 16, 17, 18, 19, 20] (v := ?_) rfl (by kernel_rfl) (by kernel_rfl) (by kernel_rfl) (by kernel_rfl) (fun _ _ _ h => h) (Or.inl ⟨by rfl, ?_⟩) (by assumption) ?_
                    rotate_left 1
                    · intro w' hSw
                      try dsimp only at hSw
                      go_simp
                      try with_reducible rfl
                    try simp only [List.getElem_toArray, List.getElem_cons_zero, List.getElem_cons_succ, Act.put, List.setIfInBounds_toArray, List.set_cons_zero, List.set_cons_succ]
                    refine late.ready (rs := [3]) (by kernel_rfl) (by simp) ?_
                    refine late.Each.cons rfl (fun K hK => ?_) late.Each.nil
                    try simp only [List.getElem_toArray, List.getElem_cons_zero, List.getElem_cons_succ]
                    go_simp
                    go_at_call 51
                    with_reducible refine (HRT.out _ hot.out).mono ?_
                    rintro _ W1 ⟨rfl, ho⟩
                    replace hot := Lib.hid (hot.out.trans ho)
                    clear ho
                    try dsimp only
                    refine hK.out _ _ (fun _ => HS23.out _ hot.out) (fun hHeld1 => ?_)
                    replace hHeld1 := hHeld1 rfl
                    clear hK K
                    try simp only [List.getElem_toArray, List.getElem_cons_zero, List.getElem_cons_succ, Act.put, List.setIfInBounds_toArray, List.set_cons_zero, List.set_cons_succ]
                    refine late.take (i := 4) [5, 6, 7, 8, 9, 10, 11, 12, 13, 14, 15, 16, 17, 18, 19, 20] (v := ?_) rfl (by kernel_rfl) (by kernel_rfl) (by kernel_rfl) (by kernel_rfl) (fun _ _ _ h => h) (Or.inl ⟨by rfl, ?_⟩) (by assumption) ?_
                    rotate_left 1
                    · intro w' hSw
                      try dsimp only at hSw
                      go_simp
                      try with_reducible rfl
                    try simp only [List.getElem_toArray, List.getElem_cons_zero, List.getElem_cons_succ, Act.put, List.setIfInBounds_toArray, List.set_cons_zero, List.set_cons_succ]
                    refine late.take (i := 5) [6, 7, 8, 9, 10, 11, 12, 13, 14, 15, 16, 17, 18, 19, 20] (v := ?_) rfl (by kernel_rfl) (by kernel_rfl) (by kernel_rfl) (by kernel_rfl) (fun _ _ _ h => h) (Or.inl ⟨by rfl, ?_⟩) (by assumption) ?_
                    rotate_left 1
                    · intro w' hSw
                      try dsimp only at hSw
                      go_simp
                      try with_reducible rfl
                    try simp only [List.getElem_toArray, List.getElem_cons_zero, List.getElem_cons_succ, Act.put, List.setIfInBounds_toArray, List.set_cons_zero, List.set_cons_succ]
                    refine late.take (i := 6) [7, 9, 10, 11, 12, 13, 14, 15, 16, 17, 18, 19, 20] (v := undef) rfl (by kernel_rfl) (by kernel_rfl) (by kernel_rfl) (by kernel_rfl) (fun _ _ _ h => h) (Or.inr ⟨rfl, rfl⟩) (by assumption) ?_
                    try simp only [List.getElem_toArray, List.getElem_cons_zero, List.getElem_cons_succ, Act.put, List.setIfInBounds_toArray, List.set_cons_zero, List.set_cons_succ]
                    refine late.take (i := 7) [9, 10, 11, 12, 13, 14, 15, 16, 17, 18, 19, 20] (v := undef) rfl (by kernel_rfl) (by kernel_rfl) (by kernel_rfl) (by kernel_rfl) (fun _ _ _ h => h) (Or.inr ⟨rfl, rfl⟩) (by assumption) ?_
                    try simp only [List.getElem_toArray, List.getElem_cons_zero, List.getElem_cons_succ, Act.put, List.setIfInBounds_toArray, List.set_cons_zero, List.set_cons_succ]
                    refine late.take (i := 8) [9, 10, 11, 12, 13, 14, 15, 16, 17, 18, 19, 20] (v := undef) rfl (by kernel_rfl) (by kernel_rfl) (by kernel_rfl) (by kernel_rfl) (fun _ _ _ h => h) (Or.inr ⟨rfl, rfl⟩) (by assumption) ?_
                    try simp only [List.getElem_toArray, List.getElem_cons_zero, List.getElem_cons_succ, Act.put, List.setIfInBounds_toArray, List.set_cons_zero, List.set_cons_succ]
                    refine late.take (i := 9) [10, 11, 12, 13, 14, 15, 16, 17, 18, 19, 20] (v := undef) rfl (by kernel_rfl) (by kernel_rfl) (by kernel_rfl) (by kernel_rfl) (fun _ _ _ h => h) (Or.inr ⟨rfl, rfl⟩) (by assumption) ?_
                    try simp only [List.getElem_toArray, List.getElem_cons_zero, List.getElem_cons_succ, Act.put, List.setIfInBounds_toArray, List.set_cons_zero, List.set_cons_succ]
                    refine late.take (i := 10) [11, 12, 13, 14, 15, 16, 17, 18, 19, 20] (v := ?_) rfl (by kernel_rfl) (by kernel_rfl) (by kernel_rfl) (by kernel_rfl) (fun _ _ _ h => h) (Or.inl ⟨by rfl, ?_⟩) (by assumption) ?_
                    rotate_left 1
                    · intro w' hSw
                      try dsimp only at hSw
                      go_simp
                      try with_reducible rfl
                    try simp only [List.getElem_toArray, List.getElem_cons_zero, List.getElem_cons_succ, Act.put, List.setIfInBounds_toArray, List.set_cons_zero, List.set_cons_succ]
                    refine late.take (i := 11) [12, 13, 14, 15, 16, 17, 18, 19, 20] (v := ?_) rfl (by kernel_rfl) (by kernel_rfl) (by kernel_rfl) (by kernel_rfl) (fun _ _ _ h => h) (Or.inl ⟨by rfl, ?_⟩) (by assumption) ?_
                    rotate_left 1
                    · intro w' hSw
                      try dsimp only at hSw
                      go_simp
                      try with_reducible rfl
                    try simp only [List.getElem_toArray, List.getElem_cons_zero, List.getElem_cons_succ, Act.put, List.setIfInBounds_toArray, List.set_cons_zero, List.set_cons_succ]
                    refine late.take (i := 12) [13, 18, 19, 20] (v := undef) rfl (by kernel_rfl) (by kernel_rfl) (by kernel_rfl) (by kernel_rfl) (fun _ _ _ h => h) (Or.inr ⟨rfl, rfl⟩) (by assumption) ?_
                    try simp only [List.getElem_toArray, List.getElem_cons_zero, List.getElem_cons_succ, Act.put, List.setIfInBounds_toArray, List.set_cons_zero, List.set_cons_succ]
                    refine late.take (i := 13) [18, 19, 20] (v := undef) rfl (by kernel_rfl) (by kernel_rfl) (by kernel_rfl) (by kernel_rfl) (fun _ _ _ h => h) (Or.inr ⟨rfl, rfl⟩) (by assumption) ?_
                    try simp only [List.getElem_toArray, List.getElem_cons_zero, List.getElem_cons_succ, Act.put, List.setIfInBounds_toArray, List.set_cons_zero, List.set_cons_succ]
                    refine late.take (i := 14) [15, 16, 17, 18, 19, 20] (v := undef) rfl (by kernel_rfl) (by kernel_rfl) (by kernel_rfl) (by kernel_rfl) (fun _ _ _ h => h) (Or.inr ⟨rfl, rfl⟩) (by assumption) ?_
                    try simp only [List.getElem_toArray, List.getElem_cons_zero, List.getElem_cons_succ, Act.put, List.setIfInBounds_toArray, List.set_cons_zero, List.set_cons_succ]
                    refine late.take (i := 15) [16, 17, 18, 19, 20] (v := undef) rfl (by kernel_rfl) (by kernel_rfl) (by kernel_rfl) (by kernel_rfl) (fun _ _ _ h => h) (Or.inr ⟨rfl, rfl⟩) (by assumption) ?_
                    try simp only [List.getElem_toArray, List.getElem_cons_zero, List.getElem_cons_succ, Act.put, List.setIfInBounds_toArray, List.set_cons_zero, List.set_cons_succ]
                    refine late.take (i := 16) [17, 18, 19, 20] (v := undef) rfl (by kernel_rfl) (by kernel_rfl) (by kernel_rfl) (by kernel_rfl) (fun _ _ _ h => h) (Or.inr ⟨rfl, rfl⟩) (by assumption) ?_
                    try simp only [List.getElem_toArray, List.getElem_cons_zero, List.getElem_cons_succ, Act.put, List.setIfInBounds_toArray, List.set_cons_zero, List.set_cons_succ]
                    refine late.take (i := 17) [18, 19, 20] (v := undef) rfl (by kernel_rfl) (by kernel_rfl) (by kernel_rfl) (by kernel_rfl) (fun _ _ _ h => h) (Or.inr ⟨rfl, rfl⟩) (by assumption) ?_
                    try simp only [List.getElem_toArray, List.getElem_cons_zero, List.getElem_cons_succ, Act.put, List.setIfInBounds_toArray, List.set_cons_zero, List.set_cons_succ]
                    refine late.take (i := 18) [19, 20] (v := undef) rfl (by kernel_rfl) (by kernel_rfl) (by kernel_rfl) (by kernel_rfl) (fun _ _ _ h => h) (Or.inr ⟨rfl, rfl⟩) (by assumption) ?_
                    try simp only [List.getElem_toArray, List.getElem_cons_zero, List.getElem_cons_succ, Act.put, List.setIfInBounds_toArray, List.set_cons_zero, List.set_cons_succ]
                    refine late.take (i := 19) [20] (v := ?_) rfl (by kernel_rfl) (by kernel_rfl) (by kernel_rfl) (by kernel_rfl) (fun _ _ _ h => h) (Or.inl ⟨by rfl, ?_⟩) (by assumption) ?_
                    rotate_left 1
                    · intro w' hSw
                      try dsimp only at hSw
                      go_simp
                      try with_reducible rfl
                    try simp only [List.getElem_toArray, List.getElem_cons_zero, List.getElem_cons_succ, Act.put, List.setIfInBounds_toArray, List.set_cons_zero, List.set_cons_succ]
                    refine late.take (i := 20) [] (v := ?_) rfl (by kernel_rfl) (by kernel_rfl) (by kernel_rfl) (by kernel_rfl) (fun _ _ _ h => h) (Or.inl ⟨by rfl, ?_⟩) (by assumption) ?_
                    rotate_left 1
                    · intro w' hSw
                      try dsimp only at hSw
                      go_simp
                      try with_reducible rfl
                    try simp only [List.getElem_toArray, List.getElem_cons_zero, List.getElem_cons_succ, Act.put, List.setIfInBounds_toArray, List.set_cons_zero, List.set_cons_succ]
                    refine late.done (by kernel_rfl) ?_ _
                    refine NoPanic.normal ?_
                    clear hHeld
                    go_wp2_with fail
                    go_meet
                    exact ⟨by simp, hot.out⟩
                  · by_cases hlt : lx < xi
                    · by_cases hle : xi ≤ la
                      · refine wp_region_noPanic ?_
                        refine late.region (fun w' => w'.cell? ⟨g, 0, none⟩ = some (.int .i64 xi) ∧ w'.cell? ⟨g, 1, none⟩ = some (.int .i64 xnd) ∧ w'.cell? ⟨g, 2, none⟩ = some (.int .i64 xnum) ∧ w'.cell? ⟨g, 3, none⟩ = some (.int .i64 xdl) ∧ w'.cell? ⟨g, 4, none⟩ = some (.slice a4 n4 c4) ∧ w'.cell? ⟨vp, 1, none⟩ = some (.int .i64 la)) (fun j => [].contains j) (by kernel_rfl) (HS23.out _ (Only.refl _ _).drew) (fun hHeld => ?_)
                        obtain ⟨z0, hz0⟩ : ∃ x, x = w8.drew := ⟨_, rfl⟩
                        rw [← hz0] at hHeld ⊢
                        have hot : Hid (Only (fun _ => False) w8 z0) := Lib.hid (by rw [hz0]; exact (Only.refl _ _).drew)
                        clear hz0
                        refine late.take (i := 0) [1, 2, 3, 4, 5, 6, 7, 8, 9, 10, 11, 12, 13, 14, 15, 16, 17, 18, 19, 20] (v := ?_) rfl (by kernel_rfl) (by kernel_rfl) (by kernel_rfl) (by kernel_rfl) (fun _ _ _ h => h) (Or.inl ⟨by rfl, ?_⟩) (by assumption) ?_
                        rotate_left 1
                        · intro w' hSw
                          try dsimp only at hSw
                          go_simp
                          try with_reducible rfl
                        try simp only [List.getElem_toArray, List.getElem_cons_zero, Act.put, List.setIfInBounds_toArray, List.set_cons_zero, List.set_cons_succ]
                        refine late.take (i := 1) [2, 3, 4, 5, 6, 7, 8, 9, 10, 11, 12, 13, 14, 15, 16, 17, 18, 19, 20] (v := ?_) rfl (by kernel_rfl) (by kernel_rfl) (by kernel_rfl) (by kernel_rfl) (fun _ _ _ h => h) (Or.inl ⟨by rfl, ?_⟩) (by assumption) ?_
                        rotate_left 1
                        · intro w' hSw
                          try dsimp only at hSw
                          go_simp
                          try with_reducible rfl
                        try simp only [List.getElem_toArray, List.getElem_cons_zero, List.getElem_cons_succ, Act.put, List.setIfInBounds_toArray, List.set_cons_zero, List.set_cons_succ]
                        refine late.take (i := 2) [3, 4, 5, 6, 7, 8, 9, 10, 11, 12, 13, 14, 15, 16, 17, 18, 19, 20] (v := ?_) rfl (by kernel_rfl) (by kernel_rfl) (by kernel_rfl) (by kernel_rfl) (fun _ _ _ h => h) (Or.inl ⟨by rfl, ?_⟩) (by assumption) ?_
                        rotate_left 1
                        · intro w' hSw
                          try dsimp only at hSw
                          go_simp
                          try with_reducible rfl
                        try simp only [List.getElem_toArray, List.getElem_cons_zero, List.getElem_cons_succ, Act.put, List.setIfInBounds_toArray, List.set_cons_zero, List.set_cons_succ]
                        refine late.ready (rs := [3]) (by kernel_rfl) (by simp) ?_
                        refine late.Each.cons rfl (fun K hK => ?_) late.Each.nil
                        try simp only [List.getElem_toArray, List.getElem_cons_zero, List.getElem_cons_succ]
                        go_simp
                        go_at_call 51
                        with_reducible refine (HRT.out _ hot.out).mono ?_
                        rintro _ W1 ⟨rfl, ho⟩
                        replace hot := Lib.hid (hot.out.trans ho)
                        clear ho
                        try dsimp only
                        refine hK.out _ _ (fun _ => HS23.out _ hot.out) (fun hHeld1 => ?_)
                        replace hHeld1 := hHeld1 rfl
                        clear hK K
                        try simp only [List.getElem_toArray, List.getElem_cons_zero, List.getElem_cons_succ, Act.put, List.setIfInBounds_toArray, List.set_cons_zero, List.set_cons_succ]
                        refine late.take (i := 4) [5, 6, 7, 8, 9, 10, 11, 12, 13, 14, 15, 16, 17, 18, 19, 20] (v := ?_) rfl (by kernel_rfl) (by kernel_rfl) (by kernel_rfl) (by kernel_rfl) (fun _ _ _ h => h) (Or.inl ⟨by rfl, ?_⟩) (by assumption) ?_
                        rotate_left 1
                        · intro w' hSw
                          try dsimp only at hSw
                          go_simp
                          try with_reducible rfl
                        try simp only [List.getElem_toArray, List.getElem_cons_zero, List.getElem_cons_succ, Act.put, List.setIfInBounds_toArray, List.set_cons_zero, List.set_cons_succ]
                        refine late.take (i := 5) [6, 7, 8, 9, 10, 11, 12, 13, 14, 15, 16, 17, 18, 19, 20] (v := ?_) rfl (by kernel_rfl) (by kernel_rfl) (by kernel_rfl) (by kernel_rfl) (fun _ _ _ h => h) (Or.inl ⟨by rfl, ?_⟩) (by assumption) ?_
                        rotate_left 1
                        · intro w' hSw
                          try dsimp only at hSw
                          go_simp
                          try with_reducible rfl
                        try simp only [List.getElem_toArray, List.getElem_cons_zero, List.getElem_cons_succ, Act.put, List.setIfInBounds_toArray, List.set_cons_zero, List.set_cons_succ]
                        refine late.take (i := 6) [7, 9, 10, 11, 12, 13, 14, 15, 16, 17, 18, 19, 20] (v := ?_) rfl (by kernel_rfl) (by kernel_rfl) (by kernel_rfl) (by kernel_rfl) (fun _ _ _ h => h) (Or.inl ⟨by rfl, ?_⟩) (by assumption) ?_
                        rotate_left 1
                        · intro w' hSw
                          try dsimp only at hSw
                          go_simp
                          try with_reducible rfl
                        try simp only [List.getElem_toArray, List.getElem_cons_zero, List.getElem_cons_succ, Act.put, List.setIfInBounds_toArray, List.set_cons_zero, List.set_cons_succ]
                        refine late.take (i := 7) [9, 10, 11, 12, 13, 14, 15, 16, 17, 18, 19, 20] (v := ?_) rfl (by kernel_rfl) (by kernel_rfl) (by kernel_rfl) (by kernel_rfl) (fun _ _ _ h => h) (Or.inl ⟨by rfl, ?_⟩) (by assumption) ?_
                        rotate_left 1
                        · intro w' hSw
                          try dsimp only at hSw
                          go_simp
                          try with_reducible rfl
                        try simp only [List.getElem_toArray, List.getElem_cons_zero, List.getElem_cons_succ, Act.put, List.setIfInBounds_toArray, List.set_cons_zero, List.set_cons_succ]
                        refine late.take (i := 8) [9, 10, 11, 12, 13, 14, 15, 16, 17, 18, 19, 20] (v := ?_) rfl (by kernel_rfl) (by kernel_rfl) (by kernel_rfl) (by kernel_rfl) (fun _ _ _ h => h) (Or.inl ⟨by rfl, ?_⟩) (by assumption) ?_
                        rotate_left 1
                        · intro w' hSw
                          try dsimp only at hSw
                          go_simp
                          try with_reducible rfl
                        try simp only [List.getElem_toArray, List.getElem_cons_zero, List.getElem_cons_succ, Act.put, List.setIfInBounds_toArray, List.set_cons_zero, List.set_cons_succ]
                        refine late.take (i := 9) [10, 11, 12, 13, 14, 15, 16, 17, 18, 19, 20] (v := ?_) rfl (by kernel_rfl) (by kernel_rfl) (by kernel_rfl) (by kernel_rfl) (fun _ _ _ h => h) (Or.inl ⟨by rfl, ?_⟩) (by assumption) ?_
                        rotate_left 1
                        · intro w' hSw
                          try dsimp only at hSw
                          go_simp
                          try with_reducible rfl
                        try simp only [List.getElem_toArray, List.getElem_cons_zero, List.getElem_cons_succ, Act.put, List.setIfInBounds_toArray, List.set_cons_zero, List.set_cons_succ]
                        refine late.take (i := 10) [11, 12, 13, 14, 15, 16, 17, 18, 19, 20] (v := ?_) rfl (by kernel_rfl) (by kernel_rfl) (by kernel_rfl) (by kernel_rfl) (fun _ _ _ h => h) (Or.inl ⟨by rfl, ?_⟩) (by assumption) ?_
                        rotate_left 1
                        · intro w' hSw
                          try dsimp only at hSw
                          go_simp
                          try with_reducible rfl
                        try simp only [List.getElem_toArray, List.getElem_cons_zero, List.getElem_cons_succ, Act.put, List.setIfInBounds_toArray, List.set_cons_zero, List.set_cons_succ]
                        refine late.take (i := 11) [12, 13, 14, 15, 16, 17, 18, 19, 20] (v := ?_) rfl (by kernel_rfl) (by kernel_rfl) (by kernel_rfl) (by kernel_rfl) (fun _ _ _ h => h) (Or.inl ⟨by rfl, ?_⟩) (by assumption) ?_
                        rotate_left 1
                        · intro w' hSw
                          try dsimp only at hSw
                          go_simp
                          try with_reducible rfl
                        try simp only [List.getElem_toArray, List.getElem_cons_zero, List.getElem_cons_succ, Act.put, List.setIfInBounds_toArray, List.set_cons_zero, List.set_cons_succ]
                        refine late.take (i := 12) [13, 18, 19, 20] (v := ?_) rfl (by kernel_rfl) (by kernel_rfl) (by kernel_rfl) (by kernel_rfl) (fun _ _ _ h => h) (Or.inl ⟨by rfl, ?_⟩) (by assumption) ?_
                        rotate_left 1
                        · intro w' hSw
                          try dsimp only at hSw
                          go_simp
                          try with_reducible rfl
                        try simp only [List.getElem_toArray, List.getElem_cons_zero, List.getElem_cons_succ, Act.put, List.setIfInBounds_toArray, List.set_cons_zero, List.set_cons_succ]
                        refine late.take (i := 13) [18, 19, 20] (v := ?_) rfl (by kernel_rfl) (by kernel_rfl) (by kernel_rfl) (by kernel_rfl) (fun _ _ _ h => h) (Or.inl ⟨by rfl, ?_⟩) (by assumption) ?_
                        rotate_left 1
                        · intro w' hSw
                          try dsimp only at hSw
                          go_simp
                          try with_reducible rfl
                        try simp only [List.getElem_toArray, List.getElem_cons_zero, List.getElem_cons_succ, Act.put, List.setIfInBounds_toArray, List.set_cons_zero, List.set_cons_succ]
                        refine late.take (i := 14) [15, 16, 17, 18, 19, 20] (v := ?_) rfl (by kernel_rfl) (by kernel_rfl) (by kernel_rfl) (by kernel_rfl) (fun _ _ _ h => h) (Or.inl ⟨by rfl, ?_⟩) (by assumption) ?_
                        rotate_left 1
                        · intro w' hSw
                          try dsimp only at hSw
                          go_simp
                          try with_reducible rfl
                        try simp only [List.getElem_toArray, List.getElem_cons_zero, List.getElem_cons_succ, Act.put, List.setIfInBounds_toArray, List.set_cons_zero, List.set_cons_succ]
                        refine late.take (i := 15) [16, 17, 18, 19, 20] (v := ?_) rfl (by kernel_rfl) (by kernel_rfl) (by kernel_rfl) (by kernel_rfl) (fun _ _ _ h => h) (Or.inl ⟨by rfl, ?_⟩) (by assumption) ?_
                        rotate_left 1
                        · intro w' hSw
                          try dsimp only at hSw
                          go_simp
                          try with_reducible rfl
                        try simp only [List.getElem_toArray, List.getElem_cons_zero, List.getElem_cons_succ, Act.put, List.setIfInBounds_toArray, List.set_cons_zero, List.set_cons_succ]
                        refine late.take (i := 16) [17, 18, 19, 20] (v := ?_) rfl (by kernel_rfl) (by kernel_rfl) (by kernel_rfl) (by kernel_rfl) (fun _ _ _ h => h) (Or.inl ⟨by rfl, ?_⟩) (by assumption) ?_
                        rotate_left 1
                        · intro w' hSw
                          try dsimp only at hSw
                          go_simp
                          try with_reducible rfl
                        try simp only [List.getElem_toArray, List.getElem_cons_zero, List.getElem_cons_succ, Act.put, List.setIfInBounds_toArray, List.set_cons_zero, List.set_cons_succ]
                        refine late.take (i := 17) [18, 19, 20] (v := ?_) rfl (by kernel_rfl) (by kernel_rfl) (by kernel_rfl) (by kernel_rfl) (fun _ _ _ h => h) (Or.inl ⟨by rfl, ?_⟩) (by assumption) ?_
                        rotate_left 1
                        · intro w' hSw
                          try dsimp only at hSw
                          go_simp
                          try with_reducible rfl
                        try simp only [List.getElem_toArray, List.getElem_cons_zero, List.getElem_cons_succ, Act.put, List.setIfInBounds_toArray, List.set_cons_zero, List.set_cons_succ]
                        refine late.take (i := 18) [19, 20] (v := ?_) rfl (by kernel_rfl) (by kernel_rfl) (by kernel_rfl) (by kernel_rfl) (fun _ _ _ h => h) (Or.inl ⟨by rfl, ?_⟩) (by assumption) ?_
                        rotate_left 1
                        · intro w' hSw
                          try dsimp only at hSw
                          go_simp
                          try with_reducible rfl
                        try simp only [List.getElem_toArray, List.getElem_cons_zero, List.getElem_cons_succ, Act.put, List.setIfInBounds_toArray, List.set_cons_zero, List.set_cons_succ]
                        refine late.take (i := 19) [20] (v := ?_) rfl (by kernel_rfl) (by kernel_rfl) (by kernel_rfl) (by kernel_rfl) (fun _ _ _ h => h) (Or.inl ⟨by rfl, ?_⟩) (by assumption) ?_
                        rotate_left 1
                        · intro w' hSw
                          try dsimp only at hSw
                          go_simp
                          try with_reducible rfl
                        try simp only [List.getElem_toArray, List.getElem_cons_zero, List.getElem_cons_succ, Act.put, List.setIfInBounds_toArray, List.set_cons_zero, List.set_cons_succ]
                        refine late.take (i := 20) [] (v := ?_) rfl (by kernel_rfl) (by kernel_rfl) (by kernel_rfl) (by kernel_rfl) (fun _ _ _ h => h) (Or.inl ⟨by rfl, ?_⟩) (by assumption) ?_
                        rotate_left 1
                        · intro w' hSw
                          try dsimp only at hSw
                          go_simp
                          try with_reducible rfl
                        try simp only [List.getElem_toArray, List.getElem_cons_zero, List.getElem_cons_succ, Act.put, List.setIfInBounds_toArray, List.set_cons_zero, List.set_cons_succ]
                        refine late.done (by kernel_rfl) ?_ _
                        refine NoPanic.normal ?_
                        clear hHeld
                        go_wp2_with fail
                        go_meet
                        exact ⟨by simp [hlt, hle], hot.out⟩
                      · refine wp_region_noPanic ?_
                        refine late.region (fun w' => w'.cell? ⟨g, 0, none⟩ = some (.int .i64 xi) ∧ w'.cell? ⟨g, 1, none⟩ = some (.int .i64 xnd) ∧ w'.cell? ⟨g, 2, none⟩ = some (.int .i64 xnum) ∧ w'.cell? ⟨g, 3, none⟩ = some (.int .i64 xdl) ∧ w'.cell? ⟨g, 4, none⟩ = some (.slice a4 n4 c4) ∧ w'.cell? ⟨vp, 1, none⟩ = some (.int .i64 la)) (fun j => [].contains j) (by kernel_rfl) (HS23.out _ (Only.refl _ _).drew) (fun hHeld => ?_)
                        obtain ⟨z0, hz0⟩ : ∃ x, x = w8.drew := ⟨_, rfl⟩
                        rw [← hz0] at hHeld ⊢
                        have hot : Hid (Only (fun _ => False) w8 z0) := Lib.hid (by rw [hz0]; exact (Only.refl _ _).drew)
                        clear hz0
                        refine late.take (i := 0) [1, 2, 3, 4, 5, 6, 7, 8, 9, 10, 11, 12, 13, 14, 15, 16, 17, 18, 19, 20] (v := ?_) rfl (by kernel_rfl) (by kernel_rfl) (by kernel_rfl) (by kernel_rfl) (fun _ _ _ h => h) (Or.inl ⟨by rfl, ?_⟩) (by assumption) ?_
                        rotate_left 1
                        · intro w' hSw
                          try dsimp only at hSw
                          go_simp
                          try with_reducible rfl
                        try simp only [List.getElem_toArray, List.getElem_cons_zero, Act.put, List.setIfInBounds_toArray, List.set_cons_zero, List.set_cons_succ]
                        refine late.take (i := 1) [2, 3, 4, 5, 6, 7, 8, 9, 10, 11, 12, 13, 14, 15, 16, 17, 18, 19, 20] (v := ?_) rfl (by kernel_rfl) (by kernel_rfl) (by kernel_rfl) (by kernel_rfl) (fun _ _ _ h => h) (Or.inl ⟨by rfl, ?_⟩) (by assumption) ?_
                        rotate_left 1
                        · intro w' hSw
                          try dsimp only at hSw
                          go_simp
                          try with_reducible rfl
                        try simp only [List.getElem_toArray, List.getElem_cons_zero, List.getElem_cons_succ, Act.put, List.setIfInBounds_toArray, List.set_cons_zero, List.set_cons_succ]
                        refine late.take (i := 2) [3, 4, 5, 6, 7, 8, 9, 10, 11, 12, 13, 14, 15, 16, 17, 18, 19, 20] (v := ?_) rfl (by kernel_rfl) (by kernel_rfl) (by kernel_rfl) (by kernel_rfl) (fun _ _ _ h => h) (Or.inl ⟨by rfl, ?_⟩) (by assumption) ?_
                        rotate_left 1
                        · intro w' hSw
                          try dsimp only at hSw
                          go_simp
                          try with_reducible rfl
                        try simp only [List.getElem_toArray, List.getElem_cons_zero, List.getElem_cons_succ, Act.put, List.setIfInBounds_toArray, List.set_cons_zero, List.set_cons_succ]
                        refine late.ready (rs := [3]) (by kernel_rfl) (by simp) ?_
                        refine late.Each.cons rfl (fun K hK => ?_) late.Each.nil
                        try simp only [List.getElem_toArray, List.getElem_cons_zero, List.getElem_cons_succ]
                        go_simp
                        go_at_call 51
                        with_reducible refine (HRT.out _ hot.out).mono ?_
                        rintro _ W1 ⟨rfl, ho⟩
                        replace hot := Lib.hid (hot.out.trans ho)
                        clear ho
                        try dsimp only
                        refine hK.out _ _ (fun _ => HS23.out _ hot.out) (fun hHeld1 => ?_)
                        replace hHeld1 := hHeld1 rfl
                        clear hK K
                        try simp only [List.getElem_toArray, List.getElem_cons_zero, List.getElem_cons_succ, Act.put, List.setIfInBounds_toArray, List.set_cons_zero, List.set_cons_succ]
                        refine late.take (i := 4) [5, 6, 7, 8, 9, 10, 11, 12, 13, 14, 15, 16, 17, 18, 19, 20] (v := ?_) rfl (by kernel_rfl) (by kernel_rfl) (by kernel_rfl) (by kernel_rfl) (fun _ _ _ h => h) (Or.inl ⟨by rfl, ?_⟩) (by assumption) ?_
                        rotate_left 1
                        · intro w' hSw
                          try dsimp only at hSw
                          go_simp
                          try with_reducible rfl
                        try simp only [List.getElem_toArray, List.getElem_cons_zero, List.getElem_cons_succ, Act.put, List.setIfInBounds_toArray, List.set_cons_zero, List.set_cons_succ]
                        refine late.take (i := 5) [6, 7, 8, 9, 10, 11, 12, 13, 14, 15, 16, 17, 18, 19, 20] (v := ?_) rfl (by kernel_rfl) (by kernel_rfl) (by kernel_rfl) (by kernel_rfl) (fun _ _ _ h => h) (Or.inl ⟨by rfl, ?_⟩) (by assumption) ?_
                        rotate_left 1
                        · intro w' hSw
                          try dsimp only at hSw
                          go_simp
                          try with_reducible rfl
                        try simp only [List.getElem_toArray, List.getElem_cons_zero, List.getElem_cons_succ, Act.put, List.setIfInBounds_toArray, List.set_cons_zero, List.set_cons_succ]
                        refine late.take (i := 6) [7, 9, 10, 11, 12, 13, 14, 15, 16, 17, 18, 19, 20] (v := ?_) rfl (by kernel_rfl) (by kernel_rfl) (by kernel_rfl) (by kernel_rfl) (fun _ _ _ h => h) (Or.inl ⟨by rfl, ?_⟩) (by assumption) ?_
                        rotate_left 1
                        · intro w' hSw
                          try dsimp only at hSw
                          go_simp
                          try with_reducible rfl
                        try simp only [List.getElem_toArray, List.getElem_cons_zero, List.getElem_cons_succ, Act.put, List.setIfInBounds_toArray, List.set_cons_zero, List.set_cons_succ]
                        refine late.take (i := 7) [9, 10, 11, 12, 13, 14, 15, 16, 17, 18, 19, 20] (v := ?_) rfl (by kernel_rfl) (by kernel_rfl) (by kernel_rfl) (by kernel_rfl) (fun _ _ _ h => h) (Or.inl ⟨by rfl, ?_⟩) (by assumption) ?_
                        rotate_left 1
                        · intro w' hSw
                          try dsimp only at hSw
                          go_simp
                          try with_reducible rfl
                        try simp only [List.getElem_toArray, List.getElem_cons_zero, List.getElem_cons_succ, Act.put, List.setIfInBounds_toArray, List.set_cons_zero, List.set_cons_succ]
                        refine late.take (i := 8) [9, 10, 11, 12, 13, 14, 15, 16, 17, 18, 19, 20] (v := ?_) rfl (by kernel_rfl) (by kernel_rfl) (by kernel_rfl) (by kernel_rfl) (fun _ _ _ h => h) (Or.inl ⟨by rfl, ?_⟩) (by assumption) ?_
                        rotate_left 1
                        · intro w' hSw
                          try dsimp only at hSw
                          go_simp
                          try with_reducible rfl
                        try simp only [List.getElem_toArray, List.getElem_cons_zero, List.getElem_cons_succ, Act.put, List.setIfInBounds_toArray, List.set_cons_zero, List.set_cons_succ]
                        refine late.take (i := 9) [10, 11, 12, 13, 14, 15, 16, 17, 18, 19, 20] (v := ?_) rfl (by kernel_rfl) (by kernel_rfl) (by kernel_rfl) (by kernel_rfl) (fun _ _ _ h => h) (Or.inl ⟨by rfl, ?_⟩) (by assumption) ?_
                        rotate_left 1
                        · intro w' hSw
                          try dsimp only at hSw
                          go_simp
                          try with_reducible rfl
                        try simp only [List.getElem_toArray, List.getElem_cons_zero, List.getElem_cons_succ, Act.put, List.setIfInBounds_toArray, List.set_cons_zero, List.set_cons_succ]
                        refine late.take (i := 10) [11, 12, 13, 14, 15, 16, 17, 18, 19, 20] (v := ?_) rfl (by kernel_rfl) (by kernel_rfl) (by kernel_rfl) (by kernel_rfl) (fun _ _ _ h => h) (Or.inl ⟨by rfl, ?_⟩) (by assumption) ?_
                        rotate_left 1
                        · intro w' hSw
                          try dsimp only at hSw
                          go_simp
                          try with_reducible rfl
                        try simp only [List.getElem_toArray, List.getElem_cons_zero, List.getElem_cons_succ, Act.put, List.setIfInBounds_toArray, List.set_cons_zero, List.set_cons_succ]
                        refine late.take (i := 11) [12, 13, 14, 15, 16, 17, 18, 19, 20] (v := ?_) rfl (by kernel_rfl) (by kernel_rfl) (by kernel_rfl) (by kernel_rfl) (fun _ _ _ h => h) (Or.inl ⟨by rfl, ?_⟩) (by assumption) ?_
                        rotate_left 1
                        · intro w' hSw
                          try dsimp only at hSw
                          go_simp
                          try with_reducible rfl
                        try simp only [List.getElem_toArray, List.getElem_cons_zero, List.getElem_cons_succ, Act.put, List.setIfInBounds_toArray, List.set_cons_zero, List.set_cons_succ]
                        refine late.take (i := 12) [13, 18, 19, 20] (v := ?_) rfl (by kernel_rfl) (by kernel_rfl) (by kernel_rfl) (by kernel_rfl) (fun _ _ _ h => h) (Or.inl ⟨by rfl, ?_⟩) (by assumption) ?_
                        rotate_left 1
                        · intro w' hSw
                          try dsimp only at hSw
                          go_simp
                          try with_reducible rfl
                        try simp only [List.getElem_toArray, List.getElem_cons_zero, List.getElem_cons_succ, Act.put, List.setIfInBounds_toArray, List.set_cons_zero, List.set_cons_succ]
                        refine late.take (i := 13) [18, 19, 20] (v := ?_) rfl (by kernel_rfl) (by kernel_rfl) (by kernel_rfl) (by kernel_rfl) (fun _ _ _ h => h) (Or.inl ⟨by rfl, ?_⟩) (by assumption) ?_
                        rotate_left 1
                        · intro w' hSw
                          try dsimp only at hSw
                          go_simp
                          try with_reducible rfl
                        try simp only [List.getElem_toArray, List.getElem_cons_zero, List.getElem_cons_succ, Act.put, List.setIfInBounds_toArray, List.set_cons_zero, List.set_cons_succ]
                        refine late.take (i := 14) [15, 16, 17, 18, 19, 20] (v := ?_) rfl (by kernel_rfl) (by kernel_rfl) (by kernel_rfl) (by kernel_rfl) (fun _ _ _ h => h) (Or.inl ⟨by rfl, ?_⟩) (by assumption) ?_
                        rotate_left 1
                        · intro w' hSw
                          try dsimp only at hSw
                          go_simp
                          try with_reducible rfl
                        try simp only [List.getElem_toArray, List.getElem_cons_zero, List.getElem_cons_succ, Act.put, List.setIfInBounds_toArray, List.set_cons_zero, List.set_cons_succ]
                        refine late.take (i := 15) [16, 17, 18, 19, 20] (v := ?_) rfl (by kernel_rfl) (by kernel_rfl) (by kernel_rfl) (by kernel_rfl) (fun _ _ _ h => h) (Or.inl ⟨by rfl, ?_⟩) (by assumption) ?_
                        rotate_left 1
                        · intro w' hSw
                          try dsimp only at hSw
                          go_simp
                          try with_reducible rfl
                        try simp only [List.getElem_toArray, List.getElem_cons_zero, List.getElem_cons_succ, Act.put, List.setIfInBounds_toArray, List.set_cons_zero, List.set_cons_succ]
                        refine late.take (i := 16) [17, 18, 19, 20] (v := ?_) rfl (by kernel_rfl) (by kernel_rfl) (by kernel_rfl) (by kernel_rfl) (fun _ _ _ h => h) (Or.inl ⟨by rfl, ?_⟩) (by assumption) ?_
                        rotate_left 1
                        · intro w' hSw
                          try dsimp only at hSw
                          go_simp
                          try with_reducible rfl
                        try simp only [List.getElem_toArray, List.getElem_cons_zero, List.getElem_cons_succ, Act.put, List.setIfInBounds_toArray, List.set_cons_zero, List.set_cons_succ]
                        refine late.take (i := 17) [18, 19, 20] (v := ?_) rfl (by kernel_rfl) (by kernel_rfl) (by kernel_rfl) (by kernel_rfl) (fun _ _ _ h => h) (Or.inl ⟨by rfl, ?_⟩) (by assumption) ?_
                        rotate_left 1
                        · intro w' hSw
                          try dsimp only at hSw
                          go_simp
                          try with_reducible rfl
                        try simp only [List.getElem_toArray, List.getElem_cons_zero, List.getElem_cons_succ, Act.put, List.setIfInBounds_toArray, List.set_cons_zero, List.set_cons_succ]
                        refine late.take (i := 18) [19, 20] (v := ?_) rfl (by kernel_rfl) (by kernel_rfl) (by kernel_rfl) (by kernel_rfl) (fun _ _ _ h => h) (Or.inl ⟨by rfl, ?_⟩) (by assumption) ?_
                        rotate_left 1
                        · intro w' hSw
                          try dsimp only at hSw
                          go_simp
                          try with_reducible rfl
                        try simp only [List.getElem_toArray, List.getElem_cons_zero, List.getElem_cons_succ, Act.put, List.setIfInBounds_toArray, List.set_cons_zero, List.set_cons_succ]
                        refine late.take (i := 19) [20] (v := ?_) rfl (by kernel_rfl) (by kernel_rfl) (by kernel_rfl) (by kernel_rfl) (fun _ _ _ h => h) (Or.inl ⟨by rfl, ?_⟩) (by assumption) ?_
                        rotate_left 1
                        · intro w' hSw
                          try dsimp only at hSw
                          go_simp
                          try with_reducible rfl
                        try simp only [List.getElem_toArray, List.getElem_cons_zero, List.getElem_cons_succ, Act.put, List.setIfInBounds_toArray, List.set_cons_zero, List.set_cons_succ]
                        refine late.take (i := 20) [] (v := ?_) rfl (by kernel_rfl) (by kernel_rfl) (by kernel_rfl) (by kernel_rfl) (fun _ _ _ h => h) (Or.inl ⟨by rfl, ?_⟩) (by assumption) ?_
                        rotate_left 1
                        · intro w' hSw
                          try dsimp only at hSw
                          go_simp
                          try with_reducible rfl
                        try simp only [List.getElem_toArray, List.getElem_cons_zero, List.getElem_cons_succ, Act.put, List.setIfInBounds_toArray, List.set_cons_zero, List.set_cons_succ]
                        refine late.done (by kernel_rfl) ?_ _
                        refine NoPanic.normal ?_
                        clear hHeld
                        go_wp2_with fail
                        go_meet
                        exact ⟨by simp [hlt, hle], hot.out⟩
                    · refine wp_region_noPanic ?_
                      refine late.region (fun w' => w'.cell? ⟨g, 0, none⟩ = some (.int .i64 xi) ∧ w'.cell? ⟨g, 1, none⟩ = some (.int .i64 xnd) ∧ w'.cell? ⟨g, 2, none⟩ = some (.int .i64 xnum) ∧ w'.cell? ⟨g, 3, none⟩ = some (.int .i64 xdl) ∧ w'.cell? ⟨g, 4, none⟩ = some (.slice a4 n4 c4) ∧ w'.cell? ⟨vp, 1, none⟩ = some (.int .i64 la)) (fun j => [].contains j) (by kernel_rfl) (HS23.out _ (Only.refl _ _).drew) (fun hHeld => ?_)
                      obtain ⟨z0, hz0⟩ : ∃ x, x = w8.drew := ⟨_, rfl⟩
                      rw [← hz0] at hHeld ⊢
                      have hot : Hid (Only (fun _ => False) w8 z0) := Lib.hid (by rw [hz0]; exact (Only.refl _ _).drew)
                      clear hz0
                      refine late.take (i := 0) [1, 2, 3, 4, 5, 6, 7, 8, 9, 10, 11, 12, 13, 14, 15, 16, 17, 18, 19, 20] (v := ?_) rfl (by kernel_rfl) (by kernel_rfl) (by kernel_rfl) (by kernel_rfl) (fun _ _ _ h => h) (Or.inl ⟨by rfl, ?_⟩) (by assumption) ?_
                      rotate_left 1
                      · intro w' hSw
                        try dsimp only at hSw
                        go_simp
                        try with_reducible rfl
                      try simp only [List.getElem_toArray, List.getElem_cons_zero, Act.put, List.setIfInBounds_toArray, List.set_cons_zero, List.set_cons_succ]
                      refine late.take (i := 1) [2, 3, 4, 5, 6, 7, 8, 9, 10, 11, 12, 13, 14, 15, 16, 17, 18, 19, 20] (v := ?_) rfl (by kernel_rfl) (by kernel_rfl) (by kernel_rfl) (by kernel_rfl) (fun _ _ _ h => h) (Or.inl ⟨by rfl, ?_⟩) (by assumption) ?_
                      rotate_left 1
                      · intro w' hSw
                        try dsimp only at hSw
                        go_simp
                        try with_reducible rfl
                      try simp only [List.getElem_toArray, List.getElem_cons_zero, List.getElem_cons_succ, Act.put, List.setIfInBounds_toArray, List.set_cons_zero, List.set_cons_succ]
                      refine late.take (i := 2) [3, 4, 5, 6, 7, 8, 9, 10, 11, 12, 13, 14, 15, 16, 17, 18, 19, 20] (v := ?_) rfl (by kernel_rfl) (by kernel_rfl) (by kernel_rfl) (by kernel_rfl) (fun _ _ _ h => h) (Or.inl ⟨by rfl, ?_⟩) (by assumption) ?_
                      rotate_left 1
                      · intro w' hSw
                        try dsimp only at hSw
                        go_simp
                        try with_reducible rfl
                      try simp only [List.getElem_toArray, List.getElem_cons_zero, List.getElem_cons_succ, Act.put, List.setIfInBounds_toArray, List.set_cons_zero, List.set_cons_succ]
                      refine late.ready (rs := [3]) (by kernel_rfl) (by simp) ?_
                      refine late.Each.cons rfl (fun K hK => ?_) late.Each.nil
                      try simp only [List.getElem_toArray, List.getElem_cons_zero, List.getElem_cons_succ]
                      go_simp
                      go_at_call 51
                      with_reducible refine (HRT.out _ hot.out).mono ?_
                      rintro _ W1 ⟨rfl, ho⟩
                      replace hot := Lib.hid (hot.out.trans ho)
                      clear ho
                      try dsimp only
                      refine hK.out _ _ (fun _ => HS23.out _ hot.out) (fun hHeld1 => ?_)
                      replace hHeld1 := hHeld1 rfl
                      clear hK K
                      try simp only [List.getElem_toArray, List.getElem_cons_zero, List.getElem_cons_succ, Act.put, List.setIfInBounds_toArray, List.set_cons_zero, List.set_cons_succ]
                      refine late.take (i := 4) [5, 6, 7, 8, 9, 10, 11, 12, 13, 14, 15, 16, 17, 18, 19, 20] (v := ?_) rfl (by kernel_rfl) (by kernel_rfl) (by kernel_rfl) (by kernel_rfl) (fun _ _ _ h => h) (Or.inl ⟨by rfl, ?_⟩) (by assumption) ?_
                      rotate_left 1
                      · intro w' hSw
                        try dsimp only at hSw
                        go_simp
                        try with_reducible rfl
                      try simp only [List.getElem_toArray, List.getElem_cons_zero, List.getElem_cons_succ, Act.put, List.setIfInBounds_toArray, List.set_cons_zero, List.set_cons_succ]
                      refine late.take (i := 5) [6, 7, 8, 9, 10, 11, 12, 13, 14, 15, 16, 17, 18, 19, 20] (v := ?_) rfl (by kernel_rfl) (by kernel_rfl) (by kernel_rfl) (by kernel_rfl) (fun _ _ _ h => h) (Or.inl ⟨by rfl, ?_⟩) (by assumption) ?_
                      rotate_left 1
                      · intro w' hSw
                        try dsimp only at hSw
                        go_simp
                        try with_reducible rfl
                      try simp only [List.getElem_toArray, List.getElem_cons_zero, List.getElem_cons_succ, Act.put, List.setIfInBounds_toArray, List.set_cons_zero, List.set_cons_succ]
                      refine late.take (i := 6) [7, 9, 10, 11, 12, 13, 14, 15, 16, 17, 18, 19, 20] (v := ?_) rfl (by kernel_rfl) (by kernel_rfl) (by kernel_rfl) (by kernel_rfl) (fun _ _ _ h => h) (Or.inl ⟨by rfl, ?_⟩) (by assumption) ?_
                      rotate_left 1
                      · intro w' hSw
                        try dsimp only at hSw
                        go_simp
                        try with_reducible rfl
                      try simp only [List.getElem_toArray, List.getElem_cons_zero, List.getElem_cons_succ, Act.put, List.setIfInBounds_toArray, List.set_cons_zero, List.set_cons_succ]
                      refine late.take (i := 7) [9, 10, 11, 12, 13, 14, 15, 16, 17, 18, 19, 20] (v := ?_) rfl (by kernel_rfl) (by kernel_rfl) (by kernel_rfl) (by kernel_rfl) (fun _ _ _ h => h) (Or.inl ⟨by rfl, ?_⟩) (by assumption) ?_
                      rotate_left 1
                      · intro w' hSw
                        try dsimp only at hSw
                        go_simp
                        try with_reducible rfl
                      try simp only [List.getElem_toArray, List.getElem_cons_zero, List.getElem_cons_succ, Act.put, List.setIfInBounds_toArray, List.set_cons_zero, List.set_cons_succ]
                      refine late.take (i := 8) [9, 10, 11, 12, 13, 14, 15, 16, 17, 18, 19, 20] (v := ?_) rfl (by kernel_rfl) (by kernel_rfl) (by kernel_rfl) (by kernel_rfl) (fun _ _ _ h => h) (Or.inl ⟨by rfl, ?_⟩) (by assumption) ?_
                      rotate_left 1
                      · intro w' hSw
                        try dsimp only at hSw
                        go_simp
                        try with_reducible rfl
                      try simp only [List.getElem_toArray, List.getElem_cons_zero, List.getElem_cons_succ, Act.put, List.setIfInBounds_toArray, List.set_cons_zero, List.set_cons_succ]
                      refine late.take (i := 9) [10, 11, 12, 13, 14, 15, 16, 17, 18, 19, 20] (v := ?_) rfl (by kernel_rfl) (by kernel_rfl) (by kernel_rfl) (by kernel_rfl) (fun _ _ _ h => h) (Or.inl ⟨by rfl, ?_⟩) (by assumption) ?_
                      rotate_left 1
                      · intro w' hSw
                        try dsimp only at hSw
                        go_simp
                        try with_reducible rfl
                      try simp only [List.getElem_toArray, List.getElem_cons_zero, List.getElem_cons_succ, Act.put, List.setIfInBounds_toArray, List.set_cons_zero, List.set_cons_succ]
                      refine late.take (i := 10) [11, 12, 13, 14, 15, 16, 17, 18, 19, 20] (v := ?_) rfl (by kernel_rfl) (by kernel_rfl) (by kernel_rfl) (by kernel_rfl) (fun _ _ _ h => h) (Or.inl ⟨by rfl, ?_⟩) (by assumption) ?_
                      rotate_left 1
                      · intro w' hSw
                        try dsimp only at hSw
                        go_simp
                        try with_reducible rfl
                      try simp only [List.getElem_toArray, List.getElem_cons_zero, List.getElem_cons_succ, Act.put, List.setIfInBounds_toArray, List.set_cons_zero, List.set_cons_succ]
                      refine late.take (i := 11) [12, 13, 14, 15, 16, 17, 18, 19, 20] (v := ?_) rfl (by kernel_rfl) (by kernel_rfl) (by kernel_rfl) (by kernel_rfl) (fun _ _ _ h => h) (Or.inl ⟨by rfl, ?_⟩) (by assumption) ?_
                      rotate_left 1
                      · intro w' hSw
                        try dsimp only at hSw
                        go_simp
                        try with_reducible rfl
                      try simp only [List.getElem_toArray, List.getElem_cons_zero, List.getElem_cons_succ, Act.put, List.setIfInBounds_toArray, List.set_cons_zero, List.set_cons_succ]
                      refine late.take (i := 12) [13, 18, 19, 20] (v := undef) rfl (by kernel_rfl) (by kernel_rfl) (by kernel_rfl) (by kernel_rfl) (fun _ _ _ h => h) (Or.inr ⟨rfl, rfl⟩) (by assumption) ?_
                      try simp only [List.getElem_toArray, List.getElem_cons_zero, List.getElem_cons_succ, Act.put, List.setIfInBounds_toArray, List.set_cons_zero, List.set_cons_succ]
                      refine late.take (i := 13) [18, 19, 20] (v := undef) rfl (by kernel_rfl) (by kernel_rfl) (by kernel_rfl) (by kernel_rfl) (fun _ _ _ h => h) (Or.inr ⟨rfl, rfl⟩) (by assumption) ?_
                      try simp only [List.getElem_toArray, List.getElem_cons_zero, List.getElem_cons_succ, Act.put, List.setIfInBounds_toArray, List.set_cons_zero, List.set_cons_succ]
                      refine late.take (i := 14) [15, 16, 17, 18, 19, 20] (v := undef) rfl (by kernel_rfl) (by kernel_rfl) (by kernel_rfl) (by kernel_rfl) (fun _ _ _ h => h) (Or.inr ⟨rfl, rfl⟩) (by assumption) ?_
                      try simp only [List.getElem_toArray, List.getElem_cons_zero, List.getElem_cons_succ, Act.put, List.setIfInBounds_toArray, List.set_cons_zero, List.set_cons_succ]
                      refine late.take (i := 15) [16, 17, 18, 19, 20] (v := undef) rfl (by kernel_rfl) (by kernel_rfl) (by kernel_rfl) (by kernel_rfl) (fun _ _ _ h => h) (Or.inr ⟨rfl, rfl⟩) (by assumption) ?_
                      try simp only [List.getElem_toArray, List.getElem_cons_zero, List.getElem_cons_succ, Act.put, List.setIfInBounds_toArray, List.set_cons_zero, List.set_cons_succ]
                      refine late.take (i := 16) [17, 18, 19, 20] (v := undef) rfl (by kernel_rfl) (by kernel_rfl) (by kernel_rfl) (by kernel_rfl) (fun _ _ _ h => h) (Or.inr ⟨rfl, rfl⟩) (by assumption) ?_
                      try simp only [List.getElem_toArray, List.getElem_cons_zero, List.getElem_cons_succ, Act.put, List.setIfInBounds_toArray, List.set_cons_zero, List.set_cons_succ]
                      refine late.take (i := 17) [18, 19, 20] (v := undef) rfl (by kernel_rfl) (by kernel_rfl) (by kernel_rfl) (by kernel_rfl) (fun _ _ _ h => h) (Or.inr ⟨rfl, rfl⟩) (by assumption) ?_
                      try simp only [List.getElem_toArray, List.getElem_cons_zero, List.getElem_cons_succ, Act.put, List.setIfInBounds_toArray, List.set_cons_zero, List.set_cons_succ]
                      refine late.take (i := 18) [19, 20] (v := undef) rfl (by kernel_rfl) (by kernel_rfl) (by kernel_rfl) (by kernel_rfl) (fun _ _ _ h => h) (Or.inr ⟨rfl, rfl⟩) (by assumption) ?_
                      try simp only [List.getElem_toArray, List.getElem_cons_zero, List.getElem_cons_succ, Act.put, List.setIfInBounds_toArray, List.set_cons_zero, List.set_cons_succ]
                      refine late.take (i := 19) [20] (v := ?_) rfl (by kernel_rfl) (by kernel_rfl) (by kernel_rfl) (by kernel_rfl) (fun _ _ _ h => h) (Or.inl ⟨by rfl, ?_⟩) (by assumption) ?_
                      rotate_left 1
                      · intro w' hSw
                        try dsimp only at hSw
                        go_simp
                        try with_reducible rfl
                      try simp only [List.getElem_toArray, List.getElem_cons_zero, List.getElem_cons_succ, Act.put, List.setIfInBounds_toArray, List.set_cons_zero, List.set_cons_succ]
                      refine late.take (i := 20) [] (v := ?_) rfl (by kernel_rfl) (by kernel_rfl) (by kernel_rfl) (by kernel_rfl) (fun _ _ _ h => h) (Or.inl ⟨by rfl, ?_⟩) (by assumption) ?_
                      rotate_left 1
                      · intro w' hSw
                        try dsimp only at hSw
                        go_simp
                        try with_reducible rfl
                      try simp only [List.getElem_toArray, List.getElem_cons_zero, List.getElem_cons_succ, Act.put, List.setIfInBounds_toArray, List.set_cons_zero, List.set_cons_succ]
                      refine late.done (by kernel_rfl) ?_ _
                      refine NoPanic.normal ?_
                      clear hHeld
                      go_wp2_with fail
                      go_meet
                      exact ⟨by simp; omega, hot.out⟩
              case rest =>
                obtain ⟨rfl, ho⟩ := hcut
                rename World => w10
                have HST10 := Lib.hid (HST8.out.quiet ho)
                have HO10 := Lib.hid (HO8.out.trans ho)
                have HB10 : Hid (b1 ≤ w10.heap.size) := Lib.hid (Nat.le_trans HB1.out ho.size)
                clear ho HST8 HO8 HB1 HS23
                replace HST8 := HST10
                replace HO8 := HO10
                replace HB1 := HB10
                clear HST10 HO10 HB10
                have q0 := HST8.out.c0
                have hlL : L.length < 16 := by rw [HLN.out]; omega
                have HS25 : Hid (∀ w', Only (fun _ => False) w10 w' → w'.cell? ⟨vp, 2, none⟩ = some v ∧ w'.cell? ⟨g, 0, none⟩ = some (.int .i64 xi) ∧ w'.cell? ⟨g, 1, none⟩ = some (.int .i64 xnd) ∧ w'.cell? ⟨g, 2, none⟩ = some (.int .i64 xnum) ∧ w'.cell? ⟨g, 3, none⟩ = some (.int .i64 xdl) ∧ w'.cell? ⟨g, 4, none⟩ = some (.slice a4 n4 c4)) := Lib.hid (fun w' ho => by
                  have h := HST8.out.quiet ho
                  exact ⟨h.dt.c2, h.c0, h.c1, h.c2, h.c3, h.c4⟩)
                go_upto_region 25 with fail
                clear q0
                generalize (RB && RT && decide (lx < xi) && decide (xi ≤ la)) = RBN at *
                refine wp_region_noPanic ?_
                refine late.region (fun w' => w'.cell? ⟨vp, 2, none⟩ = some v ∧ w'.cell? ⟨g, 0, none⟩ = some (.int .i64 xi) ∧ w'.cell? ⟨g, 1, none⟩ = some (.int .i64 xnd) ∧ w'.cell? ⟨g, 2, none⟩ = some (.int .i64 xnum) ∧ w'.cell? ⟨g, 3, none⟩ = some (.int .i64 xdl) ∧ w'.cell? ⟨g, 4, none⟩ = some (.slice a4 n4 c4)) (fun j => [10].contains j) (by kernel_rfl) (HS25.out _ (Only.refl _ _).drew) (fun hHeld => ?_)
                obtain ⟨z0, hz0⟩ : ∃ x, x = w10.drew := ⟨_, rfl⟩
                rw [← hz0] at hHeld ⊢
                have hot : Hid (Only (fun _ => False) w10 z0) := Lib.hid (by rw [hz0]; exact (Only.refl _ _).drew)
                clear hz0
                refine late.take (i := 0) [8, 9, 10] (v := ?_) rfl (by kernel_rfl) (by kernel_rfl) (by kernel_rfl) (by kernel_rfl) (fun _ _ _ h => h) (Or.inl ⟨by rfl, ?_⟩) (by assumption) ?_
                rotate_left 1
                · intro w' hSw
                  try dsimp only at hSw
                  go_simp
                  try with_reducible rfl
                try simp only [List.getElem_toArray, List.getElem_cons_zero, Act.put, List.setIfInBounds_toArray, List.set_cons_zero, List.set_cons_succ]
                refine late.take (i := 1) [2, 3, 4, 7, 8, 9, 10] (v := ?_) rfl (by kernel_rfl) (by kernel_rfl) (by kernel_rfl) (by kernel_rfl) (fun _ _ _ h => h) (Or.inl ⟨by rfl, ?_⟩) (by assumption) ?_
                rotate_left 1
                · intro w' hSw
                  try dsimp only at hSw
                  go_simp
                  try with_reducible rfl
                try simp only [List.getElem_toArray, List.getElem_cons_zero, List.getElem_cons_succ, Act.put, List.setIfInBounds_toArray, List.set_cons_zero, List.set_cons_succ]
                refine late.take (i := 2) [3, 4, 7, 8, 9, 10] (v := ?_) rfl (by kernel_rfl) (by kernel_rfl) (by kernel_rfl) (by kernel_rfl) (fun _ _ _ h => h) (Or.inl ⟨by rfl, ?_⟩) (by assumption) ?_
                rotate_left 1
                · intro w' hSw
                  try dsimp only at hSw
                  go_simp
                  try with_reducible rfl
                try simp only [List.getElem_toArray, List.getElem_cons_zero, List.getElem_cons_succ, Act.put, List.setIfInBounds_toArray, List.set_cons_zero, List.set_cons_succ]
                refine late.take (i := 3) [4, 7, 8, 9, 10] (v := ?_) rfl (by kernel_rfl) (by kernel_rfl) (by kernel_rfl) (by kernel_rfl) (fun _ _ _ h => h) (Or.inl ⟨by rfl, ?_⟩) (by assumption) ?_
                rotate_left 1
                · intro w' hSw
                  try dsimp only at hSw
                  go_simp
                  try with_reducible rfl
                try simp only [List.getElem_toArray, List.getElem_cons_zero, List.getElem_cons_succ, Act.put, List.setIfInBounds_toArray, List.set_cons_zero, List.set_cons_succ]
                refine late.take (i := 4) [7, 8, 9, 10] (v := ?_) rfl (by kernel_rfl) (by kernel_rfl) (by kernel_rfl) (by kernel_rfl) (fun _ _ _ h => h) (Or.inl ⟨by rfl, ?_⟩) (by assumption) ?_
                rotate_left 1
                · intro w' hSw
                  try dsimp only at hSw
                  go_simp
                  try with_reducible rfl
                try simp only [List.getElem_toArray, List.getElem_cons_zero, List.getElem_cons_succ, Act.put, List.setIfInBounds_toArray, List.set_cons_zero, List.set_cons_succ]
                refine late.take (i := 5) [6, 7, 8, 9, 10] (v := ?_) rfl (by kernel_rfl) (by kernel_rfl) (by kernel_rfl) (by kernel_rfl) (fun _ _ _ h => h) (Or.inl ⟨by rfl, ?_⟩) (by assumption) ?_
                rotate_left 1
                · intro w' hSw
                  try dsimp only at hSw
                  go_simp
                  try with_reducible rfl
                try simp only [List.getElem_toArray, List.getElem_cons_zero, List.getElem_cons_succ, Act.put, List.setIfInBounds_toArray, List.set_cons_zero, List.set_cons_succ]
                refine late.ready (rs := [6]) (by kernel_rfl) (by simp) ?_
                refine late.Each.cons rfl (fun K hK => ?_) late.Each.nil
                try simp only [List.getElem_toArray, List.getElem_cons_zero, List.getElem_cons_succ]
                go_simp
                obtain ⟨w9, hw9⟩ : ∃ x, x = z0 := ⟨_, rfl⟩
                rw [← hw9] at hot ⊢
                clear hw9
                obtain ⟨W1, hW1⟩ : ∃ x, x = w9.alloc (.cells #[.int .i64 xi, .int .i64 xnd, .int .i64 xnum, .int .i64 xdl, .slice a4 n4 c4] 50) := ⟨_, rfl⟩
                obtain ⟨g1, hg1⟩ : ∃ x, x = w9.heap.size := ⟨_, rfl⟩
                rw [← hW1, ← hg1]
                have hsb := sbox hW1 hg1
                have HNW : Hid (∀ j u, (gv (ES 0) [(⟨xi, xnd, xnum, xdl, a4, n4, c4, GS⟩ : Sd)])[j]? = some u → W1.cell? ((⟨g1, 0, none⟩ : Addr).add j) = some u) := Lib.hid (fun j u hu => by
                  rw [add_none, Nat.zero_add, hW1]
                  rw [gv_single] at hu
                  exact news_one (ES 0) (x := (⟨xi, xnd, xnum, xdl, a4, n4, c4, GS⟩ : Sd)) hg1 rfl j u hu)
                replace hot := Lib.hid (hot.out.trans hsb.2.2.2.2.2)
                clear hW1 hg1 hsb
                refine hK.out _ _ (fun _ => HS25.out _ hot.out) (fun hHeld1 => ?_)
                replace hHeld1 := hHeld1 rfl
                clear hK K
                try simp only [List.getElem_toArray, List.getElem_cons_zero, List.getElem_cons_succ, Act.put, List.setIfInBounds_toArray, List.set_cons_zero, List.set_cons_succ]
                refine late.ready (rs := [7]) (by kernel_rfl) (by simp) ?_
                refine late.Each.cons rfl (fun K hK => ?_) late.Each.nil
                refine step_rsess (a := { tmps := _, defers := _ }) rfl _ _ rfl v L rfl (HST8.out.dt.own.only hot.out (fun _ _ f => f)) ⟨g1, 0, none⟩ 1 1 [(⟨xi, xnd, xnum, xdl, a4, n4, c4, GS⟩ : Sd)] rfl rfl HNW.out (by omega) (by omega) ?_
                rintro v2 W2 hown hgrow hkk
                obtain ⟨gq, bc, hvf, -, -, hbc, -⟩ := owns_form hown (by simp)
                have hl1 : (L ++ [(⟨xi, xnd, xnum, xdl, a4, n4, c4, GS⟩ : Sd)]).length = L.length + 1 := by simp
                rw [hl1] at hvf hbc
                subst hvf
                have hgo := Only.of_grown hgrow
                have HOT9 := Lib.hid hot.out
                have HOW12 := Lib.hid hown
                have HKK := Lib.hid hkk
                have HGO := Lib.hid hgo
                have d2 := hgo.cell' (HS25.out _ hot.out).1 HST8.out.dt.np
                have f2 : W2.frozen? ⟨vp, 2, none⟩ = false := (hgo.frozen (p := ⟨vp, 2, none⟩) ((HST8.out.dt.quiet hot.out).lt) HST8.out.dt.np).trans (HST8.out.dt.quiet hot.out).f2
                have HX12 : Hid (W2.cell? ⟨g, 0, none⟩ = some (.int .i64 xi) ∧ W2.cell? ⟨g, 1, none⟩ = some (.int .i64 xnd) ∧ W2.cell? ⟨g, 2, none⟩ = some (.int .i64 xnum) ∧ W2.cell? ⟨g, 3, none⟩ = some (.int .i64 xdl) ∧ W2.cell? ⟨g, 4, none⟩ = some (.slice a4 n4 c4)) := Lib.hid (by
                  have hng : v.ownBlock ≠ some g := fun e => by have := (HST8.out.dt.sv g e).2.1; have := HST8.out.gb; omega
                  obtain ⟨-, k0, k1, k2, k3, k4⟩ := HS25.out _ hot.out
                  exact ⟨hgo.cell' k0 hng, hgo.cell' k1 hng, hgo.cell' k2 hng, hgo.cell' k3 hng, hgo.cell' k4 hng⟩)
                clear hown hgrow hkk hgo HNW
                refine hK.out _ _ (fun _ => ⟨d2, HX12.out⟩) (fun hHeld2 => ?_)
                replace hHeld2 := hHeld2 rfl
                clear hK K
                try simp only [List.getElem_toArray, List.getElem_cons_zero, List.getElem_cons_succ, Act.put, List.setIfInBounds_toArray, List.set_cons_zero, List.set_cons_succ]
                refine late.take (i := 8) [9, 10] (v := ?_) rfl (by kernel_rfl) (by kernel_rfl) (by kernel_rfl) (by kernel_rfl) (fun _ _ _ h => h) (Or.inl ⟨by rfl, ?_⟩) (by assumption) ?_
                rotate_left 1
                · intro w' hSw
                  try dsimp only at hSw
                  go_simp
                  try with_reducible rfl
                try simp only [List.getElem_toArray, List.getElem_cons_zero, List.getElem_cons_succ, Act.put, List.setIfInBounds_toArray, List.set_cons_zero, List.set_cons_succ]
                refine late.take (i := 9) [10] (v := ?_) rfl (by kernel_rfl) (by kernel_rfl) (by kernel_rfl) (by kernel_rfl) (fun _ _ _ h => h) (Or.inl ⟨by rfl, ?_⟩) (by assumption) ?_
                rotate_left 1
                · intro w' hSw
                  try dsimp only at hSw
                  go_simp
                  try with_reducible rfl
                try simp only [List.getElem_toArray, List.getElem_cons_zero, List.getElem_cons_succ, Act.put, List.setIfInBounds_toArray, List.set_cons_zero, List.set_cons_succ]
                refine late.ready (rs := [10]) (by kernel_rfl) (by simp) ?_
                refine late.Each.cons rfl (fun K hK => ?_) late.Each.nil
                clear hHeld
                try simp only [List.getElem_toArray, List.getElem_cons_zero, List.getElem_cons_succ]
                go_simp
                refine hK.out _ _ (fun h => by cases h) (fun _ => ?_)
                clear hK K
                try simp only [List.getElem_toArray, List.getElem_cons_zero, List.getElem_cons_succ, Act.put, List.setIfInBounds_toArray, List.set_cons_zero, List.set_cons_succ]
                refine late.done (by kernel_rfl) ?_ _
                refine NoPanic.normal ?_
                obtain ⟨w5, hw5⟩ : ∃ x, x = W2.setCell ⟨vp, 2, none⟩ (.slice (some ⟨gq, 0, none⟩) (L.length + 1) bc : Value) := ⟨_, rfl⟩
                obtain ⟨r1, r2, r3⟩ := HST8.out.row HB1.out HB0.out HOT9.out HGO.out HOW12.out HKK.out HGL.out hw5 (by omega)
                have HR9 := Lib.hid r1
                have HD9 := Lib.hid r2
                have HO9 : Hid (Only (fun _ => False) w w5) := Lib.hid (HO8.out.then r3 (fun q hq e => e.elim (fun e => by have := HST8.out.dt.sp.1; have := HBW.out; omega) (fun e => by have := (HST8.out.dt.sv q e).1; have := HBW.out; omega)))
                have hLn : (L ++ [(⟨xi, xnd, xnum, xdl, a4, n4, c4, GS⟩ : Sd)]).length = i + 1 := by rw [List.length_append, List.length_singleton, HLN.out]
                have HLN9 := Lib.hid hLn
                rw [← hw5]
                clear hw5 r1 r2 r3 hLn d2 f2 hot HOT9 HOW12 HKK HGO HX12 HST8 HS25 HO8 HRT HGL
                go_wp2_with fail
                go_roundw
                case rel => exact ⟨i + 1, _, _, _, _, by omega, by go_num, rfl, rfl, Lib.hid (by rw [← HSTT.out]; exact HR9.out), HD9, HLN9, HFL.out, HO9⟩
                case measure => simp [intOf]; omega
        · obtain rfl : i = n := by omega
          have hnl : ¬ (i : Int) < i := by omega
          have HFL1 := HFL
          go_wp2_with fail
          go_meet
          exact ⟨RB, lx, v, L, rfl, HR, HD, HFL1, HO⟩
    case rest =>
      obtain ⟨RB, lx, v, L, rfl, HR, HD, HFL, HO⟩ := hcut
      rename World => wr
      clear HR6 HD6 HFL0 HO6
      have HEN := Lib.hid (rend_s rp (rdSs n Q3).2 wr HR.out)
      cases RB
      · have HFIN : Hid (DocR w b (.returned (.tuple #[.pointer (some ⟨vp, 0, none⟩), .bool false])) wr) := Lib.hid ⟨HO.out, false, vp, rfl, .inr ⟨rfl, fun h => by
          obtain ⟨h1, h2, h3⟩ := HNO.out h
          have := ((HFL.out (by rw [h2]; simp)).2.1).2 ⟨h1, h3⟩
          cases this⟩⟩
        clear HEN HFL HR HD HO
        go_wp2_with fail
        go_ret2
        exact HFIN.out
      · go_wp2_with fail
        refine HEN.out.mono ?_
        rintro _ _ ⟨⟨er, rfl, her⟩, rfl⟩
        by_cases h0 : er = 0
        · have hs := her.1 h0
          subst h0
          obtain ⟨f1, f2, -⟩ := HFL.out (by rw [hs]; simp)
          obtain ⟨f3, f4⟩ := f2.1 (by simp)
          have HFIN : Hid (DocR w b (.returned (.tuple #[.pointer (some ⟨vp, 0, none⟩), .bool true])) wr) := Lib.hid ⟨HO.out, true, vp, rfl, .inl ⟨rfl, m, la, _, v, L, HYES.out f3 hs f4, HD.out.mono (fun q _ s => s.1), f1⟩⟩
          clear HEN HFL HR HD HO f1 f2 f3 f4 hs her
          go_wp2_with fail
          go_ret2
          exact HFIN.out
        · have heb : (er == 0) = false := beq_eq_false_iff_ne.2 h0
          have HFIN : Hid (DocR w b (.returned (.tuple #[.pointer (some ⟨vp, 0, none⟩), .bool false])) wr) := Lib.hid ⟨HO.out, false, vp, rfl, .inr ⟨rfl, fun h => h0 (her.2 (HNO.out h).2.1)⟩⟩
          clear HEN HFL HR HD HO her h0
          go_wp2_with fail
          go_ret2
          exact HFIN.out
end Go.Proofs.Ythflglejhhebeaa.cs
