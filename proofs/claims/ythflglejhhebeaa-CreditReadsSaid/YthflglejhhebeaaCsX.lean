/- What the program's Read of any bytes answers: the table whose bytes they are, or none. -/
import Derived.Test.YthflglejhhebeaaCsW
import Derived.Test.YthflglejhhebeaaCsD
import Derived.Test.YthflglejhhebeaaCsR
namespace Go.Proofs.Ythflglejhhebeaa.cs
open Go.RowKit mem rwg codm codp codw
set_option linter.unusedVariables false

/-- the bytes are a table's -/
def hasT (b : List Nat) : Prop := ∃ pl last L, isT b pl last L
def ReadT (w : World) (b : List Nat) (e : Ending) (w' : World) : Prop := Only (fun _ => False) w w' ∧ ((∃ pl last K p v L, isT b pl last K ∧ e = .returned (.tuple #[.pointer (some ⟨p, 0, none⟩), .int .i64 0]) ∧ PT (fun q => w.heap.size ≤ q) w' p pl last v L ∧ L.map Sd.sx = K) ∨ (¬ hasT b ∧ e = .returned (.tuple #[.pointer none, .int .i64 2])))
theorem hasT.p1 {b : List Nat} (h : hasT b) : 1 ≤ pl0 16 b ∧ pl0 16 b ≤ 16 := by
  obtain ⟨pl, last, L, h⟩ := h
  have h1 := h.1.p1
  have := (h.parse (m := 16) (k := 16) h1.2 (by have := h.1.ln; omega)).1
  omega
theorem hasT.adds {b : List Nat} (h : hasT b) {i : Nat} (hi : i < n0 16 (pl0 16 b) b) : addE (pl0 16 b) (lK (rdSs i (q3 16 (pl0 16 b) b)).1) (rdSs i (q3 16 (pl0 16 b) b)).1 (rdS (rdSs i (q3 16 (pl0 16 b) b)).2).1 = 0 := by
  obtain ⟨pl, last, L, h⟩ := h
  have h1 := h.1.p1
  have hp := (h.parse (m := 16) (k := 16) h1.2 (by have := h.1.ln; omega)).1
  obtain ⟨a1, a2, a3, a4⟩ := h.parse (m := 16) (k := (pl0 16 b : Int)) h1.2 (by rw [hp]; exact h.1.ln)
  rw [a3] at hi
  have e1 := a4 i (by omega)
  have e2 := a4 (i + 1) (by omega)
  have e3 : (rdSs (i + 1) (q3 16 (pl0 16 b) b)).1 = (rdSs i (q3 16 (pl0 16 b) b)).1 ++ [(rdS (rdSs i (q3 16 (pl0 16 b) b)).2).1] := rfl
  rw [e2, e1] at e3
  have e4 : L.take (i + 1) = L.take i ++ [L.getD i default] := by rw [List.take_succ_eq_append_getElem hi]; simp [List.getD, hi]
  dsimp only at e3
  rw [e4] at e3
  have e5 := List.append_cancel_left e3
  injection e5 with e5 _
  rw [e1]
  dsimp only
  rw [← e5, hp]
  exact h.1.adds hi
theorem hasT.fin {b : List Nat} (h : hasT b) : (rdSs (n0 16 (pl0 16 b) b) (q3 16 (pl0 16 b) b)).2 = some [] ∧ lK (rdSs (n0 16 (pl0 16 b) b) (q3 16 (pl0 16 b) b)).1 ≤ la0 16 b := by
  obtain ⟨pl, last, L, h⟩ := h
  have h1 := h.1.p1
  have hp := (h.parse (m := 16) (k := 16) h1.2 (by have := h.1.ln; omega)).1
  obtain ⟨a1, a2, a3, a4⟩ := h.parse (m := 16) (k := (pl0 16 b : Int)) h1.2 (by rw [hp]; exact h.1.ln)
  have e1 := a4 L.length (Nat.le_refl _)
  rw [a3, e1, a2, List.drop_length, List.take_length]
  exact ⟨rfl, lK_le L h.1.la.1 (fun x hx => (h.1.rt x hx).2)⟩
theorem hasT.of {b : List Nat} (hb : By b) {K : List Sx} (hK : (rdSs (n0 16 (pl0 16 b) b) (q3 16 (pl0 16 b) b)).1 = K) (hs : (rdSs (n0 16 (pl0 16 b) b) (q3 16 (pl0 16 b) b)).2 = some []) (ht : TOk (pl0 16 b) (lK K) K) (hl : lK K ≤ la0 16 b) : isT b (pl0 16 b) (la0 16 b) K := by
  refine ⟨ht.more hl (uF_bd (sok1 hb 16)), ?_⟩
  have := tab_back hb 16 (pl0 16 b) hs
  rw [hK] at this
  exact this
theorem CtAt.last {N : Bool} {t : TypeId} {S : Nat → Prop} {w : World} {p : Nat} {pl last : Int} {v : Value} {L : List Sd} (h : CtAt N t S w p pl last v L) (la : Int) : CtAt N t S (w.setCell ⟨p, 1, none⟩ (.int .i64 la)) p pl la v L := by
  have ho : Only (fun q => q = p) w (w.setCell ⟨p, 1, none⟩ (.int .i64 la)) := Only.set _ _ p 1 _ rfl
  refine ⟨?_, cell_same h.c1, ?_, frozen_set.trans h.f1, frozen_set.trans h.f2, h.own.only ho (fun k e s => h.np (by rw [e, s])), h.np, h.len, h.sp, h.sv, fun x hx => (h.kd x hx).move ho (fun y e hn s => ((h.kd x hx).2.2 y e hn).2.2.1 s) (fun y e hn => ((h.kd x hx).2.2 y e hn).2.2.2) (fun q s => s), h.nz⟩
  · rw [cell_other (fun e => by injection e with _ e _; omega)]; exact h.c0
  · rw [cell_other (fun e => by injection e with _ e _; omega)]; exact h.c2
set_option maxRecDepth 100000 in
set_option maxHeartbeats 8000000 in
theorem ctread_any (a : Option Addr) (n c : Nat) (b : List Nat) (w : World) (h : Bytes w a n c b) (hb : By b) : Calls Try.prog 21 #[.slice a n c] w (ReadT w b) := by
  have hlen : n ≤ 100000000 := by rw [← h.1.1]; exact hb.2
  have HRA := Lib.hid (read_any a n c b w h (by omega))
  have HBY := Lib.hid hb
  obtain ⟨m, hm⟩ : ∃ x, pl0 16 b = x := ⟨_, rfl⟩
  obtain ⟨la, hla⟩ : ∃ x, la0 16 b = x := ⟨_, rfl⟩
  obtain ⟨cnt, hcnt⟩ : ∃ x, n0 16 (pl0 16 b) b = x := ⟨_, rfl⟩
  obtain ⟨Q3, hQ3⟩ : ∃ x, q3 16 (pl0 16 b) b = x := ⟨_, rfl⟩
  have HP1 := Lib.hid (fun (h : hasT b) => h.p1)
  have HADD := Lib.hid (fun (h : hasT b) => fun (i : Nat) (hi : i < n0 16 (pl0 16 b) b) => h.adds hi)
  have HFN := Lib.hid (fun (h : hasT b) => h.fin)
  have HOF := Lib.hid (fun (K : List Sx) => hasT.of (K := K) hb)
  have hs3 : SOk (q3 16 (pl0 16 b) b) := sok3 hb 16 _
  have hm16 : m ≤ 16 := by have := uS_bd (most := 16) (some b) (sok0 hb) (by omega); unfold pl0 at hm; rw [hm] at this; omega
  have hla62 : (la : Int) ≤ 4611686018427387904 := by have := uF_bd (sok1 hb 16); unfold la0 at hla; rw [hla] at this; exact this
  have hcm : (cnt : Int) ≤ (m : Int) := by
    have := uS_bd (most := (pl0 16 b : Int)) (q2 16 b) (sok2 hb 16) (by omega)
    unfold n0 at hcnt
    rw [hcnt, hm] at this
    exact this
  have HM0 : Hid ((uS 16 (some b)).1 = m ∧ (uS 4611686018427387904 (q1 16 b)).1 = la ∧ (uS (m : Int) (q2 16 b)).1 = cnt ∧ (uS (m : Int) (q2 16 b)).2 = Q3) := Lib.hid ⟨hm, hla, by rw [← hm]; exact hcnt, by rw [← hm]; exact hQ3⟩
  rw [hm] at HP1 HADD HFN HOF hs3 hcnt hQ3
  rw [hla] at HFN HOF
  rw [hcnt] at HADD HFN HOF
  rw [hQ3] at HADD HFN HOF hs3
  have HS3 := Lib.hid hs3
  clear h hb hs3 hm hla hcnt hQ3
  go_enter Try.func21, Try.ntmps21
  go_wp2_with fail
  refine HRA.out.mono ?_
  rintro _ w1 ⟨rp, ra, rl, rcap, rfl, hrd, ho, hrp, hrb⟩
  have HR1 : Hid (RS (fun q => q < w1.heap.size ∧ q ≠ rp) w1 rp (some b)) := Lib.hid ⟨ra, rl, rcap, b, 0, hrd, HBY.out, fun x hx => ⟨(hrb x hx).2, hrd.off x hx⟩, rfl, rfl⟩
  have HO1 := Lib.hid ho
  have HRPW := Lib.hid hrp
  have hrpl := HR1.out.lt
  clear hrd ho hrb HRA hrp
  go_wp2_with fail
  refine (guint _ rp 16 (some b) w1 HR1.out).mono ?_
  rintro _ w2 ⟨rfl, hrs, ho⟩
  have HR2 : Hid (RS (fun q => q < w1.heap.size ∧ q ≠ rp) w2 rp (q1 16 b)) := Lib.hid hrs
  have HO2 : Hid (Only (fun q => q = rp) w1 w2) := Lib.hid ho
  clear hrs ho HR1
  rw [HM0.out.1]
  have HW2 : Hid (∀ w', Only (fun q => q = rp) w1 w' → Only (fun _ => False) w w') := Lib.hid (fun w' h => HO1.out.then h (fun q hq e => by have := HRPW.out; omega))
  by_cases hm1 : 1 ≤ m
  · have hm1' : (1 : Int) ≤ m := by omega
    have hm16' : (m : Int) ≤ 16 := by omega
    go_wp2_with fail
    refine (cnew_any (m : Int) w2 hm1' hm16').mono ?_
    rintro _ w3 ⟨rfl, hct, ho⟩
    have HO3 : Hid (Only (fun q => q = rp) w1 w3) := Lib.hid (HO2.out.trans (ho.mono (fun _ _ f => f.elim)))
    have HR3 := Lib.hid (HR2.out.only ho (fun f => f) (fun _ _ f => f))
    have HCT3 := Lib.hid hct
    obtain ⟨p, hp⟩ : ∃ x, x = w2.heap.size := ⟨_, rfl⟩
    obtain ⟨q0, hq0⟩ : ∃ x, x = w1.heap.size := ⟨_, rfl⟩
    have HPQ : Hid (q0 ≤ p ∧ rp < q0 ∧ w.heap.size ≤ q0) := Lib.hid ⟨by rw [hp, hq0]; exact HO2.out.size, by rw [hq0]; exact hrpl, by rw [hq0]; exact HO1.out.size⟩
    have HQ3 : Hid (q0 ≤ w3.heap.size) := Lib.hid (by rw [hq0]; exact HO3.out.size)
    rw [← hp] at HCT3 ⊢
    rw [← hq0] at HR3
    have HCT3' : Hid (PT (fun q => q0 ≤ q) w3 p (m : Int) 0 (.slice none 0 0) []) := Lib.hid (HCT3.out.mono (fun q _ s => Nat.le_trans HPQ.out.1 s))
    have HO3' := Lib.hid (HW2.out _ HO3.out)
    clear hct ho HR2 HO2 HO3 HCT3 hp hq0 HW2 hrpl HO1
    go_wp2_with fail
    refine (guint _ rp 4611686018427387904 (q1 16 b) w3 HR3.out).mono ?_
    rintro _ w4 ⟨rfl, hrs, ho⟩
    have HR4 : Hid (RS (fun q => q < q0 ∧ q ≠ rp) w4 rp (q2 16 b)) := Lib.hid hrs
    have HCT4 := Lib.hid (HCT3'.out.only ho (fun q s e => by have := HPQ.out.2.1; omega))
    have HO4 : Hid (Only (fun _ => False) w w4) := Lib.hid (HO3'.out.then ho (fun q hq e => by have := HRPW.out; omega))
    have HQ4 : Hid (q0 ≤ w4.heap.size) := Lib.hid (Nat.le_trans HQ3.out ho.size)
    have c0 := HCT4.out.c0
    clear hrs ho HR3 HCT3' HO3' HQ3
    rw [HM0.out.2.1]
    go_wp2_with fail
    refine (guint _ rp (m : Int) (q2 16 b) w4 HR4.out).mono ?_
    rintro _ w5 ⟨rfl, hrs, ho⟩
    rw [HM0.out.2.2.2] at hrs
    have HR5 : Hid (RS (fun q => q < q0 ∧ q ≠ rp) w5 rp (rdSs 0 Q3).2) := Lib.hid hrs
    have HCT5 := Lib.hid (HCT4.out.only ho (fun q s e => by have := HPQ.out.2.1; omega))
    have HO5 : Hid (Only (fun _ => False) w w5) := Lib.hid (HO4.out.then ho (fun q hq e => by have := HRPW.out; omega))
    have HQ5 : Hid (q0 ≤ w5.heap.size) := Lib.hid (Nat.le_trans HQ4.out ho.size)
    clear hrs ho HR4 HCT4 HO4 HQ4 c0
    rw [HM0.out.2.2.1]
    clear HM0 HBY
    have HT0 : Hid (TOk (m : Int) (lK (rdSs 0 Q3).1) (rdSs 0 Q3).1) := Lib.hid (TOk.new ⟨hm1', hm16'⟩)
    go_wp2_with fail
    go_loopw [27] (fun iv wr => ∃ (i : Nat) (v : Value) (L : List Sd), i ≤ cnt ∧ iv = .int .i64 (i : Int) ∧ Hid (L.map Sd.sx = (rdSs i Q3).1) ∧ Hid (PT (fun q => q0 ≤ q) wr p (m : Int) (lK (rdSs i Q3).1) v L) ∧ Hid (TOk (m : Int) (lK (rdSs i Q3).1) (rdSs i Q3).1) ∧ Hid (RS (fun q => q < q0 ∧ q ≠ rp) wr rp (rdSs i Q3).2) ∧ Hid (Only (fun _ => False) w wr) ∧ Hid (q0 ≤ wr.heap.size)) (fun iv _ => cnt - (intOf iv).toNat)
    case atStart => exact ⟨0, _, [], by omega, rfl, Lib.hid rfl, HCT5, HT0, HR5, HO5, HQ5⟩
    case round =>
      clear HCT5 HT0 HR5 HO5 HQ5
      obtain ⟨i, v, L, hi, rfl, HLK, HCT, HTK, HRS, HO, HQS⟩ := hrel
      rename World => wr
      by_cases h8 : i < cnt
      · have hin : (i : Int) < cnt := by omega
        have hi0 : (0 : Int) ≤ i := by omega
        have hi64 : (i : Int) ≤ 64 := by omega
        have HAE := Lib.hid (fun h => HADD.out h i h8)
        have HX : Hid ((rdSs (i + 1) Q3).1 = (rdSs i Q3).1 ++ [(rdS (rdSs i Q3).2).1] ∧ (rdSs (i + 1) Q3).2 = (rdS (rdSs i Q3).2).2) := Lib.hid ⟨rfl, rfl⟩
        have HRSS := Lib.hid (rsess_any (fun q => q < q0 ∧ q ≠ rp) rp (rdSs i Q3).2 wr HRS.out (fun q hq => by have := HQS.out; omega))
        go_wp2_with fail
        refine HRSS.out.mono ?_
        rintro _ w6 ⟨va, vc, rfl, hown, hva, hz, hrs, ho⟩
        obtain ⟨X, hX⟩ : ∃ x, (rdS (rdSs i Q3).2).1 = x := ⟨_, rfl⟩
        rw [hX] at hown hz HAE HX ⊢
        obtain ⟨xi, xnd, xnum, xdl, xgs⟩ := X
        dsimp only at hown hz ⊢
        obtain ⟨a', c', he, hcp, hrg, hbl⟩ := own_G hown rfl
        injection he with e1 e2 e3
        subst e1 e3
        have HCT6 := Lib.hid (HCT.out.only ho (fun q s e => by have := HPQ.out.2.1; omega))
        have HRS6 := Lib.hid hrs
        have HO6 : Hid (Only (fun _ => False) w w6) := Lib.hid (HO.out.then ho (fun q hq e => by have := HRPW.out; omega))
        have HQ6 : Hid (q0 ≤ w6.heap.size) := Lib.hid (Nat.le_trans HQS.out ho.size)
        have hln := HTK.out.ln
        have hLl : L.length = (rdSs i Q3).1.length := by rw [← HLK.out, List.length_map]
        have HCA := Lib.hid (cadd_any p (m : Int) (lK (rdSs i Q3).1) v L xi xnd xnum xdl va xgs.length vc xgs w6 HCT6.out hrg hcp hz ⟨by rw [hLl]; exact hln, hm16'⟩)
        rw [HLK.out] at HCA
        obtain ⟨AE, hAE⟩ : ∃ x, addE (m : Int) (lK (rdSs i Q3).1) (rdSs i Q3).1 ⟨xi, xnd, xnum, xdl, xgs⟩ = x := ⟨_, rfl⟩
        have HNX := Lib.hid (fun (h : AE = 0) => TOk.next HTK.out (x := ⟨xi, xnd, xnum, xdl, xgs⟩) (by rw [hAE]; exact h))
        rw [hAE] at HCA HAE
        clear hX hown hva hz hrs ho hcp hrg hbl hln hLl hAE HRSS HCT HRS HQS e2
        go_wp2_with fail
        refine HCA.out.mono ?_
        rintro _ w7 ⟨rfl, htr⟩
        have HTR := Lib.hid htr
        clear htr HCA
        by_cases ha : AE = 0
        · subst ha
          have hnx := HNX.out rfl
          have HTR2 : Hid (TRes (fun q => q0 ≤ q) p (m : Int) (lK (rdSs (i + 1) Q3).1) (rdSs (i + 1) Q3).1 w6 w7) := Lib.hid (by
            have := HTR.out
            rw [hnx.2.1, hnx.2.2, ← HX.out.1] at this
            exact this)
          obtain ⟨⟨v', L', hK', hpt⟩, ho7⟩ := HTR2.out
          have HK7 := Lib.hid hK'
          have HCT7 : Hid (PT (fun q => q0 ≤ q) w7 p (m : Int) (lK (rdSs (i + 1) Q3).1) v' L') := Lib.hid (hpt.mono (fun q _ s => s.elim (fun s => s) (fun s => Nat.le_trans HQ6.out s)))
          have HTK7 : Hid (TOk (m : Int) (lK (rdSs (i + 1) Q3).1) (rdSs (i + 1) Q3).1) := Lib.hid (by rw [HX.out.1]; exact hnx.1)
          have HRS7 : Hid (RS (fun q => q < q0 ∧ q ≠ rp) w7 rp (rdSs (i + 1) Q3).2) := Lib.hid (by
            rw [HX.out.2]
            exact HRS6.out.only ho7 (fun e => by have := HPQ.out.2.1; omega) (fun q hq e => by omega))
          have HO7 : Hid (Only (fun _ => False) w w7) := Lib.hid (HO6.out.then ho7 (fun q hq e => by have := HPQ.out.2.2; omega))
          have HQ7 : Hid (q0 ≤ w7.heap.size) := Lib.hid (Nat.le_trans HQ6.out ho7.size)
          clear hnx hK' hpt ho7 HTR HTR2 HRS6 HCT6 HTK HO6 HO HQ6 HX HLK HAE HNX
          go_wp2_with fail
          go_roundw
          case rel => exact ⟨i + 1, _, _, by omega, by go_num, HK7, HCT7, HTK7, HRS7, HO7, HQ7⟩
          case measure => simp [intOf]; omega
        · have hab : (AE != 0) = true := by simpa using ha
          have HFIN : Hid (ReadT w b (.returned (.tuple #[.pointer none, .int .i64 2])) w7) := Lib.hid ⟨HO6.out.then HTR.out.2 (fun q hq e => by have := HPQ.out.2.2; omega), .inr ⟨fun h => ha (HAE.out h), rfl⟩⟩
          clear HTR HRS6 HCT6 HTK HO6 HO HQ6 HX HLK HAE HNX ha
          go_wp2_with fail
          go_ret2
          exact HFIN.out
      · obtain rfl : i = cnt := by omega
        have hnl : ¬ (i : Int) < i := by omega
        have HEN := Lib.hid (gend _ rp (rdSs i Q3).2 wr HRS.out)
        go_wp2_with fail
        refine HEN.out.mono ?_
        rintro _ _ ⟨⟨er, rfl, her⟩, rfl⟩
        have d1 := HCT.out.c1
        have f1 := HCT.out.f1
        by_cases h0 : er = 0
        · have hs5 := her.1 h0
          subst h0
          by_cases hl : lK (rdSs i Q3).1 ≤ la
          · have HIS := Lib.hid (HOF.out _ rfl hs5 HTK.out hl)
            have hgt : ¬ (la : Int) < lK (rdSs i Q3).1 := by omega
            have HFIN : Hid (ReadT w b (.returned (.tuple #[.pointer (some ⟨p, 0, none⟩), .int .i64 0])) (wr.setCell ⟨p, 1, none⟩ (.int .i64 la))) := Lib.hid ⟨HO.out.then (Only.set (fun q => q = p) _ p 1 _ rfl) (fun q hq e => by have := HPQ.out; omega), .inl ⟨_, _, _, p, v, L, HIS.out, rfl, (HCT.out.last la).mono (fun q _ s => Nat.le_trans HPQ.out.2.2 s), HLK.out⟩⟩
            clear HIS HCT HLK HTK HRS HO HQS her hs5 hl HEN
            go_wp2_with fail
            go_ret2
            exact HFIN.out
          · have hgt : (la : Int) < lK (rdSs i Q3).1 := by omega
            have HFIN : Hid (ReadT w b (.returned (.tuple #[.pointer none, .int .i64 2])) wr) := Lib.hid ⟨HO.out, .inr ⟨fun h => hl (HFN.out h).2, rfl⟩⟩
            clear HCT HLK HTK HRS HO HQS her hs5 hl HEN
            go_wp2_with fail
            go_ret2
            exact HFIN.out
        · have heb : ((er : Int) != 0) = true := by rw [bne_iff_ne]; omega
          have HFIN : Hid (ReadT w b (.returned (.tuple #[.pointer none, .int .i64 2])) wr) := Lib.hid ⟨HO.out, .inr ⟨fun h => h0 (her.2 (HFN.out h).1), rfl⟩⟩
          clear HCT HLK HTK HRS HO HQS her h0 HEN
          go_wp2_with fail
          go_ret2
          exact HFIN.out
  · go_wp2_with fail
    refine (cnew_no (m : Int) w2 (fun q => hm1 (by omega))).mono ?_
    rintro _ w3 ⟨rfl, ho⟩
    have HFIN : Hid (ReadT w b (.returned (.tuple #[.pointer none, .int .i64 2])) w3) := Lib.hid ⟨HW2.out _ (HO2.out.trans (ho.mono (fun _ _ f => f.elim))), .inr ⟨fun h => hm1 (HP1.out h).1, rfl⟩⟩
    clear ho hm1
    go_wp2_with fail
    go_ret2
    exact HFIN.out
end Go.Proofs.Ythflglejhhebeaa.cs
