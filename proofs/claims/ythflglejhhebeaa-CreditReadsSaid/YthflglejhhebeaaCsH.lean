/- Sessions with grants, the document's: between, Find, Right, DocStep, Same. -/
import Derived.Test.YthflglejhhebeaaCsG
import Derived.Test.YthflglejhhebeaaHeldL
import Derived.DeepKeys
namespace Go.Proofs.Ythflglejhhebeaa.cs
open Go.RowKit mem rwg
set_option linter.unusedVariables false

def betB (n lo hi : Int) : Bool := decide (lo ≤ n ∧ n ≤ hi)
theorem rbet_any (n lo hi : Int) (w : World) : Calls Try.prog 49 #[.int .i64 n, .int .i64 lo, .int .i64 hi] w fun e w' => e = .returned (.bool (betB n lo hi)) ∧ w = w' := by
  by_cases h1 : lo ≤ n
  · by_cases h2 : n ≤ hi
    · have hd : betB n lo hi = true := decide_eq_true ⟨h1, h2⟩
      rw [hd]
      go_enter Try.func49, Try.ntmps49
      go_wp2_with fail
      go_ret
      exact ⟨rfl, rfl⟩
    · have hd : betB n lo hi = false := decide_eq_false (fun x => h2 x.2)
      obtain ⟨y1, y2⟩ := nat_dec _ _ h2
      rw [hd]
      go_enter Try.func49, Try.ntmps49
      go_wp2_with fail
      go_ret
      exact ⟨rfl, rfl⟩
  · have hd : betB n lo hi = false := decide_eq_false (fun x => h1 x.1)
    obtain ⟨y1, y2⟩ := nat_dec _ _ h1
    rw [hd]
    go_enter Try.func49, Try.ntmps49
    go_wp2_with fail
    go_ret
    exact ⟨rfl, rfl⟩
set_option maxRecDepth 100000 in
set_option maxHeartbeats 2000000 in
theorem rfind_any {S : Nat → Prop} (p : Nat) (places last : Int) (v : Value) (L : List Sd) (g : Int) (w : World) (h : DT S w p places last v L) : Calls Try.prog 20 #[.pointer (some ⟨p, 0, none⟩), .int .i64 g] w fun e w' => e = .returned (.int .i64 (sIdx g 0 (L.map Sd.sx))) ∧ w = w' := by
  have hll := h.len
  have c2 := h.c2
  obtain ⟨a, cap, rfl, hc, -, -, hr, -⟩ := own_S h.own
  have HR := Lib.hid hr
  have HLN : Hid ((L.map Sd.sx).length = L.length) := Lib.hid (by rw [List.length_map])
  have HGT : Hid (∀ k, k < L.length → (L.map Sd.sx).getD k default = (L.getD k default).sx) := Lib.hid (fun k hk => sx_get L hk)
  clear h hr
  generalize hT : L.map Sd.sx = T at *
  clear hT
  generalize hn : L.length = n at *
  go_enter Try.func20, Try.ntmps20
  go_wp2_with fail
  go_loopw [5] (fun iv wr => ∃ k : Nat, k ≤ n ∧ iv = .int .i64 (k : Int) ∧ Hid (sIdx g k (T.drop k) = sIdx g 0 T) ∧ wr = w) (fun iv _ => n - (intOf iv).toNat)
  case atStart => exact ⟨0, by omega, rfl, Lib.hid rfl, rfl⟩
  case round =>
    obtain ⟨k, hk, rfl, HP, rfl⟩ := hrel
    by_cases h8 : k < n
    · have hk0 : (0 : Int) ≤ (k : Int) := by omega
      have hkn : (k : Int) < (n : Int) := by omega
      have hwk : wrap64 ((k : Int) + 1) = (k : Int) + 1 := by unfold wrap64; omega
      obtain ⟨b, rfl, hcell⟩ := HR.out.resolve_left (by omega)
      obtain ⟨d0, d1, d2, d3, d4⟩ := hcell k h8
      have hst := HP.out
      rw [sIdx_step g (by rw [HLN.out]; exact h8), HGT.out k h8] at hst
      generalize L.getD k default = x at *
      obtain ⟨xi, xn, xm, xd, xa, xq, xc, xg⟩ := x
      dsimp only [Sd.sx] at d0 hst
      have HST := Lib.hid hst
      clear hcell hst d1 d2 d3 d4
      by_cases h2 : xi = g
      · have hb : (xi == g) = true := by simpa using h2
        have HR2 : Hid (sIdx g 0 T = k) := Lib.hid (HST.out.symm.trans (if_pos h2))
        clear h2 HST
        go_wp2_with fail
        go_ret
        exact ⟨by rw [HR2.out]; rfl, rfl⟩
      · have hb : (xi == g) = false := by simpa using h2
        have HR2 := Lib.hid ((if_neg h2).symm.trans HST.out)
        clear h2 HST
        go_wp2_with fail
        go_roundw
        case rel => exact ⟨k + 1, by omega, by go_num, HR2, trivial⟩
        case measure => (simp [intOf]; omega)
    · obtain rfl : k = n := by omega
      have hkn : ¬ (k : Int) < (k : Int) := by omega
      have HE : Hid (sIdx g 0 T = -1) := Lib.hid (by rw [← HP.out, List.drop_eq_nil_of_le (by rw [HLN.out]; omega)]; rfl)
      go_wp2_with fail
      go_ret
      exact ⟨by rw [HE.out]; rfl, rfl⟩
set_option maxRecDepth 100000 in
theorem rstep_any {S : Nat → Prop} (p : Nat) (places last : Int) (v : Value) (L : List Sd) (g m : Int) (w : World) (h : DT S w p places last v L) (hin : ∀ x ∈ L, x.num ≤ 4611686018427387904 ∧ 0 ≤ x.num) : Calls Try.prog 37 #[.pointer (some ⟨p, 0, none⟩), .int .i64 g, .int .i64 m] w fun e w' => e = .returned (.int .i64 (stepE (L.map Sd.sx) g m)) ∧ w = w' := by
  have HF := Lib.hid (rfind_any p places last v L g w h)
  have HH := Lib.hid h
  have HIN := Lib.hid hin
  obtain ⟨RE, hRE⟩ : ∃ x, x = stepE (L.map Sd.sx) g m := ⟨_, rfl⟩
  rw [← hRE]
  unfold stepE at hRE
  clear h hin
  rcases sIdx_lt g (L.map Sd.sx) with ⟨hk0, h1⟩ | ⟨k, hk, h1, -⟩
  · rw [h1] at HF hRE
    rw [if_pos (by decide)] at hRE
    have HRE := Lib.hid hRE
    clear hRE h1 hk0
    go_enter Try.func37, Try.ntmps37
    go_wp2_with fail
    refine HF.out.mono ?_
    rintro _ _ ⟨rfl, rfl⟩
    go_wp2_with fail
    go_ret
    exact ⟨by rw [HRE.out]; rfl, rfl⟩
  · rw [List.length_map] at hk
    rw [h1] at HF hRE
    rw [if_neg (by omega), Int.toNat_natCast, sx_get L hk] at hRE
    obtain ⟨b, cap, rfl, hcc, -, ⟨c0, c1, c2, c3, c4⟩, -, -⟩ := HH.out.at hk
    have c5 := HH.out.c2
    have hnm := HIN.out (L.getD k default) (by
      have : L.getD k default = L[k] := by simp [List.getD, hk]
      rw [this]; exact List.getElem_mem hk)
    have hlm := HH.out.len
    generalize L.getD k default = x at *
    generalize L.length = ln at *
    obtain ⟨xi, xn, xm, xd, xa, xq, xc, xg⟩ := x
    dsimp only [Sd.sx] at c0 c1 c2 c3 c4 hRE hnm
    have hki : (0 : Int) ≤ (k : Int) := by omega
    have hkn : ¬ (k : Int) < 0 := by omega
    have hkl : (k : Int) < (ln : Int) := by omega
    have hw1 : IntKind.i64.wrap (xm + 1) = xm + 1 := by rw [IntKind.wrap_i64]; omega
    clear c0 c1 c3 c4
    by_cases hm : m = xm + 1
    · have hb : (m != xm + 1) = false := by simpa using hm
      have HRE : Hid (RE = 0) := Lib.hid (hRE.trans (if_neg (fun q => q hm)))
      clear hRE h1 hm hnm
      go_enter Try.func37, Try.ntmps37
      go_wp2_with fail
      refine HF.out.mono ?_
      rintro _ _ ⟨rfl, rfl⟩
      go_wp2_with fail
      go_ret
      exact ⟨by rw [HRE.out]; rfl, rfl⟩
    · have hb : (m != xm + 1) = true := by simpa using hm
      have HRE : Hid (RE = 15) := Lib.hid (hRE.trans (if_pos hm))
      clear hRE h1 hm hnm
      go_enter Try.func37, Try.ntmps37
      go_wp2_with fail
      refine HF.out.mono ?_
      rintro _ _ ⟨rfl, rfl⟩
      go_wp2_with fail
      go_ret
      exact ⟨by rw [HRE.out]; rfl, rfl⟩
theorem right_and (s : Sx) : rightB s = (betB s.i 1 4611686018427387904 && betB s.nd 1 32 && betB s.num 0 4611686018427387904 && betB s.dl 0 4611686018427387904 && decide (s.gs.length ≤ 4) && goodF [] s.gs) := by
  rw [Bool.eq_iff_iff, rightB_iff]
  unfold betB numOk grsB
  simp only [Bool.and_eq_true, decide_eq_true_eq]
  constructor
  · rintro ⟨h1, h2, h3, h4, h5, h6, h7, h8⟩; exact ⟨⟨⟨⟨⟨⟨h1, h2.2⟩, h3, h4⟩, h5⟩, h6⟩, h7⟩, h8⟩
  · rintro ⟨⟨⟨⟨⟨h1, h2⟩, h3⟩, h4⟩, h5⟩, h6⟩; exact ⟨h1.1, ⟨by omega, h1.2⟩, h2.1, h2.2, h3, h4, h5, h6⟩
set_option maxRecDepth 100000 in
set_option maxHeartbeats 8000000 in
theorem rright_any (i nd num dl : Int) (a : Option Addr) (n c : Nat) (gs : List Gr) (w : World) (h : ReadsG w a n gs) (hcp : Cp a n c) : Calls Try.prog 51 #[.agg #[.int .i64 i, .int .i64 nd, .int .i64 num, .int .i64 dl, .slice a n c]] w fun e w' => e = .returned (.bool (rightB ⟨i, nd, num, dl, gs⟩)) ∧ Only (fun _ => False) w w' := by
  obtain ⟨w1, hw⟩ : ∃ x, x = w.alloc (.cells #[.int .i64 i, .int .i64 nd, .int .i64 num, .int .i64 dl, .slice a n c] 50) := ⟨_, rfl⟩
  obtain ⟨g, hg⟩ : ∃ x, x = w.heap.size := ⟨_, rfl⟩
  obtain ⟨c0, c1, c2, c3, c4, ho⟩ := sbox hw hg
  have HO := Lib.hid ho
  have HRD := Lib.hid (h.quiet ho)
  have HL : Hid (gs.length = n) := Lib.hid h.1
  have hnc := hcp.1
  have hcm := hcp.2.1
  unfold maxLen at hcm
  have hRB := right_and ⟨i, nd, num, dl, gs⟩
  dsimp only at hRB
  rw [h.1] at hRB
  have H4 : Hid (∀ w', Only (fun _ => False) w1 w' → w'.cell? ⟨g, 4, none⟩ = some (.slice a n c)) := Lib.hid (fun w' ho2 => ho2.cell' c4 (fun f => f))
  clear ho h hcp
  generalize rightB ⟨i, nd, num, dl, gs⟩ = RB at *
  have HD0 : Hid (goodF (gs.take 0) (gs.drop 0) = goodF [] gs) := Lib.hid rfl
  obtain ⟨GB, hGB⟩ : ∃ x, x = goodF [] gs := ⟨_, rfl⟩
  rw [← hGB] at hRB HD0
  clear hGB
  obtain ⟨x1, hx1⟩ : ∃ x, x = betB i 1 4611686018427387904 := ⟨_, rfl⟩
  obtain ⟨x2, hx2⟩ : ∃ x, x = betB nd 1 32 := ⟨_, rfl⟩
  obtain ⟨x3, hx3⟩ : ∃ x, x = betB num 0 4611686018427387904 := ⟨_, rfl⟩
  obtain ⟨x4, hx4⟩ : ∃ x, x = betB dl 0 4611686018427387904 := ⟨_, rfl⟩
  rw [← hx1, ← hx2, ← hx3, ← hx4] at hRB
  have HX := Lib.hid (And.intro hx1 (And.intro hx2 (And.intro hx3 hx4)))
  clear hx1 hx2 hx3 hx4
  cases x1
  · have HE : Hid (RB = false) := Lib.hid (by rw [hRB]; simp)
    clear hRB
    go_enter Try.func51, Try.ntmps51
    go_upto_region 1 with fail
    simp only [← hw, ← hg]
    clear hw hg
    go_wp2_with fail
    refine (rbet_any i 1 4611686018427387904 _).mono ?_
    rintro _ _ ⟨rfl, rfl⟩
    rw [← HX.out.1]
    go_wp2_with fail
    go_ret
    exact ⟨by rw [HE.out]; rfl, HO.out⟩
  cases x2
  · have HE : Hid (RB = false) := Lib.hid (by rw [hRB]; simp)
    clear hRB
    go_enter Try.func51, Try.ntmps51
    go_upto_region 1 with fail
    simp only [← hw, ← hg]
    clear hw hg
    go_wp2_with fail
    refine (rbet_any i 1 4611686018427387904 _).mono ?_
    rintro _ _ ⟨rfl, rfl⟩
    rw [← HX.out.1]
    go_wp2_with fail
    refine (rbet_any nd 1 32 _).mono ?_
    rintro _ _ ⟨rfl, rfl⟩
    rw [← HX.out.2.1]
    go_wp2_with fail
    go_ret
    exact ⟨by rw [HE.out]; rfl, HO.out⟩
  cases x3
  · have HE : Hid (RB = false) := Lib.hid (by rw [hRB]; simp)
    clear hRB
    go_enter Try.func51, Try.ntmps51
    go_upto_region 1 with fail
    simp only [← hw, ← hg]
    clear hw hg
    go_wp2_with fail
    refine (rbet_any i 1 4611686018427387904 _).mono ?_
    rintro _ _ ⟨rfl, rfl⟩
    rw [← HX.out.1]
    go_wp2_with fail
    refine (rbet_any nd 1 32 _).mono ?_
    rintro _ _ ⟨rfl, rfl⟩
    rw [← HX.out.2.1]
    go_wp2_with fail
    refine (rbet_any num 0 4611686018427387904 _).mono ?_
    rintro _ _ ⟨rfl, rfl⟩
    rw [← HX.out.2.2.1]
    go_wp2_with fail
    go_ret
    exact ⟨by rw [HE.out]; rfl, HO.out⟩
  cases x4
  · have HE : Hid (RB = false) := Lib.hid (by rw [hRB]; simp)
    clear hRB
    go_enter Try.func51, Try.ntmps51
    go_upto_region 1 with fail
    simp only [← hw, ← hg]
    clear hw hg
    go_wp2_with fail
    refine (rbet_any i 1 4611686018427387904 _).mono ?_
    rintro _ _ ⟨rfl, rfl⟩
    rw [← HX.out.1]
    go_wp2_with fail
    refine (rbet_any nd 1 32 _).mono ?_
    rintro _ _ ⟨rfl, rfl⟩
    rw [← HX.out.2.1]
    go_wp2_with fail
    refine (rbet_any num 0 4611686018427387904 _).mono ?_
    rintro _ _ ⟨rfl, rfl⟩
    rw [← HX.out.2.2.1]
    go_wp2_with fail
    refine (rbet_any dl 0 4611686018427387904 _).mono ?_
    rintro _ _ ⟨rfl, rfl⟩
    rw [← HX.out.2.2.2]
    go_wp2_with fail
    go_ret
    exact ⟨by rw [HE.out]; rfl, HO.out⟩
  by_cases h4 : n ≤ 4
  rotate_left
  · have HE : Hid (RB = false) := Lib.hid (by rw [hRB, decide_eq_false h4]; simp)
    have hi4 : (4 : Int) < (n : Int) := by omega
    clear hRB
    go_enter Try.func51, Try.ntmps51
    go_upto_region 1 with fail
    simp only [← hw, ← hg]
    clear hw hg
    go_wp2_with fail
    refine (rbet_any i 1 4611686018427387904 _).mono ?_
    rintro _ _ ⟨rfl, rfl⟩
    rw [← HX.out.1]
    go_wp2_with fail
    refine (rbet_any nd 1 32 _).mono ?_
    rintro _ _ ⟨rfl, rfl⟩
    rw [← HX.out.2.1]
    go_wp2_with fail
    refine (rbet_any num 0 4611686018427387904 _).mono ?_
    rintro _ _ ⟨rfl, rfl⟩
    rw [← HX.out.2.2.1]
    go_wp2_with fail
    refine (rbet_any dl 0 4611686018427387904 _).mono ?_
    rintro _ _ ⟨rfl, rfl⟩
    rw [← HX.out.2.2.2]
    go_wp2_with fail
    go_ret
    exact ⟨by rw [HE.out]; rfl, HO.out⟩
  have hi4 : ¬ (4 : Int) < (n : Int) := by omega
  have HE : Hid (RB = GB) := Lib.hid (by rw [hRB, decide_eq_true h4]; simp)
  clear hRB
  go_enter Try.func51, Try.ntmps51
  go_upto_region 1 with fail
  simp only [← hw, ← hg]
  clear hw hg
  go_wp2_with fail
  refine (rbet_any i 1 4611686018427387904 _).mono ?_
  rintro _ _ ⟨rfl, rfl⟩
  rw [← HX.out.1]
  go_wp2_with fail
  refine (rbet_any nd 1 32 _).mono ?_
  rintro _ _ ⟨rfl, rfl⟩
  rw [← HX.out.2.1]
  go_wp2_with fail
  refine (rbet_any num 0 4611686018427387904 _).mono ?_
  rintro _ _ ⟨rfl, rfl⟩
  rw [← HX.out.2.2.1]
  go_wp2_with fail
  refine (rbet_any dl 0 4611686018427387904 _).mono ?_
  rintro _ _ ⟨rfl, rfl⟩
  rw [← HX.out.2.2.2]
  go_wp2_with fail
  clear c0 c1 c2 c3 c4
  go_loopw [3] (fun iv wr => ∃ k : Nat, k ≤ n ∧ iv = .int .i64 (k : Int) ∧ Hid (goodF (gs.take k) (gs.drop k) = GB) ∧ Hid (Only (fun _ => False) w1 wr)) (fun iv _ => n - (intOf iv).toNat)
  case atStart => exact ⟨0, by omega, rfl, HD0, Lib.hid (Only.refl _ _)⟩
  case round =>
    clear HD0
    obtain ⟨k, hk, rfl, HP, HO1⟩ := hrel
    rename World => wr
    have b4 := H4.out wr HO1.out
    by_cases h8 : k < n
    rotate_left
    · have h8' : ¬ (k : Int) < (n : Int) := by omega
      have HR : Hid (RB = true) := Lib.hid (by rw [HE.out, ← HP.out, goodF_end _ _ _ (by rw [HL.out]; omega)])
      have HOE := Lib.hid (HO.out.trans HO1.out)
      go_wp2_with fail
      go_ret
      exact ⟨by rw [HR.out]; rfl, HOE.out⟩
    have h8' : (k : Int) < (n : Int) := by omega
    have hk0 : (0 : Int) ≤ (k : Int) := by omega
    have hwk : wrap64 ((k : Int) + 1) = (k : Int) + 1 := by unfold wrap64; omega
    obtain ⟨b, off, rfl, hcell⟩ := HRD.out.cells (by omega)
    have HCE : Hid (∀ j, j < n → ∀ w', Only (fun _ => False) w1 w' → w'.cell? ⟨b, off + j * 4, none⟩ = some (.int .i64 (gs.getD j default).g)) := Lib.hid (fun j hj w' ho => ho.cell' (hcell j hj).1 (fun f => f))
    obtain ⟨d0, d1, d2, d3⟩ := hcell k h8
    replace d0 := HO1.out.cell' d0 (fun f => f)
    replace d1 := HO1.out.cell' d1 (fun f => f)
    replace d2 := HO1.out.cell' d2 (fun f => f)
    replace d3 := HO1.out.cell' d3 (fun f => f)
    have hst := HP.out
    rw [goodF_step (by rw [HL.out]; exact h8)] at hst
    have hts : gs.take (k + 1) = gs.take k ++ [gs.getD k default] := take_getG gs k (by rw [HL.out]; exact h8)
    rw [← hts] at hst
    have HST := Lib.hid hst
    have HAT : Hid (∀ j, j < k → (gs.take k).any (fun y => decide (y.g = (gs.getD j default).g)) = true) := Lib.hid (fun j hj => by
      rw [List.any_eq_true]
      refine ⟨gs.getD j default, ?_, by simp⟩
      have hl := HL.out
      have e : gs.getD j default = (gs.take k)[j]'(by rw [List.length_take]; omega) := by simp [List.getD, show j < gs.length by omega]
      rw [e]; exact List.getElem_mem _)
    have HAF : Hid (∀ q : Int, (∀ j, j < k → (gs.getD j default).g ≠ q) → (gs.take k).any (fun y => decide (y.g = q)) = false) := Lib.hid (fun q hq => by
      rw [List.any_eq_false]
      intro y hy
      obtain ⟨j, hj, e⟩ := List.getElem_of_mem hy
      have hl := HL.out
      rw [List.length_take] at hj
      have h2 := hq j (by omega)
      have e2 : gs.getD j default = y := by rw [← e]; simp [List.getD, show j < gs.length by omega]
      rw [e2] at h2
      simpa using h2)
    clear hcell hst hts HP
    obtain ⟨yk, hyk⟩ : ∃ y, y = gs.getD k default := ⟨_, rfl⟩
    rw [← hyk] at d0 d1 d2 d3 HST
    clear hyk
    obtain ⟨q, u, am, fl⟩ := yk
    dsimp only at d0 d1 d2 d3 HST
    obtain ⟨wq, hwq⟩ : ∃ z, z = wr.alloc (.cells #[.int .i64 q, .int .i64 u, .int .i64 am, .bool fl] 92) := ⟨_, rfl⟩
    obtain ⟨g9, hg9⟩ : ∃ z, z = wr.heap.size := ⟨_, rfl⟩
    obtain ⟨e0, e1, e2, e3, hoq⟩ := gbox hwq hg9
    have HWQ := Lib.hid (HO1.out.trans hoq)
    have HOQ := Lib.hid (HO.out.trans HWQ.out)
    clear hoq
    go_upto_region 7 with fail
    simp only [← hwq, ← hg9]
    clear hwq hg9 d0 d1 d2 d3 b4
    obtain ⟨x5, hx5⟩ : ∃ x, x = betB q 1 8 := ⟨_, rfl⟩
    obtain ⟨x6, hx6⟩ : ∃ x, x = betB u 0 1073741824 := ⟨_, rfl⟩
    obtain ⟨x7, hx7⟩ : ∃ x, x = betB am 0 9007199254740992 := ⟨_, rfl⟩
    have HGO : Hid (grOk ⟨q, u, am, fl⟩ ↔ (x5 = true ∧ x6 = true ∧ x7 = true)) := Lib.hid (by rw [hx5, hx6, hx7]; unfold grOk betB; simp)
    have HY := Lib.hid (And.intro hx5 (And.intro hx6 hx7))
    clear hx5 hx6 hx7
    go_wp2_with fail
    refine (rbet_any q 1 8 _).mono ?_
    rintro _ _ ⟨rfl, rfl⟩
    rw [← HY.out.1]
    cases x5
    · have HR : Hid (RB = false) := Lib.hid (by rw [HE.out, ← HST.out, if_neg (fun h => by have := HGO.out.1 h; simp at this)])
      clear HST
      go_wp2_with fail
      go_ret
      exact ⟨by rw [HR.out]; rfl, HOQ.out⟩
    go_wp2_with fail
    refine (rbet_any u 0 1073741824 _).mono ?_
    rintro _ _ ⟨rfl, rfl⟩
    rw [← HY.out.2.1]
    cases x6
    · have HR : Hid (RB = false) := Lib.hid (by rw [HE.out, ← HST.out, if_neg (fun h => by have := HGO.out.1 h; simp at this)])
      clear HST
      go_wp2_with fail
      go_ret
      exact ⟨by rw [HR.out]; rfl, HOQ.out⟩
    go_wp2_with fail
    refine (rbet_any am 0 9007199254740992 _).mono ?_
    rintro _ _ ⟨rfl, rfl⟩
    rw [← HY.out.2.2]
    cases x7
    · have HR : Hid (RB = false) := Lib.hid (by rw [HE.out, ← HST.out, if_neg (fun h => by have := HGO.out.1 h; simp at this)])
      clear HST
      go_wp2_with fail
      go_ret
      exact ⟨by rw [HR.out]; rfl, HOQ.out⟩
    go_wp2_with fail
    replace HST := Lib.hid (by have h := HST.out; rw [if_pos (HGO.out.2 (by simp))] at h; exact h)
    go_loopw [5] (fun jv wx => ∃ j : Nat, j ≤ k ∧ jv = .int .i64 (j : Int) ∧ Hid (∀ m, m < j → (gs.getD m default).g ≠ q) ∧ Hid (Only (fun _ => False) wq wx)) (fun jv _ => k - (intOf jv).toNat)
    case atStart => exact ⟨0, by omega, rfl, Lib.hid (fun m hm => by omega), Lib.hid (Only.refl _ _)⟩
    case round =>
      obtain ⟨j, hj, rfl, HNO, HX9⟩ := hrel
      rename World => wx
      have HOX := Lib.hid (HWQ.out.trans HX9.out)
      by_cases h9 : j < k
      · have h9' : (j : Int) < (k : Int) := by omega
        have hj0 : (0 : Int) ≤ (j : Int) := by omega
        have hjn : (j : Int) < (n : Int) := by omega
        have hjn2 : j < n := by omega
        have hwj : wrap64 ((j : Int) + 1) = (j : Int) + 1 := by unfold wrap64; omega
        have HS12 : Hid (∀ w', Only (fun _ => False) wx w' → w'.cell? ⟨g, 4, none⟩ = some (.slice (some ⟨b, off, none⟩) n c) ∧ w'.cell? ⟨b, off + j * 4, none⟩ = some (.int .i64 (gs.getD j default).g) ∧ w'.cell? ⟨g9, 0, none⟩ = some (.int .i64 q)) := Lib.hid (fun w' ho => ⟨H4.out w' (HOX.out.trans ho), HCE.out j hjn2 w' (HOX.out.trans ho), (HX9.out.trans ho).cell' e0 (fun f => f)⟩)
        have HN2 : Hid (q = (gs.getD j default).g ∨ ∀ m, m < j + 1 → (gs.getD m default).g ≠ q) := Lib.hid (by
          by_cases e : q = (gs.getD j default).g
          · exact .inl e
          · refine .inr (fun m hm => ?_)
            rcases (by omega : m < j ∨ m = j) with h | h
            · exact HNO.out m h
            · subst h; exact fun e2 => e e2.symm)
        have HAJ := Lib.hid (HAT.out j h9)
        generalize (gs.getD j default).g = yg at *
        go_upto_region 12 with fail
        by_cases h2 : yg = q
        · have hb : (yg == q) = true := by simpa using h2
          have HR : Hid (RB = false) := Lib.hid (by
            rw [HE.out, ← HST.out, if_pos (by rw [← h2]; exact HAJ.out)])
          clear h2 HN2 HST
          refine wp_region_noPanic ?_
          refine wp_region_held_drew (S := (fun w' => w'.cell? ⟨g, 4, none⟩ = some (.slice (some ⟨b, off, none⟩) n c) ∧ w'.cell? ⟨b, off + j * 4, none⟩ = some (.int .i64 yg) ∧ w'.cell? ⟨g9, 0, none⟩ = some (.int .i64 q))) (by kernel_rfl) (HS12.out _ (Only.refl _ _).drew) (fun hHeld => ?_)
          obtain ⟨wy, hwy⟩ : ∃ x, x = wx.drew := ⟨_, rfl⟩
          rw [← hwy] at hHeld ⊢
          have h23 : Only (fun _ => False) wx wy := by rw [hwy]; exact (Only.refl _ _).drew
          clear hwy
          refine wpAnyH_take (i := 0) (v := ?_) rfl (by kernel_rfl) (by kernel_rfl) (by kernel_rfl) (fun _ _ _ h => h) (Or.inl ⟨by rfl, ?_⟩) (by assumption) ?_
          rotate_left 1
          · intro w' hSw
            try dsimp only at hSw
            go_simp
            try with_reducible rfl
          try simp only [List.getElem_toArray, List.getElem_cons_zero, Act.put, List.setIfInBounds_toArray, List.set_cons_zero, List.set_cons_succ]
          refine wpAnyH_take (i := 1) (v := ?_) rfl (by kernel_rfl) (by kernel_rfl) (by kernel_rfl) (fun _ _ _ h => h) (Or.inl ⟨by rfl, ?_⟩) (by assumption) ?_
          rotate_left 1
          · intro w' hSw
            try dsimp only at hSw
            go_simp
            try with_reducible rfl
          try simp only [List.getElem_toArray, List.getElem_cons_zero, List.getElem_cons_succ, Act.put, List.setIfInBounds_toArray, List.set_cons_zero, List.set_cons_succ]
          refine wpAnyH_take (i := 2) (v := ?_) rfl (by kernel_rfl) (by kernel_rfl) (by kernel_rfl) (fun _ _ _ h => h) (Or.inl ⟨by rfl, ?_⟩) (by assumption) ?_
          rotate_left 1
          · intro w' hSw
            try dsimp only at hSw
            go_simp
            try with_reducible rfl
          try simp only [List.getElem_toArray, List.getElem_cons_zero, List.getElem_cons_succ, Act.put, List.setIfInBounds_toArray, List.set_cons_zero, List.set_cons_succ]
          refine wpAnyH_take (i := 3) (v := ?_) rfl (by kernel_rfl) (by kernel_rfl) (by kernel_rfl) (fun _ _ _ h => h) (Or.inl ⟨by rfl, ?_⟩) (by assumption) ?_
          rotate_left 1
          · intro w' hSw
            try dsimp only at hSw
            go_simp
            try with_reducible rfl
          try simp only [List.getElem_toArray, List.getElem_cons_zero, List.getElem_cons_succ, Act.put, List.setIfInBounds_toArray, List.set_cons_zero, List.set_cons_succ]
          refine wpAnyH_take (i := 4) (v := ?_) rfl (by kernel_rfl) (by kernel_rfl) (by kernel_rfl) (fun _ _ _ h => h) (Or.inl ⟨by rfl, ?_⟩) (by assumption) ?_
          rotate_left 1
          · intro w' hSw
            try dsimp only at hSw
            go_simp
            try with_reducible rfl
          try simp only [List.getElem_toArray, List.getElem_cons_zero, List.getElem_cons_succ, Act.put, List.setIfInBounds_toArray, List.set_cons_zero, List.set_cons_succ]
          refine wpAnyH_take (i := 5) (v := ?_) rfl (by kernel_rfl) (by kernel_rfl) (by kernel_rfl) (fun _ _ _ h => h) (Or.inl ⟨by rfl, ?_⟩) (by assumption) ?_
          rotate_left 1
          · intro w' hSw
            try dsimp only at hSw
            go_simp
            try with_reducible rfl
          try simp only [List.getElem_toArray, List.getElem_cons_zero, List.getElem_cons_succ, Act.put, List.setIfInBounds_toArray, List.set_cons_zero, List.set_cons_succ]
          refine wpAnyH_take (i := 6) (v := ?_) rfl (by kernel_rfl) (by kernel_rfl) (by kernel_rfl) (fun _ _ _ h => h) (Or.inl ⟨by rfl, ?_⟩) (by assumption) ?_
          rotate_left 1
          · intro w' hSw
            try dsimp only at hSw
            go_simp
            try with_reducible rfl
          try simp only [List.getElem_toArray, List.getElem_cons_zero, List.getElem_cons_succ, Act.put, List.setIfInBounds_toArray, List.set_cons_zero, List.set_cons_succ]
          refine wpAnyH_take (i := 7) (v := ?_) rfl (by kernel_rfl) (by kernel_rfl) (by kernel_rfl) (fun _ _ _ h => h) (Or.inl ⟨by rfl, ?_⟩) (by assumption) ?_
          rotate_left 1
          · intro w' hSw
            try dsimp only at hSw
            go_simp
            try with_reducible rfl
          try simp only [List.getElem_toArray, List.getElem_cons_zero, List.getElem_cons_succ, Act.put, List.setIfInBounds_toArray, List.set_cons_zero, List.set_cons_succ]
          refine wpAnyH_take (i := 8) (v := ?_) rfl (by kernel_rfl) (by kernel_rfl) (by kernel_rfl) (fun _ _ _ h => h) (Or.inl ⟨by rfl, ?_⟩) (by assumption) ?_
          rotate_left 1
          · intro w' hSw
            try dsimp only at hSw
            go_simp
            try with_reducible rfl
          try simp only [List.getElem_toArray, List.getElem_cons_zero, List.getElem_cons_succ, Act.put, List.setIfInBounds_toArray, List.set_cons_zero, List.set_cons_succ]
          refine wpAnyH_done (by kernel_rfl) ?_ _
          refine NoPanic.normal ?_
          have HOE := Lib.hid (HO.out.trans (HOX.out.trans h23))
          clear hHeld h23
          go_wp2_with fail
          go_ret
          exact ⟨by rw [HR.out]; rfl, HOE.out⟩
        · have hb : (yg == q) = false := by simpa using h2
          have HN3 := Lib.hid (HN2.out.resolve_left (fun e => h2 e.symm))
          clear h2 HN2
          refine wp_region_noPanic ?_
          refine wp_region_held_drew (S := (fun w' => w'.cell? ⟨g, 4, none⟩ = some (.slice (some ⟨b, off, none⟩) n c) ∧ w'.cell? ⟨b, off + j * 4, none⟩ = some (.int .i64 yg) ∧ w'.cell? ⟨g9, 0, none⟩ = some (.int .i64 q))) (by kernel_rfl) (HS12.out _ (Only.refl _ _).drew) (fun hHeld => ?_)
          obtain ⟨wy, hwy⟩ : ∃ x, x = wx.drew := ⟨_, rfl⟩
          rw [← hwy] at hHeld ⊢
          have h23 : Only (fun _ => False) wx wy := by rw [hwy]; exact (Only.refl _ _).drew
          clear hwy
          refine wpAnyH_take (i := 0) (v := ?_) rfl (by kernel_rfl) (by kernel_rfl) (by kernel_rfl) (fun _ _ _ h => h) (Or.inl ⟨by rfl, ?_⟩) (by assumption) ?_
          rotate_left 1
          · intro w' hSw
            try dsimp only at hSw
            go_simp
            try with_reducible rfl
          try simp only [List.getElem_toArray, List.getElem_cons_zero, Act.put, List.setIfInBounds_toArray, List.set_cons_zero, List.set_cons_succ]
          refine wpAnyH_take (i := 1) (v := ?_) rfl (by kernel_rfl) (by kernel_rfl) (by kernel_rfl) (fun _ _ _ h => h) (Or.inl ⟨by rfl, ?_⟩) (by assumption) ?_
          rotate_left 1
          · intro w' hSw
            try dsimp only at hSw
            go_simp
            try with_reducible rfl
          try simp only [List.getElem_toArray, List.getElem_cons_zero, List.getElem_cons_succ, Act.put, List.setIfInBounds_toArray, List.set_cons_zero, List.set_cons_succ]
          refine wpAnyH_take (i := 2) (v := ?_) rfl (by kernel_rfl) (by kernel_rfl) (by kernel_rfl) (fun _ _ _ h => h) (Or.inl ⟨by rfl, ?_⟩) (by assumption) ?_
          rotate_left 1
          · intro w' hSw
            try dsimp only at hSw
            go_simp
            try with_reducible rfl
          try simp only [List.getElem_toArray, List.getElem_cons_zero, List.getElem_cons_succ, Act.put, List.setIfInBounds_toArray, List.set_cons_zero, List.set_cons_succ]
          refine wpAnyH_take (i := 3) (v := ?_) rfl (by kernel_rfl) (by kernel_rfl) (by kernel_rfl) (fun _ _ _ h => h) (Or.inl ⟨by rfl, ?_⟩) (by assumption) ?_
          rotate_left 1
          · intro w' hSw
            try dsimp only at hSw
            go_simp
            try with_reducible rfl
          try simp only [List.getElem_toArray, List.getElem_cons_zero, List.getElem_cons_succ, Act.put, List.setIfInBounds_toArray, List.set_cons_zero, List.set_cons_succ]
          refine wpAnyH_take (i := 4) (v := ?_) rfl (by kernel_rfl) (by kernel_rfl) (by kernel_rfl) (fun _ _ _ h => h) (Or.inl ⟨by rfl, ?_⟩) (by assumption) ?_
          rotate_left 1
          · intro w' hSw
            try dsimp only at hSw
            go_simp
            try with_reducible rfl
          try simp only [List.getElem_toArray, List.getElem_cons_zero, List.getElem_cons_succ, Act.put, List.setIfInBounds_toArray, List.set_cons_zero, List.set_cons_succ]
          refine wpAnyH_take (i := 5) (v := ?_) rfl (by kernel_rfl) (by kernel_rfl) (by kernel_rfl) (fun _ _ _ h => h) (Or.inl ⟨by rfl, ?_⟩) (by assumption) ?_
          rotate_left 1
          · intro w' hSw
            try dsimp only at hSw
            go_simp
            try with_reducible rfl
          try simp only [List.getElem_toArray, List.getElem_cons_zero, List.getElem_cons_succ, Act.put, List.setIfInBounds_toArray, List.set_cons_zero, List.set_cons_succ]
          refine wpAnyH_take (i := 6) (v := ?_) rfl (by kernel_rfl) (by kernel_rfl) (by kernel_rfl) (fun _ _ _ h => h) (Or.inl ⟨by rfl, ?_⟩) (by assumption) ?_
          rotate_left 1
          · intro w' hSw
            try dsimp only at hSw
            go_simp
            try with_reducible rfl
          try simp only [List.getElem_toArray, List.getElem_cons_zero, List.getElem_cons_succ, Act.put, List.setIfInBounds_toArray, List.set_cons_zero, List.set_cons_succ]
          refine wpAnyH_take (i := 7) (v := ?_) rfl (by kernel_rfl) (by kernel_rfl) (by kernel_rfl) (fun _ _ _ h => h) (Or.inl ⟨by rfl, ?_⟩) (by assumption) ?_
          rotate_left 1
          · intro w' hSw
            try dsimp only at hSw
            go_simp
            try with_reducible rfl
          try simp only [List.getElem_toArray, List.getElem_cons_zero, List.getElem_cons_succ, Act.put, List.setIfInBounds_toArray, List.set_cons_zero, List.set_cons_succ]
          refine wpAnyH_take (i := 8) (v := ?_) rfl (by kernel_rfl) (by kernel_rfl) (by kernel_rfl) (fun _ _ _ h => h) (Or.inl ⟨by rfl, ?_⟩) (by assumption) ?_
          rotate_left 1
          · intro w' hSw
            try dsimp only at hSw
            go_simp
            try with_reducible rfl
          try simp only [List.getElem_toArray, List.getElem_cons_zero, List.getElem_cons_succ, Act.put, List.setIfInBounds_toArray, List.set_cons_zero, List.set_cons_succ]
          refine wpAnyH_done (by kernel_rfl) ?_ _
          refine NoPanic.normal ?_
          have HOE := Lib.hid (HX9.out.trans h23)
          clear hHeld h23
          go_wp2_with fail
          go_roundw
          case rel => exact ⟨j + 1, by omega, by go_num, HN3, HOE⟩
          case measure => (simp [intOf]; omega)
      · obtain rfl : j = k := by omega
        have h9' : ¬ (j : Int) < (j : Int) := by omega
        have HNX := Lib.hid (by have h := HST.out; rw [if_neg (by rw [HAF.out q HNO.out]; decide)] at h; exact h)
        go_wp2_with fail
        go_roundw
        case rel => exact ⟨j + 1, by omega, by go_num, HNX, HOX⟩
        case measure => (simp [intOf]; omega)
end Go.Proofs.Ythflglejhhebeaa.cs
