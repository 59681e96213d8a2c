/- TierMerges: a merged row is no longer than what it comes of; the walk. -/
import Derived.Test.YtdfghdccbpnohaaTirN2
import Derived.Test.YtdfghdccbpnohaaTirMw
import Derived.Test.YtdfghdccbpnohaaTirIo
import Derived.Test.YtdfghdccbpnohaaTirR
namespace Go.Proofs.Ytdfghdccbpnohaa.tirw
open Go.RowKit mem tirm intm bigm bigw
set_option linter.unusedVariables false

theorem merge_len : ∀ (out all : List Ln), MergeOf all out → out.length ≤ all.length := by
  intro out
  induction out with
  | nil => intro all _; simp
  | cons x r ih =>
    intro all h
    have hu := h.up
    rw [List.pairwise_cons] at hu
    have hm : MergeOf (all.filter fun y => decide (¬ lk x y)) r := by
      refine ⟨hu.2, fun z => ?_, fun y hy => ?_⟩
      · constructor
        · rintro ⟨q, hq, h2⟩
          obtain ⟨y, hy, h3⟩ := (h.keys z).1 ⟨q, List.mem_cons_of_mem _ hq, h2⟩
          refine ⟨y, List.mem_filter.2 ⟨hy, ?_⟩, h3⟩
          rw [decide_eq_true_eq]
          exact fun e => lt_not (hu.1 q hq) (lk_trans (lk_trans e (lk_symm h3)) h2)
        · rintro ⟨y, hy, h2⟩
          rw [List.mem_filter, decide_eq_true_eq] at hy
          have := (h.keys z).2 ⟨y, hy.1, h2⟩
          rw [has_cons] at this
          exact this.resolve_left (fun e => hy.2 (lk_trans (lk_symm e) h2))
      · rw [h.blocks y (List.mem_cons_of_mem _ hy)]
        unfold sumK likes
        rw [List.filter_filter]
        congr 2
        apply List.filter_congr
        intro q _
        by_cases e : lk y q
        · have : ¬ lk x q := fun e2 => lt_not (hu.1 y hy) (lk_trans e2 (lk_symm e))
          simp [e, this]
        · simp [e]
    have h1 := ih _ hm
    obtain ⟨y, hy, h2⟩ := (h.keys x).1 ⟨x, List.mem_cons_self .., lk_refl x⟩
    have h3 : (all.filter fun y => decide (¬ lk x y)).length < all.length := by
      rw [List.length_filter_lt_length_iff_exists]
      exact ⟨y, hy, by simpa using h2⟩
    rw [List.length_cons]
    omega
theorem merge_in {out all : List Ln} (h : MergeOf all out) (hi : LnsI all) (hk : okM all) : LnsI out := by
  intro x hx
  obtain ⟨y, hy, h2⟩ := (h.keys x).1 ⟨x, hx, lk_refl x⟩
  obtain ⟨a1, a2, a3⟩ := hi y hy
  refine ⟨by rw [h2.1]; exact a1, ?_, by rw [h2.2]; exact a3⟩
  rw [h.blocks x hx, sumK_lk h2]
  exact (isInt_iff _).1 (hk y hy)
set_option maxRecDepth 100000 in
set_option maxHeartbeats 4000000 in
theorem merges_any (a b : Option Addr) (la ca lb cb : Nat) (A B : List Ln) (w : World) (h1 : LinesR w a la ca A) (h2 : LinesR w b lb cb B) :
    Calls Try.prog 3 #[.slice a la ca, .slice b lb cb] w fun e w' => e = .returned (.bool true) ∧ Only (fun _ => False) w w' := by
  obtain ⟨i0, hi, hz0, hz1, hz2⟩ := info_parts info_line
  have HF1 := Lib.hid (few_any a la ca (min la 12) A w h1 rfl)
  have HF2 := Lib.hid (fun w' (ho : Only (fun _ => False) w w') => few_any b lb cb (min lb 12) B w' ⟨h2.1.only ho (fun _ _ f => f), h2.2⟩ rfl)
  have hA : LnsI (A.take (min la 12)) := fun x hx => h1.2.1 x (List.mem_of_mem_take hx)
  have hB : LnsI (B.take (min lb 12)) := fun x hx => h2.2.1 x (List.mem_of_mem_take hx)
  have hn : min la 12 ≤ 12 := by omega
  have hm : min lb 12 ≤ 12 := by omega
  clear h1 h2
  generalize A.take (min la 12) = X at *
  generalize B.take (min lb 12) = Y at *
  generalize min la 12 = n at *
  generalize min lb 12 = m at *
  have hAB : LnsI (X ++ Y) := fun x hx => (List.mem_append.1 hx).elim (hA x) (hB x)
  have HPM : Hid ((Y ++ X).Perm (X ++ Y)) := Lib.hid List.perm_append_comm
  have HA := Lib.hid hA
  have HB := Lib.hid hB
  have HAB := Lib.hid hAB
  clear hA hB hAB
  go_enter Try.func3, Try.ntmps3
  go_wp2_with fail
  refine HF1.out.mono ?_
  rintro _ w1 ⟨a1, c1, rfl, hr, ho⟩
  have HR1 := Lib.hid hr
  have HO1 := Lib.hid ho
  clear hr ho HF1
  go_wp2_with fail
  refine (HF2.out w1 HO1.out).mono ?_
  rintro _ w2 ⟨a2, c2, rfl, hr, ho⟩
  have HRX : Hid (∀ w', Only (fun _ => False) w2 w' → ReadsN w' a1 n X) := Lib.hid (fun w' h => HR1.out.only (ho.trans h) (fun _ _ f => f))
  have HRY : Hid (∀ w', Only (fun _ => False) w2 w' → ReadsN w' a2 m Y) := Lib.hid (fun w' h => hr.only h (fun _ _ f => f))
  have HO2 := Lib.hid (HO1.out.trans ho)
  have hL : (X ++ Y).length ≤ 24 := by rw [List.length_append, HR1.out.1, hr.1]; omega
  have HL := Lib.hid hL
  have HLX : Hid (X.length = n) := Lib.hid HR1.out.1
  clear hr ho HF2 HR1 HO1 hL
  have HM1 := Lib.hid (merge_any a1 a2 n m c1 c2 X Y w2 (HRX.out _ (Only.refl _ _)) (HRY.out _ (Only.refl _ _)) (by omega) (by omega) HA.out HB.out)
  have HM2 := Lib.hid (fun w' (ho : Only (fun _ => False) w2 w') => rmerge_any a1 a2 n m c1 c2 X Y w' (HRX.out _ ho) (HRY.out _ ho) (by omega) (by omega) HA.out HB.out)
  have HM3 := Lib.hid (fun w' (ho : Only (fun _ => False) w2 w') => merge_any a2 a1 m n c2 c1 Y X w' (HRY.out _ ho) (HRX.out _ ho) (by omega) (by omega) HB.out HA.out)
  have HOW : Hid (∀ w' : World, OwnN (w'.alloc (.cells #[] 32)) (.slice (some ⟨w'.heap.size, 0, none⟩) 0 0) []) := Lib.hid (fun w' => World.ownsRow_lit w' #[] 0 (Nat.zero_le _) (by decide) rfl)
  by_cases hok : okM (X ++ Y)
  · have hok2 : okM (Y ++ X) := (okM_perm HPM.out).2 hok
    have h1 : Calls Try.prog 5 #[.slice a1 n c1, .slice a2 m c2] w2 fun e w' => ∃ out a cap, e = .returned (.tuple #[.slice a out.length cap, .bool true]) ∧ MergeOf (X ++ Y) out ∧ ReadsN w' a out.length out ∧ Only (fun _ => False) w2 w' :=
      HM1.out.mono (fun e w' h => by
        rcases h with ⟨_, out, a, cap, h1, h2, h3, _, h4⟩ | ⟨h, _⟩
        · exact ⟨out, a, cap, h1, h2, h3, h4⟩
        · exact absurd hok h)
    have h2 : ∀ w', Only (fun _ => False) w2 w' → Calls Try.prog 6 #[.slice a1 n c1, .slice a2 m c2] w' fun e w'' => ∃ out a cap, e = .returned (.tuple #[.slice a out.length cap, .bool true]) ∧ MergeOf (X ++ Y) out ∧ ReadsN w'' a out.length out ∧ Only (fun _ => False) w' w'' := fun w' ho =>
      (HM2.out w' ho).mono (fun e w' h => by
        rcases h with ⟨_, out, a, cap, h1, h2, h3, _, h4⟩ | ⟨h, _⟩
        · exact ⟨out, a, cap, h1, h2, h3, h4⟩
        · exact absurd hok h)
    have h3 : ∀ w', Only (fun _ => False) w2 w' → Calls Try.prog 5 #[.slice a2 m c2, .slice a1 n c1] w' fun e w'' => ∃ out a cap, e = .returned (.tuple #[.slice a out.length cap, .bool true]) ∧ MergeOf (X ++ Y) out ∧ ReadsN w'' a out.length out ∧ Only (fun _ => False) w' w'' := fun w' ho =>
      (HM3.out w' ho).mono (fun e w' h => by
        rcases h with ⟨_, out, a, cap, h1, h2, h3, _, h4⟩ | ⟨h, _⟩
        · exact ⟨out, a, cap, h1, h2.perm HPM.out, h3, h4⟩
        · exact absurd hok2 h)
    have HOK := Lib.hid hok
    have H1 := Lib.hid h1
    have H2 := Lib.hid h2
    have H3 := Lib.hid h3
    clear h1 h2 h3 hok hok2 HM1 HM2 HM3
    go_wp2_with fail
    refine H1.out.mono ?_
    rintro _ w3 ⟨out, o1, k1, rfl, hm1, hr, ho⟩
    have HMO := Lib.hid hm1
    have hol : out.length ≤ 1000 := by have := merge_len _ _ hm1; have := HL.out; omega
    have HR1 := Lib.hid hr
    have HO3 := Lib.hid ho
    have HSB : Hid (sumB out = sumB (X ++ Y)) := Lib.hid hm1.sum
    have HBI : Hid (LnsI out) := Lib.hid (merge_in hm1 HAB.out HOK.out)
    clear hm1 hr ho H1
    have H2' := Lib.hid (H2.out w3 HO3.out)
    obtain ⟨ol, hole⟩ : ∃ x, out.length = x := ⟨_, rfl⟩
    rw [hole] at hol HR1 ⊢
    have HOL := Lib.hid hole
    clear hole
    go_wp2_with fail
    refine H2'.out.mono ?_
    rintro _ w4 ⟨out2, o2, k2, rfl, hm2, hr, ho⟩
    obtain rfl : out = out2 := HMO.out.uniq hm2
    have HR2 := Lib.hid hr
    have HO4 := Lib.hid (HO3.out.trans ho)
    have HR12 := Lib.hid (HR1.out.only ho (fun _ _ f => f))
    clear hm2 hr ho H2 H2' HR1 HO3
    have H3' := Lib.hid (H3.out w4 HO4.out)
    rw [HOL.out] at HR2 ⊢
    go_wp2_with fail
    refine H3'.out.mono ?_
    rintro _ w5 ⟨out3, o3, k3, rfl, hm3, hr, ho⟩
    obtain rfl : out = out3 := HMO.out.uniq hm3
    rw [HOL.out] at hr ⊢
    have HR3 := Lib.hid hr
    have HO5 := Lib.hid (HO4.out.trans ho)
    have HT1 : Hid (∀ w', Only (fun _ => False) w5 w' → ReadsN w' o1 ol out) := Lib.hid (fun w' h => HR12.out.only (ho.trans h) (fun _ _ f => f))
    have HT2 : Hid (∀ w', Only (fun _ => False) w5 w' → ReadsN w' o2 ol out) := Lib.hid (fun w' h => HR2.out.only (ho.trans h) (fun _ _ f => f))
    have HT3 : Hid (∀ w', Only (fun _ => False) w5 w' → ReadsN w' o3 ol out) := Lib.hid (fun w' h => HR3.out.only h (fun _ _ f => f))
    clear hm3 hr ho H3 H3' HR2 HR12 HR3 HO4
    go_wp2_with fail
    refine (tiers_any _).mono ?_
    rintro _ w6 ⟨rfl, ho⟩
    have HO6 := Lib.hid ho
    clear ho
    go_wp2_with fail
    refine (lsame_yes o1 o2 ol k1 k2 out w6 (HT1.out _ HO6.out) (HT2.out _ HO6.out) hol).mono ?_
    rintro _ w7 ⟨rfl, ho⟩
    have HO7 := Lib.hid (HO6.out.trans ho)
    clear ho HO6
    go_wp2_with fail
    refine (lsame_yes o3 o1 ol k3 k1 out w7 (HT3.out _ HO7.out) (HT1.out _ HO7.out) hol).mono ?_
    rintro _ w8 ⟨rfl, ho⟩
    have HO8 := Lib.hid (HO7.out.trans ho)
    clear ho HO7
    have HBL := Lib.hid (blocks_any o1 ol k1 out w8 (HT1.out _ HO8.out) HBI.out (by omega))
    unfold BlocksAt at HBL
    rw [HSB.out] at HBL
    go_wp2_with fail
    refine HBL.out.mono ?_
    rintro _ w9 ⟨rfl, ho⟩
    have HO9 := Lib.hid (HO5.out.trans (HO8.out.trans ho))
    clear ho HO8 HBL HT1 HT2 HT3
    have HX9 := Lib.hid (HRX.out _ HO9.out)
    have HOW9 := Lib.hid (HOW.out w9)
    go_wp2_with (at_builtin; refine append_lines rfl _ _ rfl _ _ rfl HOW9.out a1 n c1 X rfl (HX9.out.only (S := fun _ => False) ((Only.refl _ w9).alloc (.cells #[] 32)) (fun _ _ f => f)) (by rw [List.length_nil]; omega) ?_)
    intro v3 w10 hown1 hgrow1 hk1
    have HO10 : Hid (Only (fun _ => False) w9 w10) := Lib.hid (((Only.refl _ w9).alloc _).then (Only.of_grown hgrow1) (fun q hq e => by
      have : w9.heap.size = q := by simpa [Value.ownBlock] using e
      omega))
    have HB1 : Hid (∀ q, v3.ownBlock = some q → w9.heap.size ≤ q) := Lib.hid (fun q hq => by
      rcases hk1 q hq with e | e
      · have : w9.heap.size = q := by simpa [Value.ownBlock] using e
        omega
      · omega)
    have HOWa := Lib.hid hown1
    clear hown1 hgrow1 hk1
    go_wp2_with (at_builtin; refine append_lines rfl _ _ rfl v3 X rfl HOWa.out a2 m c2 Y rfl (HRY.out _ (HO9.out.trans HO10.out)) (by rw [HLX.out]; omega) ?_)
    intro v4 w11 hown2 hgrow2 hk2
    have HO11 : Hid (Only (fun _ => False) w w11) := Lib.hid ((HO2.out.trans HO9.out).trans (HO10.out.then (Only.of_grown hgrow2) (fun q hq e => by have := HB1.out q e; omega)))
    obtain ⟨va, cs, rfl, hrd, -⟩ := own_readsN hown2
    have HRB := Lib.hid (rblocks_any va (X ++ Y).length cs (X ++ Y) w11 hrd HAB.out (by have := HL.out; omega))
    unfold BlocksAt at HRB
    generalize (X ++ Y).length = xl at *
    generalize intOr (sumB (X ++ Y)) = s1 at *
    generalize isInt (sumB (X ++ Y)) = s2 at *
    clear hown2 hgrow2 hk2 hrd
    go_wp2_with fail
    refine HRB.out.mono ?_
    rintro _ w12 ⟨rfl, ho⟩
    have HO12 := Lib.hid (HO11.out.trans ho)
    clear ho
    have e1 : (s1 == s1) = true := by simp
    have e2 : (s2 == s2) = true := by simp
    go_wp2_with fail
    go_ret
    exact ⟨by simp, HO12.out⟩
  · have hok2 : ¬ okM (Y ++ X) := fun h => hok ((okM_perm HPM.out).1 h)
    have h1 : Calls Try.prog 5 #[.slice a1 n c1, .slice a2 m c2] w2 fun e w' => e = .returned (.tuple #[.slice none 0 0, .bool false]) ∧ Only (fun _ => False) w2 w' :=
      HM1.out.mono (fun e w' h => by
        rcases h with ⟨h, _⟩ | ⟨_, h⟩
        · exact absurd h hok
        · exact h)
    have h2 : ∀ w', Only (fun _ => False) w2 w' → Calls Try.prog 6 #[.slice a1 n c1, .slice a2 m c2] w' fun e w'' => e = .returned (.tuple #[.slice none 0 0, .bool false]) ∧ Only (fun _ => False) w' w'' := fun w' ho =>
      (HM2.out w' ho).mono (fun e w' h => by
        rcases h with ⟨h, _⟩ | ⟨_, h⟩
        · exact absurd h hok
        · exact h)
    have h3 : ∀ w', Only (fun _ => False) w2 w' → Calls Try.prog 5 #[.slice a2 m c2, .slice a1 n c1] w' fun e w'' => e = .returned (.tuple #[.slice none 0 0, .bool false]) ∧ Only (fun _ => False) w' w'' := fun w' ho =>
      (HM3.out w' ho).mono (fun e w' h => by
        rcases h with ⟨h, _⟩ | ⟨_, h⟩
        · exact absurd h hok2
        · exact h)
    have H1 := Lib.hid h1
    have H2 := Lib.hid h2
    have H3 := Lib.hid h3
    have HNN : Hid (∀ w', ReadsN w' none 0 []) := Lib.hid (fun w' => ⟨rfl, .inl rfl⟩)
    clear h1 h2 h3 hok hok2 HM1 HM2 HM3
    go_wp2_with fail
    refine H1.out.mono ?_
    rintro _ w3 ⟨rfl, ho⟩
    have HO3 := Lib.hid ho
    clear ho H1
    go_wp2_with fail
    refine (H2.out w3 HO3.out).mono ?_
    rintro _ w4 ⟨rfl, ho⟩
    have HO4 := Lib.hid (HO3.out.trans ho)
    clear ho H2 HO3
    go_wp2_with fail
    refine (H3.out w4 HO4.out).mono ?_
    rintro _ w5 ⟨rfl, ho⟩
    have HO5 := Lib.hid (HO4.out.trans ho)
    clear ho H3 HO4
    go_wp2_with fail
    refine (tiers_any _).mono ?_
    rintro _ w6 ⟨rfl, ho⟩
    have HO6 := Lib.hid (HO5.out.trans ho)
    clear ho HO5
    go_wp2_with fail
    refine (lsame_yes none none 0 0 0 [] w6 (HNN.out _) (HNN.out _) (by omega)).mono ?_
    rintro _ w7 ⟨rfl, ho⟩
    have HO7 := Lib.hid (HO6.out.trans ho)
    clear ho HO6
    go_wp2_with fail
    refine (lsame_yes none none 0 0 0 [] w7 (HNN.out _) (HNN.out _) (by omega)).mono ?_
    rintro _ w8 ⟨rfl, ho⟩
    have HO8 := Lib.hid (HO7.out.trans ho)
    clear ho HO7
    have HBL := Lib.hid (blocks_any none 0 0 [] w8 (HNN.out _) (fun x hx => by cases hx) (by omega))
    unfold BlocksAt at HBL
    generalize intOr (sumB []) = r1 at *
    generalize isInt (sumB []) = r2 at *
    go_wp2_with fail
    refine HBL.out.mono ?_
    rintro _ w9 ⟨rfl, ho⟩
    have HO9 := Lib.hid (HO8.out.trans ho)
    clear ho HO8 HBL
    have HX9 := Lib.hid (HRX.out _ HO9.out)
    have HOW9 := Lib.hid (HOW.out w9)
    go_wp2_with (at_builtin; refine append_lines rfl _ _ rfl _ _ rfl HOW9.out a1 n c1 X rfl (HX9.out.only (S := fun _ => False) ((Only.refl _ w9).alloc (.cells #[] 32)) (fun _ _ f => f)) (by rw [List.length_nil]; omega) ?_)
    intro v3 w10 hown1 hgrow1 hk1
    have HO10 : Hid (Only (fun _ => False) w9 w10) := Lib.hid (((Only.refl _ w9).alloc _).then (Only.of_grown hgrow1) (fun q hq e => by
      have : w9.heap.size = q := by simpa [Value.ownBlock] using e
      omega))
    have HB1 : Hid (∀ q, v3.ownBlock = some q → w9.heap.size ≤ q) := Lib.hid (fun q hq => by
      rcases hk1 q hq with e | e
      · have : w9.heap.size = q := by simpa [Value.ownBlock] using e
        omega
      · omega)
    have HOWa := Lib.hid hown1
    clear hown1 hgrow1 hk1
    go_wp2_with (at_builtin; refine append_lines rfl _ _ rfl v3 X rfl HOWa.out a2 m c2 Y rfl (HRY.out _ (HO9.out.trans HO10.out)) (by rw [HLX.out]; omega) ?_)
    intro v4 w11 hown2 hgrow2 hk2
    have HO11 : Hid (Only (fun _ => False) w w11) := Lib.hid ((HO2.out.trans HO9.out).trans (HO10.out.then (Only.of_grown hgrow2) (fun q hq e => by have := HB1.out q e; omega)))
    obtain ⟨va, cs, rfl, hrd, -⟩ := own_readsN hown2
    have HRB := Lib.hid (rblocks_any va (X ++ Y).length cs (X ++ Y) w11 hrd HAB.out (by have := HL.out; omega))
    unfold BlocksAt at HRB
    generalize (X ++ Y).length = xl at *
    generalize intOr (sumB (X ++ Y)) = s1 at *
    generalize isInt (sumB (X ++ Y)) = s2 at *
    clear hown2 hgrow2 hk2 hrd
    go_wp2_with fail
    refine HRB.out.mono ?_
    rintro _ w12 ⟨rfl, ho⟩
    have HO12 := Lib.hid (HO11.out.trans ho)
    clear ho
    go_wp2_with fail
    go_ret
    exact ⟨by simp, HO12.out⟩
theorem merges_walk (a b : Option Addr) (la ca lb cb : Nat) (w : World) (h1 : ∃ ls, LinesR w a la ca ls) (h2 : ∃ ls, LinesR w b lb cb ls) :
    Calls Try.prog 3 #[.slice a la ca, .slice b lb cb] w fun e w' => e = .returned (.bool true) ∧ Below w.heap.size w w' := by
  obtain ⟨A, hA⟩ := h1
  obtain ⟨B, hB⟩ := h2
  exact (merges_any a b la ca lb cb A B w hA hB).mono fun _ _ ⟨p, q⟩ => ⟨p, q.none⟩
end Go.Proofs.Ytdfghdccbpnohaa.tirw
