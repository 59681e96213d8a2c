/- The document's tree: its calls that change it. -/
import Derived.Test.YtginfnceindojaaTrR
namespace Go.Proofs.Ytginfnceindojaa.tre
open Go.RowKit mem
set_option linter.unusedVariables false

theorem und_take {T : List Nd} (ht : Tok T) (par kind : Int) : (undE T par kind ≠ 0 ∧ takE T par kind = undE T par kind ∧ undE T par kind ≠ 16) ∨ (undE T par kind = 0 ∧ ∃ i : Nat, par = (i : Int) + 1 ∧ i < 32 ∧ (T.getD (i + 1) default).kind = kind - 1 ∧ takE T par kind = if (T.getD (i + 1) default).cl = true then 16 else 0) := by
  unfold undE takE
  by_cases hb : hasB T par = false
  · rw [if_pos hb, if_pos hb]; exact .inl ⟨by decide, rfl, by decide⟩
  · rw [if_neg hb, if_neg hb]
    have hb' : hasB T par = true := by simpa using hb
    obtain ⟨m, rfl, m1, m2⟩ := hasB_lt hb'
    obtain ⟨i, rfl⟩ : ∃ i, m = i + 1 := ⟨m - 1, by omega⟩
    rw [got_has hb']
    by_cases hk : (T.getD (i + 1) default).kind ≠ kind - 1
    · rw [if_pos hk, if_pos hk]; exact .inl ⟨by decide, rfl, by decide⟩
    · rw [if_neg hk, if_neg hk]
      exact .inr ⟨rfl, i, by omega, by omega, by simpa using hk, rfl⟩
set_option maxRecDepth 100000 in
set_option maxHeartbeats 4000000 in
theorem rcreate_any (p : Nat) (T : List Nd) (ni np nk nl : Int) (nc : Bool) (w : World) (h : RAt w p T) (ht : Tok T) (hn : Nul T) : Calls Try.prog 55 #[.pointer (some ⟨p, 0, none⟩), .int .i64 ni, .int .i64 np, .int .i64 nk, .int .i64 nl, .bool nc] w (RDid p (putT T ⟨ni, np, nk, nl, nc⟩) (putE T ⟨ni, np, nk, nl, nc⟩) w) := by
  have HT := Lib.hid h
  have HTK := Lib.hid ht
  have HNU := Lib.hid hn
  clear h ht hn
  by_cases hi : 1 ≤ ni ∧ ni ≤ 32
  · obtain ⟨i1, i2⟩ := hi
    by_cases hl : -1 ≤ nl ∧ nl ≤ 9007199254740992
    · obtain ⟨l1, l2⟩ := hl
      by_cases hkd : 1 ≤ nk ∧ nk ≤ 3
      · obtain ⟨k1, k2⟩ := hkd
        obtain ⟨j, rfl⟩ : ∃ j : Nat, ni = (j : Int) + 1 := ⟨(ni - 1).toNat, by omega⟩
        have hj : j < 32 := by omega
        have hj2 : (j : Int) < 32 := by omega
        have hj0 : (0 : Int) ≤ j := by omega
        have hwj : IntKind.i64.wrap (j : Int) = (j : Int) := IntWalk.i64_in _ (by omega)
        have HH := Lib.hid (there_any p T ((j : Int) + 1) w HT.out HTK.out HNU.out)
        have HRM : Hid (((∃ u, w.cell? ⟨p, j * 4, none⟩ = some u) ∧ (∃ u, w.cell? ⟨p, j * 4 + 1, none⟩ = some u) ∧ (∃ u, w.cell? ⟨p, j * 4 + 2, none⟩ = some u) ∧ ∃ u, w.cell? ⟨p, j * 4 + 3, none⟩ = some u) ∧ w.frozen? ⟨p, j * 4, none⟩ = false ∧ w.frozen? ⟨p, j * 4 + 1, none⟩ = false ∧ w.frozen? ⟨p, j * 4 + 2, none⟩ = false ∧ w.frozen? ⟨p, j * 4 + 3, none⟩ = false) := Lib.hid (by
          obtain ⟨h0, h1, h2, h3⟩ := HT.out.1 j hj
          exact ⟨⟨⟨_, h0⟩, ⟨_, h1⟩, ⟨_, h2⟩, ⟨_, h3⟩⟩, HT.out.2 _ (by omega), HT.out.2 _ (by omega), HT.out.2 _ (by omega), HT.out.2 _ (by omega)⟩)
        by_cases hm : np = 0 ↔ nk = 1
        · by_cases hk1 : nk = 1
          · subst hk1
            obtain rfl := hm.2 rfl
            have HM := Lib.hid hm
            clear hm
            by_cases hb : hasB T ((j : Int) + 1) = true
            · have HB := Lib.hid hb
              rw [hb] at HH
              clear hb
              have hE : putE T ⟨(j : Int) + 1, 0, 1, nl, nc⟩ = 8 := by unfold putE; dsimp only; rw [if_neg (fun q => q ⟨i1, i2⟩), if_neg (fun q => q ⟨l1, l2⟩), if_neg (fun q => q ⟨k1, k2⟩), if_neg (fun q => q HM.out), if_pos HB.out]
              have hT : putT T ⟨(j : Int) + 1, 0, 1, nl, nc⟩ = T := by unfold putT; rw [hE]; rfl
              rw [hE, hT]
              clear hE hT
              go_enter Try.func55, Try.ntmps55
              go_wp2_with fail
              refine (rlimit_yes _ _ l1 l2).mono ?_
              rintro _ _ ⟨rfl, rfl⟩
              go_wp2_with fail
              refine (HH.out).mono ?_
              rintro _ _ ⟨rfl, rfl⟩
              go_wp2_with fail
              go_ret
              exact ⟨rfl, HT.out, Only.refl _ _⟩
            · have HB : Hid (hasB T ((j : Int) + 1) = false) := Lib.hid (by simpa using hb)
              rw [HB.out] at HH
              clear hb
              have hE : putE T ⟨(j : Int) + 1, 0, 1, nl, nc⟩ = 0 := by unfold putE; dsimp only; rw [if_neg (fun q => q ⟨i1, i2⟩), if_neg (fun q => q ⟨l1, l2⟩), if_neg (fun q => q ⟨k1, k2⟩), if_neg (fun q => q HM.out), if_neg (by rw [HB.out]; simp), if_pos rfl]
              have hT : putT T ⟨(j : Int) + 1, 0, 1, nl, nc⟩ = T.set (j + 1) ⟨(j : Int) + 1, 0, 1, nl, nc⟩ := by unfold putT; rw [hE, if_pos rfl]; dsimp only; rw [show ((j : Int) + 1).toNat = j + 1 by omega]
              rw [hE, hT]
              clear hE hT
              have HST : Hid (RAt (put4 w p (j * 4) (.int .i64 0) (.int .i64 1) (.int .i64 nl) (.bool nc)) p (T.set (j + 1) ⟨(j : Int) + 1, 0, 1, nl, nc⟩)) := Lib.hid (HT.out.put HTK.out.len j ⟨(j : Int) + 1, 0, 1, nl, nc⟩ hj)
              have HON := Lib.hid (put4_only w p (j * 4) (.int .i64 0) (.int .i64 1) (.int .i64 nl) (.bool nc))
              unfold put4 at HST HON
              obtain ⟨⟨⟨u0, y0⟩, ⟨u1, y1⟩, ⟨u2, y2⟩, ⟨u3, y3⟩⟩, f0, f1, f2, f3⟩ := HRM.out
              go_enter Try.func55, Try.ntmps55
              go_wp2_with fail
              refine (rlimit_yes _ _ l1 l2).mono ?_
              rintro _ _ ⟨rfl, rfl⟩
              go_wp2_with fail
              refine (HH.out).mono ?_
              rintro _ _ ⟨rfl, rfl⟩
              go_wp2_with fail
              go_ret
              exact ⟨rfl, HST.out, HON.out⟩
          · have hp0 : np ≠ 0 := fun e => hk1 (hm.1 e)
            have q1 : (np == 0) = false := by simpa using hp0
            have q1b : (np != 0) = true := by simpa using hp0
            have q2 : (nk == 1) = false := by simpa using hk1
            have HK1 := Lib.hid hk1
            have HM := Lib.hid hm
            clear hm hk1 hp0
            by_cases hb : hasB T ((j : Int) + 1) = true
            · have HB := Lib.hid hb
              rw [hb] at HH
              clear hb
              have hE : putE T ⟨(j : Int) + 1, np, nk, nl, nc⟩ = 8 := by unfold putE; dsimp only; rw [if_neg (fun q => q ⟨i1, i2⟩), if_neg (fun q => q ⟨l1, l2⟩), if_neg (fun q => q ⟨k1, k2⟩), if_neg (fun q => q HM.out), if_pos HB.out]
              have hT : putT T ⟨(j : Int) + 1, np, nk, nl, nc⟩ = T := by unfold putT; rw [hE]; rfl
              rw [hE, hT]
              clear hE hT
              go_enter Try.func55, Try.ntmps55
              go_wp2_with fail
              refine (rlimit_yes _ _ l1 l2).mono ?_
              rintro _ _ ⟨rfl, rfl⟩
              go_wp2_with fail
              refine (HH.out).mono ?_
              rintro _ _ ⟨rfl, rfl⟩
              go_wp2_with fail
              go_ret
              exact ⟨rfl, HT.out, Only.refl _ _⟩
            · have HB : Hid (hasB T ((j : Int) + 1) = false) := Lib.hid (by simpa using hb)
              rw [HB.out] at HH
              clear hb
              have HUN := Lib.hid (under_any p T nk np w HT.out HTK.out HNU.out k1 k2)
              rcases und_take HTK.out np nk with ⟨hu, t1, t2⟩ | ⟨hu, i, rfl, hi, hc, htk⟩
              · generalize undE T np nk = te at *
                have HTE : Hid (takE T np nk = te ∧ te ≠ 16 ∧ te ≠ 0) := Lib.hid ⟨t1, t2, hu⟩
                have q5 : (te != 0) = true := by simpa using hu
                clear hu t1 t2
                have hE : putE T ⟨(j : Int) + 1, np, nk, nl, nc⟩ = te := by unfold putE; dsimp only; rw [if_neg (fun q => q ⟨i1, i2⟩), if_neg (fun q => q ⟨l1, l2⟩), if_neg (fun q => q ⟨k1, k2⟩), if_neg (fun q => q HM.out), if_neg (by rw [HB.out]; simp), if_neg HK1.out, HTE.out.1, if_neg (fun q => HTE.out.2.1 q.1)]
                have hT : putT T ⟨(j : Int) + 1, np, nk, nl, nc⟩ = T := by unfold putT; rw [hE, if_neg HTE.out.2.2]
                rw [hE, hT]
                clear hE hT
                go_enter Try.func55, Try.ntmps55
                go_wp2_with fail
                refine (rlimit_yes _ _ l1 l2).mono ?_
                rintro _ _ ⟨rfl, rfl⟩
                go_wp2_with fail
                refine (HH.out).mono ?_
                rintro _ _ ⟨rfl, rfl⟩
                go_wp2_with fail
                refine HUN.out.mono ?_
                rintro _ _ ⟨rfl, rfl⟩
                go_wp2_with fail
                go_ret
                exact ⟨rfl, HT.out, Only.refl _ _⟩
              · rw [hu] at HUN
                have hi2 : (i : Int) < 32 := by omega
                have hi0 : (0 : Int) ≤ i := by omega
                have hwi : IntKind.i64.wrap (i : Int) = (i : Int) := IntWalk.i64_in _ (by omega)
                have d3 := (HT.out.1 i hi).2.2.2
                have HTE := Lib.hid htk
                generalize (T.getD (i + 1) default).cl = pc at *
                clear hu htk hc
                cases pc
                · have hE : putE T ⟨(j : Int) + 1, ((i : Int) + 1), nk, nl, nc⟩ = 0 := by unfold putE; dsimp only; rw [if_neg (fun q => q ⟨i1, i2⟩), if_neg (fun q => q ⟨l1, l2⟩), if_neg (fun q => q ⟨k1, k2⟩), if_neg (fun q => q HM.out), if_neg (by rw [HB.out]; simp), if_neg HK1.out, show takE T ((i : Int) + 1) nk = 0 from HTE.out, if_neg (by simp)]
                  have hT : putT T ⟨(j : Int) + 1, ((i : Int) + 1), nk, nl, nc⟩ = T.set (j + 1) ⟨(j : Int) + 1, ((i : Int) + 1), nk, nl, nc⟩ := by unfold putT; rw [hE, if_pos rfl]; dsimp only; rw [show ((j : Int) + 1).toNat = j + 1 by omega]
                  rw [hE, hT]
                  clear hE hT
                  have HST : Hid (RAt (put4 w p (j * 4) (.int .i64 ((i : Int) + 1)) (.int .i64 nk) (.int .i64 nl) (.bool nc)) p (T.set (j + 1) ⟨(j : Int) + 1, ((i : Int) + 1), nk, nl, nc⟩)) := Lib.hid (HT.out.put HTK.out.len j ⟨(j : Int) + 1, ((i : Int) + 1), nk, nl, nc⟩ hj)
                  have HON := Lib.hid (put4_only w p (j * 4) (.int .i64 ((i : Int) + 1)) (.int .i64 nk) (.int .i64 nl) (.bool nc))
                  unfold put4 at HST HON
                  obtain ⟨⟨⟨u0, y0⟩, ⟨u1, y1⟩, ⟨u2, y2⟩, ⟨u3, y3⟩⟩, f0, f1, f2, f3⟩ := HRM.out
                  go_enter Try.func55, Try.ntmps55
                  go_wp2_with fail
                  refine (rlimit_yes _ _ l1 l2).mono ?_
                  rintro _ _ ⟨rfl, rfl⟩
                  go_wp2_with fail
                  refine (HH.out).mono ?_
                  rintro _ _ ⟨rfl, rfl⟩
                  go_wp2_with fail
                  refine HUN.out.mono ?_
                  rintro _ _ ⟨rfl, rfl⟩
                  go_wp2_with fail
                  go_ret
                  exact ⟨rfl, HST.out, HON.out⟩
                · cases nc
                  · have hE : putE T ⟨(j : Int) + 1, ((i : Int) + 1), nk, nl, false⟩ = 16 := by unfold putE; dsimp only; rw [if_neg (fun q => q ⟨i1, i2⟩), if_neg (fun q => q ⟨l1, l2⟩), if_neg (fun q => q ⟨k1, k2⟩), if_neg (fun q => q HM.out), if_neg (by rw [HB.out]; simp), if_neg HK1.out, show takE T ((i : Int) + 1) nk = 16 from HTE.out, if_neg (by simp)]
                    have hT : putT T ⟨(j : Int) + 1, ((i : Int) + 1), nk, nl, false⟩ = T := by unfold putT; rw [hE]; rfl
                    rw [hE, hT]
                    clear hE hT
                    go_enter Try.func55, Try.ntmps55
                    go_wp2_with fail
                    refine (rlimit_yes _ _ l1 l2).mono ?_
                    rintro _ _ ⟨rfl, rfl⟩
                    go_wp2_with fail
                    refine (HH.out).mono ?_
                    rintro _ _ ⟨rfl, rfl⟩
                    go_wp2_with fail
                    refine HUN.out.mono ?_
                    rintro _ _ ⟨rfl, rfl⟩
                    go_wp2_with fail
                    go_ret
                    exact ⟨rfl, HT.out, Only.refl _ _⟩
                  · have hE : putE T ⟨(j : Int) + 1, ((i : Int) + 1), nk, nl, true⟩ = 0 := by unfold putE; dsimp only; rw [if_neg (fun q => q ⟨i1, i2⟩), if_neg (fun q => q ⟨l1, l2⟩), if_neg (fun q => q ⟨k1, k2⟩), if_neg (fun q => q HM.out), if_neg (by rw [HB.out]; simp), if_neg HK1.out, show takE T ((i : Int) + 1) nk = 16 from HTE.out, if_pos ⟨rfl, rfl⟩]
                    have hT : putT T ⟨(j : Int) + 1, ((i : Int) + 1), nk, nl, true⟩ = T.set (j + 1) ⟨(j : Int) + 1, ((i : Int) + 1), nk, nl, true⟩ := by unfold putT; rw [hE, if_pos rfl]; dsimp only; rw [show ((j : Int) + 1).toNat = j + 1 by omega]
                    rw [hE, hT]
                    clear hE hT
                    have HST : Hid (RAt (put4 w p (j * 4) (.int .i64 ((i : Int) + 1)) (.int .i64 nk) (.int .i64 nl) (.bool true)) p (T.set (j + 1) ⟨(j : Int) + 1, ((i : Int) + 1), nk, nl, true⟩)) := Lib.hid (HT.out.put HTK.out.len j ⟨(j : Int) + 1, ((i : Int) + 1), nk, nl, true⟩ hj)
                    have HON := Lib.hid (put4_only w p (j * 4) (.int .i64 ((i : Int) + 1)) (.int .i64 nk) (.int .i64 nl) (.bool true))
                    unfold put4 at HST HON
                    obtain ⟨⟨⟨u0, y0⟩, ⟨u1, y1⟩, ⟨u2, y2⟩, ⟨u3, y3⟩⟩, f0, f1, f2, f3⟩ := HRM.out
                    go_enter Try.func55, Try.ntmps55
                    go_wp2_with fail
                    refine (rlimit_yes _ _ l1 l2).mono ?_
                    rintro _ _ ⟨rfl, rfl⟩
                    go_wp2_with fail
                    refine (HH.out).mono ?_
                    rintro _ _ ⟨rfl, rfl⟩
                    go_wp2_with fail
                    refine HUN.out.mono ?_
                    rintro _ _ ⟨rfl, rfl⟩
                    go_wp2_with fail
                    go_ret
                    exact ⟨rfl, HST.out, HON.out⟩
        · by_cases hk1 : nk = 1
          · subst hk1
            have hp0 : np ≠ 0 := fun e => hm ⟨fun _ => rfl, fun _ => e⟩
            have q1 : (np == 0) = false := by simpa using hp0
            clear hp0
            have hE : putE T ⟨(j : Int) + 1, np, 1, nl, nc⟩ = 21 := by unfold putE; dsimp only; rw [if_neg (fun q => q ⟨i1, i2⟩), if_neg (fun q => q ⟨l1, l2⟩), if_neg (fun q => q ⟨k1, k2⟩), if_pos hm]
            have hT : putT T ⟨(j : Int) + 1, np, 1, nl, nc⟩ = T := by unfold putT; rw [hE]; rfl
            rw [hE, hT]
            clear hE hT
            clear hm
            go_enter Try.func55, Try.ntmps55
            go_wp2_with fail
            refine (rlimit_yes _ _ l1 l2).mono ?_
            rintro _ _ ⟨rfl, rfl⟩
            go_wp2_with fail
            go_ret
            exact ⟨rfl, HT.out, Only.refl _ _⟩
          · have hp0 : np = 0 := by
              by_cases e : np = 0
              · exact e
              · exact absurd ⟨fun q => absurd q e, fun q => absurd q hk1⟩ hm
            subst hp0
            have q2 : (nk == 1) = false := by simpa using hk1
            have hE : putE T ⟨(j : Int) + 1, 0, nk, nl, nc⟩ = 21 := by unfold putE; dsimp only; rw [if_neg (fun q => q ⟨i1, i2⟩), if_neg (fun q => q ⟨l1, l2⟩), if_neg (fun q => q ⟨k1, k2⟩), if_pos hm]
            have hT : putT T ⟨(j : Int) + 1, 0, nk, nl, nc⟩ = T := by unfold putT; rw [hE]; rfl
            rw [hE, hT]
            clear hE hT
            clear hm hk1
            go_enter Try.func55, Try.ntmps55
            go_wp2_with fail
            refine (rlimit_yes _ _ l1 l2).mono ?_
            rintro _ _ ⟨rfl, rfl⟩
            go_wp2_with fail
            go_ret
            exact ⟨rfl, HT.out, Only.refl _ _⟩
      · by_cases hk1 : 1 ≤ nk
        · have hk2 : ¬ nk ≤ 3 := by omega
          have hE : putE T ⟨ni, np, nk, nl, nc⟩ = 21 := by unfold putE; dsimp only; rw [if_neg (fun q => q ⟨i1, i2⟩), if_neg (fun q => q ⟨l1, l2⟩), if_pos hkd]
          have hT : putT T ⟨ni, np, nk, nl, nc⟩ = T := by unfold putT; rw [hE]; rfl
          rw [hE, hT]
          clear hE hT
          clear hkd
          go_enter Try.func55, Try.ntmps55
          go_wp2_with fail
          refine (rlimit_yes _ _ l1 l2).mono ?_
          rintro _ _ ⟨rfl, rfl⟩
          go_wp2_with fail
          go_ret
          exact ⟨rfl, HT.out, Only.refl _ _⟩
        · have hE : putE T ⟨ni, np, nk, nl, nc⟩ = 21 := by unfold putE; dsimp only; rw [if_neg (fun q => q ⟨i1, i2⟩), if_neg (fun q => q ⟨l1, l2⟩), if_pos hkd]
          have hT : putT T ⟨ni, np, nk, nl, nc⟩ = T := by unfold putT; rw [hE]; rfl
          rw [hE, hT]
          clear hE hT
          clear hkd
          go_enter Try.func55, Try.ntmps55
          go_wp2_with fail
          refine (rlimit_yes _ _ l1 l2).mono ?_
          rintro _ _ ⟨rfl, rfl⟩
          go_wp2_with fail
          go_ret
          exact ⟨rfl, HT.out, Only.refl _ _⟩
    · have hE : putE T ⟨ni, np, nk, nl, nc⟩ = 1 := by unfold putE; dsimp only; rw [if_neg (fun q => q ⟨i1, i2⟩), if_pos hl]
      have hT : putT T ⟨ni, np, nk, nl, nc⟩ = T := by unfold putT; rw [hE]; rfl
      rw [hE, hT]
      clear hE hT
      go_enter Try.func55, Try.ntmps55
      go_wp2_with fail
      refine (rlimit_no _ _ hl).mono ?_
      rintro _ _ ⟨rfl, rfl⟩
      go_wp2_with fail
      go_ret
      exact ⟨rfl, HT.out, Only.refl _ _⟩
  · by_cases hi1 : 1 ≤ ni
    · have hi2 : ¬ ni ≤ 32 := by omega
      have hE : putE T ⟨ni, np, nk, nl, nc⟩ = 1 := by unfold putE; dsimp only; rw [if_pos hi]
      have hT : putT T ⟨ni, np, nk, nl, nc⟩ = T := by unfold putT; rw [hE]; rfl
      rw [hE, hT]
      clear hE hT
      clear hi
      go_enter Try.func55, Try.ntmps55
      go_wp2_with fail
      go_ret
      exact ⟨rfl, HT.out, Only.refl _ _⟩
    · have hE : putE T ⟨ni, np, nk, nl, nc⟩ = 1 := by unfold putE; dsimp only; rw [if_pos hi]
      have hT : putT T ⟨ni, np, nk, nl, nc⟩ = T := by unfold putT; rw [hE]; rfl
      rw [hE, hT]
      clear hE hT
      clear hi
      go_enter Try.func55, Try.ntmps55
      go_wp2_with fail
      go_ret
      exact ⟨rfl, HT.out, Only.refl _ _⟩
end Go.Proofs.Ytginfnceindojaa.tre
