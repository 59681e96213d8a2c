/- The document's tree: Move, SetLimit, Close. -/
import Derived.Test.YtginfnceindojaaTrS
namespace Go.Proofs.Ytginfnceindojaa.tre
open Go.RowKit mem
set_option linter.unusedVariables false

theorem nul_zero {T : List Nd} (ht : Tok T) (hn : Nul T) : T.getD 0 default = default := by
  refine hn 0 ?_
  rcases ht.idk 0 (by omega) with h | h
  · exact h
  · exact h
set_option maxRecDepth 100000 in
set_option maxHeartbeats 4000000 in
theorem rmove_any (p : Nat) (T : List Nd) (id par : Int) (w : World) (h : RAt w p T) (ht : Tok T) (hn : Nul T) : Calls Try.prog 56 #[.pointer (some ⟨p, 0, none⟩), .int .i64 id, .int .i64 par] w (RDid p (movT T id par) (movE T id par) w) := by
  have HT := Lib.hid h
  have HTK := Lib.hid ht
  have HNU := Lib.hid hn
  have HH := Lib.hid (there_any p T id w h ht hn)
  clear h ht hn
  by_cases hb : hasB T id = false
  · have hE : movE T id par = 7 := by unfold movE; rw [if_pos hb]
    have hT : movT T id par = T := by unfold movT; rw [hE]; rfl
    rw [hE, hT]
    clear hE hT
    rw [hb] at HH
    clear hb
    go_enter Try.func56, Try.ntmps56
    go_wp2_with fail
    refine (HH.out).mono ?_
    rintro _ _ ⟨rfl, rfl⟩
    go_wp2_with fail
    go_ret
    exact ⟨rfl, HT.out, Only.refl _ _⟩
  · have hb' : hasB T id = true := by simpa using hb
    obtain ⟨m, rfl, m1, m2⟩ := hasB_lt hb'
    obtain ⟨j, rfl⟩ : ∃ j, m = j + 1 := ⟨m - 1, by omega⟩
    have hj : j < 32 := by omega
    have hj2 : (j : Int) < 32 := by omega
    have hj0 : (0 : Int) ≤ j := by omega
    have hwj : IntKind.i64.wrap (j : Int) = (j : Int) := IntWalk.i64_in _ (by omega)
    have hgo := got_has hb'
    rw [hb'] at HH
    have hc := HT.out.1 j hj
    have hfz := HT.out.2
    have hkk := (HTK.out.inv (j + 1) hb').1
    have hkk3 := (HTK.out.inv (j + 1) hb').2.1
    have HND : Hid (T.getD (j + 1) default = T.getD (j + 1) default) := Lib.hid rfl
    generalize hnd : T.getD (j + 1) default = nd at *
    obtain ⟨ni, np, nk, nl, nc⟩ := nd
    unfold RnAt at hc
    dsimp only at hc hkk hkk3
    obtain ⟨c0, c1, c2, c3⟩ := hc
    have HBN := Lib.hid hb
    have HGO := Lib.hid hgo
    have HNQ := Lib.hid hnd
    have hji : ((j + 1 : Nat) : Int) = (j : Int) + 1 := by omega
    have htn : ((j : Int) + 1).toNat = j + 1 := by omega
    have HTN := Lib.hid htn
    rw [hji] at HGO HBN HH ⊢
    clear hb hb' hgo hnd m1 m2 HND hji htn
    have HUN : Hid (∀ w1, RAt w1 p T → _) := Lib.hid (fun w1 h1 => under_any p T nk par w1 h1 HTK.out HNU.out hkk hkk3)
    clear hkk hkk3 hfz
    have HO9 : Hid (Only (fun _ => False) w (w.alloc (.cells #[.int .i64 np, .int .i64 nk, .int .i64 nl, .bool nc] 46))) := Lib.hid ((Only.refl _ _).alloc _)
    have e0 : (w.alloc (.cells #[.int .i64 np, .int .i64 nk, .int .i64 nl, .bool nc] 46)).cell? ⟨w.heap.size, 0, none⟩ = some (.int .i64 np) := alloc_cell rfl rfl
    have e1 : (w.alloc (.cells #[.int .i64 np, .int .i64 nk, .int .i64 nl, .bool nc] 46)).cell? ⟨w.heap.size, 1, none⟩ = some (.int .i64 nk) := alloc_cell rfl rfl
    have e3 : (w.alloc (.cells #[.int .i64 np, .int .i64 nk, .int .i64 nl, .bool nc] 46)).cell? ⟨w.heap.size, 3, none⟩ = some (.bool nc) := alloc_cell rfl rfl
    have HT9 := Lib.hid (HT.out.only HO9.out (fun f => f))
    replace HUN := Lib.hid (HUN.out _ HT9.out)
    cases nc
    · by_cases hk1 : nk = 1
      · subst hk1
        have hE : movE T ((j : Int) + 1) par = 21 := by unfold movE; rw [if_neg HBN.out, HGO.out]; dsimp only; rw [if_neg (by simp), if_pos rfl]
        have hT : movT T ((j : Int) + 1) par = T := by unfold movT; rw [hE]; rfl
        rw [hE, hT]
        clear hE hT
        go_enter Try.func56, Try.ntmps56
        go_wp2_with fail
        refine (HH.out).mono ?_
        rintro _ _ ⟨rfl, rfl⟩
        go_wp2_with fail
        go_ret
        exact ⟨rfl, HT9.out, Only.p p HO9.out⟩
      · have hkb : (nk == 1) = false := by simpa using hk1
        have HK1 := Lib.hid hk1
        clear hk1
        rcases und_take HTK.out par nk with ⟨hu, t1, t2⟩ | ⟨hu, i, rfl, hi, hcc, htk⟩
        · generalize undE T par nk = te at *
          have HTE : Hid (takE T par nk = te ∧ te ≠ 0) := Lib.hid ⟨t1, hu⟩
          have q5 : (te != 0) = true := by simpa using hu
          clear hu t1 t2
          have hE : movE T ((j : Int) + 1) par = te := by unfold movE; rw [if_neg HBN.out, HGO.out]; dsimp only; rw [if_neg (by simp), if_neg HK1.out, HTE.out.1, if_pos HTE.out.2]
          have hT : movT T ((j : Int) + 1) par = T := by unfold movT; rw [hE, if_neg HTE.out.2]
          rw [hE, hT]
          clear hE hT
          go_enter Try.func56, Try.ntmps56
          go_wp2_with fail
          refine (HH.out).mono ?_
          rintro _ _ ⟨rfl, rfl⟩
          go_wp2_with fail
          refine HUN.out.mono ?_
          rintro _ _ ⟨rfl, rfl⟩
          go_wp2_with fail
          go_ret
          exact ⟨rfl, HT9.out, Only.p p HO9.out⟩
        · rw [hu] at HUN
          have hi2 : (i : Int) < 32 := by omega
          have hi0 : (0 : Int) ≤ i := by omega
          have hwi : IntKind.i64.wrap (i : Int) = (i : Int) := IntWalk.i64_in _ (by omega)
          have d3 := HO9.out.cell' (HT.out.1 i hi).2.2.2 (fun f => f)
          have HTE := Lib.hid htk
          generalize (T.getD (i + 1) default).cl = pc at *
          clear hu htk hcc
          cases pc
          · by_cases hnp : np = (i : Int) + 1
            · subst hnp
              have hE : movE T ((j : Int) + 1) ((i : Int) + 1) = 8 := by unfold movE; rw [if_neg HBN.out, HGO.out]; dsimp only; rw [if_neg (by simp), if_neg HK1.out, show takE T ((i : Int) + 1) nk = 0 from HTE.out, if_neg (by decide), if_pos rfl]
              have hT : movT T ((j : Int) + 1) ((i : Int) + 1) = T := by unfold movT; rw [hE]; rfl
              rw [hE, hT]
              clear hE hT
              go_enter Try.func56, Try.ntmps56
              go_wp2_with fail
              refine (HH.out).mono ?_
              rintro _ _ ⟨rfl, rfl⟩
              go_wp2_with fail
              refine HUN.out.mono ?_
              rintro _ _ ⟨rfl, rfl⟩
              go_wp2_with fail
              go_ret
              exact ⟨rfl, HT9.out, Only.p p HO9.out⟩
            · have HNP := Lib.hid hnp
              have hnb : (np == (i : Int) + 1) = false := by simpa using hnp
              clear hnp
              have hE : movE T ((j : Int) + 1) ((i : Int) + 1) = 0 := by unfold movE; rw [if_neg HBN.out, HGO.out]; dsimp only; rw [if_neg (by simp), if_neg HK1.out, show takE T ((i : Int) + 1) nk = 0 from HTE.out, if_neg (by decide), if_neg HNP.out]
              have hT : movT T ((j : Int) + 1) ((i : Int) + 1) = T.set (j + 1) ⟨ni, ((i : Int) + 1), nk, nl, false⟩ := by unfold movT; rw [hE, if_pos rfl, HGO.out, HTN.out]
              rw [hE, hT]
              clear hE hT
              have HST : Hid (∀ w1, Only (fun _ => False) w w1 → RAt (w1.setCell ⟨p, j * 4, none⟩ (.int .i64 ((i : Int) + 1))) p (T.set (j + 1) ⟨ni, ((i : Int) + 1), nk, nl, false⟩)) := Lib.hid (fun w1 ho => (HT.out.only ho (fun f => f)).store HTK.out.len j 0 _ _ hj (by omega) (by rw [HNQ.out]; rfl))
              have y0 := HO9.out.cell' c0 (fun f => f)
              have f0 := (HO9.out.frozen (p := ⟨p, j * 4, none⟩) HT.out.lt (fun f => f)).trans (HT.out.2 _ (by omega))
              go_enter Try.func56, Try.ntmps56
              go_wp2_with fail
              refine (HH.out).mono ?_
              rintro _ _ ⟨rfl, rfl⟩
              go_wp2_with fail
              refine HUN.out.mono ?_
              rintro _ _ ⟨rfl, rfl⟩
              go_wp2_with fail
              go_ret
              exact ⟨rfl, HST.out _ HO9.out, (Only.p p HO9.out).trans (Only.set _ _ _ _ _ rfl)⟩
          · have hE : movE T ((j : Int) + 1) ((i : Int) + 1) = 16 := by unfold movE; rw [if_neg HBN.out, HGO.out]; dsimp only; rw [if_neg (by simp), if_neg HK1.out, show takE T ((i : Int) + 1) nk = 16 from HTE.out, if_pos (by decide)]
            have hT : movT T ((j : Int) + 1) ((i : Int) + 1) = T := by unfold movT; rw [hE]; rfl
            rw [hE, hT]
            clear hE hT
            go_enter Try.func56, Try.ntmps56
            go_wp2_with fail
            refine (HH.out).mono ?_
            rintro _ _ ⟨rfl, rfl⟩
            go_wp2_with fail
            refine HUN.out.mono ?_
            rintro _ _ ⟨rfl, rfl⟩
            go_wp2_with fail
            go_ret
            exact ⟨rfl, HT9.out, Only.p p HO9.out⟩
    · have hE : movE T ((j : Int) + 1) par = 16 := by unfold movE; rw [if_neg HBN.out, HGO.out]; dsimp only; rw [if_pos rfl]
      have hT : movT T ((j : Int) + 1) par = T := by unfold movT; rw [hE]; rfl
      rw [hE, hT]
      clear hE hT
      go_enter Try.func56, Try.ntmps56
      go_wp2_with fail
      refine (HH.out).mono ?_
      rintro _ _ ⟨rfl, rfl⟩
      go_wp2_with fail
      go_ret
      exact ⟨rfl, HT9.out, Only.p p HO9.out⟩
set_option maxRecDepth 100000 in
set_option maxHeartbeats 4000000 in
theorem rsetlimit_any (p : Nat) (T : List Nd) (id lim : Int) (w : World) (h : RAt w p T) (ht : Tok T) (hn : Nul T) : Calls Try.prog 58 #[.pointer (some ⟨p, 0, none⟩), .int .i64 id, .int .i64 lim] w (RDid p (limT T id lim) (limE T id lim) w) := by
  have HT := Lib.hid h
  have HTK := Lib.hid ht
  have HNU := Lib.hid hn
  have HH := Lib.hid (there_any p T id w h ht hn)
  clear h ht hn
  by_cases hb : hasB T id = false
  · have hE : limE T id lim = 7 := by unfold limE; rw [if_pos hb]
    have hT : limT T id lim = T := by unfold limT; rw [hE]; rfl
    rw [hE, hT]
    clear hE hT
    rw [hb] at HH
    clear hb
    go_enter Try.func58, Try.ntmps58
    go_wp2_with fail
    refine (HH.out).mono ?_
    rintro _ _ ⟨rfl, rfl⟩
    go_wp2_with fail
    go_ret
    exact ⟨rfl, HT.out, Only.refl _ _⟩
  · have hb' : hasB T id = true := by simpa using hb
    obtain ⟨m, rfl, m1, m2⟩ := hasB_lt hb'
    obtain ⟨j, rfl⟩ : ∃ j, m = j + 1 := ⟨m - 1, by omega⟩
    have hj : j < 32 := by omega
    have hj2 : (j : Int) < 32 := by omega
    have hj0 : (0 : Int) ≤ j := by omega
    have hwj : IntKind.i64.wrap (j : Int) = (j : Int) := IntWalk.i64_in _ (by omega)
    have hgo := got_has hb'
    rw [hb'] at HH
    have hc := HT.out.1 j hj
    have hfz := HT.out.2
    have hkk := (HTK.out.inv (j + 1) hb').1
    have hkk3 := (HTK.out.inv (j + 1) hb').2.1
    have HND : Hid (T.getD (j + 1) default = T.getD (j + 1) default) := Lib.hid rfl
    generalize hnd : T.getD (j + 1) default = nd at *
    obtain ⟨ni, np, nk, nl, nc⟩ := nd
    unfold RnAt at hc
    dsimp only at hc hkk hkk3
    obtain ⟨c0, c1, c2, c3⟩ := hc
    have HBN := Lib.hid hb
    have HGO := Lib.hid hgo
    have HNQ := Lib.hid hnd
    have hji : ((j + 1 : Nat) : Int) = (j : Int) + 1 := by omega
    have htn : ((j : Int) + 1).toNat = j + 1 := by omega
    have HTN := Lib.hid htn
    rw [hji] at HGO HBN HH ⊢
    clear hb hb' hgo hnd m1 m2 HND hji htn
    clear hkk hkk3 hfz
    by_cases hl : -1 ≤ lim ∧ lim ≤ 9007199254740992
    · obtain ⟨l1, l2⟩ := hl
      cases nc
      · have hE : limE T ((j : Int) + 1) lim = 0 := by unfold limE; rw [if_neg HBN.out, HGO.out]; dsimp only; rw [if_neg (fun q => q ⟨l1, l2⟩), if_neg (by simp)]
        have hT : limT T ((j : Int) + 1) lim = T.set (j + 1) ⟨ni, np, nk, lim, false⟩ := by unfold limT; rw [hE, if_pos rfl, HGO.out, HTN.out]
        rw [hE, hT]
        clear hE hT
        have HST : Hid (RAt (w.setCell ⟨p, j * 4 + 2, none⟩ (.int .i64 lim)) p (T.set (j + 1) ⟨ni, np, nk, lim, false⟩)) := Lib.hid (HT.out.store HTK.out.len j 2 _ _ hj (by omega) (by rw [HNQ.out]; rfl))
        have f0 := HT.out.2 (j * 4 + 2) (by omega)
        go_enter Try.func58, Try.ntmps58
        go_wp2_with fail
        refine (HH.out).mono ?_
        rintro _ _ ⟨rfl, rfl⟩
        go_wp2_with fail
        refine (rlimit_yes _ _ l1 l2).mono ?_
        rintro _ _ ⟨rfl, rfl⟩
        go_wp2_with fail
        go_ret
        exact ⟨rfl, HST.out, Only.set _ _ _ _ _ rfl⟩
      · have hE : limE T ((j : Int) + 1) lim = 16 := by unfold limE; rw [if_neg HBN.out, HGO.out]; dsimp only; rw [if_neg (fun q => q ⟨l1, l2⟩), if_pos rfl]
        have hT : limT T ((j : Int) + 1) lim = T := by unfold limT; rw [hE]; rfl
        rw [hE, hT]
        clear hE hT
        go_enter Try.func58, Try.ntmps58
        go_wp2_with fail
        refine (HH.out).mono ?_
        rintro _ _ ⟨rfl, rfl⟩
        go_wp2_with fail
        refine (rlimit_yes _ _ l1 l2).mono ?_
        rintro _ _ ⟨rfl, rfl⟩
        go_wp2_with fail
        go_ret
        exact ⟨rfl, HT.out, Only.refl _ _⟩
    · have hE : limE T ((j : Int) + 1) lim = 1 := by unfold limE; rw [if_neg HBN.out, HGO.out]; dsimp only; rw [if_pos hl]
      have hT : limT T ((j : Int) + 1) lim = T := by unfold limT; rw [hE]; rfl
      rw [hE, hT]
      clear hE hT
      go_enter Try.func58, Try.ntmps58
      go_wp2_with fail
      refine (HH.out).mono ?_
      rintro _ _ ⟨rfl, rfl⟩
      go_wp2_with fail
      refine (rlimit_no _ _ hl).mono ?_
      rintro _ _ ⟨rfl, rfl⟩
      go_wp2_with fail
      go_ret
      exact ⟨rfl, HT.out, Only.refl _ _⟩
set_option maxRecDepth 100000 in
set_option maxHeartbeats 4000000 in
theorem rclose_any (p : Nat) (T : List Nd) (id : Int) (w : World) (h : RAt w p T) (ht : Tok T) (hn : Nul T) : Calls Try.prog 57 #[.pointer (some ⟨p, 0, none⟩), .int .i64 id] w (RDid p (cloT T id) (cloE T id) w) := by
  have HT := Lib.hid h
  have HTK := Lib.hid ht
  have HNU := Lib.hid hn
  have HH := Lib.hid (there_any p T id w h ht hn)
  clear h ht hn
  by_cases hb : hasB T id = false
  · have hE : cloE T id = 7 := by unfold cloE; rw [if_pos hb]
    have hT : cloT T id = T := by unfold cloT; rw [hE]; rfl
    rw [hE, hT]
    clear hE hT
    rw [hb] at HH
    clear hb
    go_enter Try.func57, Try.ntmps57
    go_wp2_with fail
    refine (HH.out).mono ?_
    rintro _ _ ⟨rfl, rfl⟩
    go_wp2_with fail
    go_ret
    exact ⟨rfl, HT.out, Only.refl _ _⟩
  · have hb' : hasB T id = true := by simpa using hb
    obtain ⟨m, rfl, m1, m2⟩ := hasB_lt hb'
    obtain ⟨j, rfl⟩ : ∃ j, m = j + 1 := ⟨m - 1, by omega⟩
    have hj : j < 32 := by omega
    have hj2 : (j : Int) < 32 := by omega
    have hj0 : (0 : Int) ≤ j := by omega
    have hwj : IntKind.i64.wrap (j : Int) = (j : Int) := IntWalk.i64_in _ (by omega)
    have hgo := got_has hb'
    rw [hb'] at HH
    have hc := HT.out.1 j hj
    have hfz := HT.out.2
    have hkk := (HTK.out.inv (j + 1) hb').1
    have hkk3 := (HTK.out.inv (j + 1) hb').2.1
    have HND : Hid (T.getD (j + 1) default = T.getD (j + 1) default) := Lib.hid rfl
    generalize hnd : T.getD (j + 1) default = nd at *
    obtain ⟨ni, np, nk, nl, nc⟩ := nd
    unfold RnAt at hc
    dsimp only at hc hkk hkk3
    obtain ⟨c0, c1, c2, c3⟩ := hc
    have HBN := Lib.hid hb
    have HGO := Lib.hid hgo
    have HNQ := Lib.hid hnd
    have hji : ((j + 1 : Nat) : Int) = (j : Int) + 1 := by omega
    have htn : ((j : Int) + 1).toNat = j + 1 := by omega
    have HTN := Lib.hid htn
    rw [hji] at HGO HBN HH ⊢
    clear hb hb' hgo hnd m1 m2 HND hji htn
    cases nc
    · have HST : Hid (∀ w1, Only (fun _ => False) w w1 → RAt (w1.setCell ⟨p, j * 4 + 3, none⟩ (.bool true)) p (T.set (j + 1) ⟨ni, np, nk, nl, true⟩)) := Lib.hid (fun w1 ho => (HT.out.only ho (fun f => f)).store HTK.out.len j 3 _ _ hj (by omega) (by rw [HNQ.out]; rfl))
      have hE0 : cloE T ((j : Int) + 1) = if busyB T ((j : Int) + 1) = true then 17 else 0 := by unfold cloE; rw [if_neg HBN.out, HGO.out, if_neg (by simp)]
      have hT0 : cloT T ((j : Int) + 1) = if cloE T ((j : Int) + 1) = 0 then T.set (j + 1) ⟨ni, np, nk, nl, true⟩ else T := by unfold cloT; rw [HGO.out, HTN.out]
      have HB0 : Hid (busyB T ((j : Int) + 1) = (T.drop (0 + 1)).any (fun n => decide (n.par = (j : Int) + 1) && !n.cl)) := Lib.hid (by
        have h0 : busyB T ((j : Int) + 1) = (T.drop 0).any (fun n => decide (n.par = (j : Int) + 1) && !n.cl) := rfl
        rw [h0, any_step T _ 0 (by rw [HTK.out.len]; omega), nul_zero HTK.out HNU.out, show decide ((default : Nd).par = (j : Int) + 1) = false from by simp [show (default : Nd).par = 0 from rfl]; omega]
        rfl)
      have HE0 := Lib.hid hE0
      have HT0 := Lib.hid hT0
      have HC : Hid (∀ i, i < 32 → w.cell? ⟨p, i * 4, none⟩ = some (.int .i64 (T.getD (i + 1) default).par) ∧ w.cell? ⟨p, i * 4 + 1, none⟩ = some (.int .i64 (T.getD (i + 1) default).kind) ∧ w.cell? ⟨p, i * 4 + 3, none⟩ = some (.bool (T.getD (i + 1) default).cl) ∧ (0 < (T.getD (i + 1) default).kind ∨ ((T.getD (i + 1) default).kind = 0 ∧ (T.getD (i + 1) default).par = 0))) := Lib.hid (fun i hi => by
        obtain ⟨h0, h1, h2, h3⟩ := HT.out.1 i hi
        refine ⟨h0, h1, h3, ?_⟩
        rcases has_kind HTK.out HNU.out i hi with ⟨_, q⟩ | ⟨q, q2⟩
        · exact .inl q
        · refine .inr ⟨q2, ?_⟩
          have hz : (T.getD (i + 1) default).id = 0 := by
            by_cases e : (T.getD (i + 1) default).id = 0
            · exact e
            · have : hasB T ((i : Int) + 1) = true := hasB_iff.2 ⟨by omega, by omega, by rw [show ((i : Int) + 1).toNat = i + 1 by omega]; exact e⟩
              rw [q] at this; cases this
          rw [HNU.out _ hz]; rfl)
      have HLN := Lib.hid HTK.out.len
      have HFZ := Lib.hid (HT.out.2 (j * 4 + 3) (by omega))
      have HLT := Lib.hid HT.out.lt
      have HC3 := Lib.hid c3
      clear hE0 hT0 hkk hkk3 hfz c0 c1 c2
      generalize cloE T ((j : Int) + 1) = E at *
      generalize cloT T ((j : Int) + 1) = T' at *
      go_enter Try.func57, Try.ntmps57
      go_wp2_with fail
      refine (HH.out).mono ?_
      rintro _ _ ⟨rfl, rfl⟩
      go_wp2_with fail
      go_loopw [5] (fun iv wr => ∃ i : Nat, i ≤ 32 ∧ iv = .int .i64 (i : Int) ∧ Hid (Only (fun _ => False) w wr) ∧ Hid (busyB T ((j : Int) + 1) = (T.drop (i + 1)).any (fun n => decide (n.par = (j : Int) + 1) && !n.cl))) (fun iv _ => 32 - (intOf iv).toNat)
      case atStart => exact ⟨0, by omega, rfl, Lib.hid (Only.refl _ _), HB0⟩
      case round =>
        obtain ⟨i, hi, rfl, HW, HP⟩ := hrel
        by_cases h8 : i < 32
        · have h9 : (i : Int) < 32 := by omega
          have hi0 : (0 : Int) ≤ i := by omega
          obtain ⟨x0, x1, x3, hx⟩ := HC.out i h8
          replace x0 := HW.out.cell' x0 (fun f => f)
          replace x1 := HW.out.cell' x1 (fun f => f)
          replace x3 := HW.out.cell' x3 (fun f => f)
          have hst := HP.out
          rw [any_step T _ (i + 1) (by rw [HLN.out]; omega)] at hst
          generalize T.getD (i + 1) default = n at *
          obtain ⟨xi, xp, xk, xl, xc⟩ := n
          dsimp only at hst x0 x1 x3 hx
          have HS := Lib.hid hst
          clear hst HP
          rcases hx with hx | ⟨rfl, rfl⟩
          · by_cases h1 : xp = (j : Int) + 1
            · subst h1
              cases xc
              · have HR : Hid (E = 17 ∧ T' = T) := Lib.hid (by
                  have hbz : busyB T ((j : Int) + 1) = true := by rw [HS.out]; simp
                  have : E = 17 := by rw [HE0.out, if_pos hbz]
                  exact ⟨this, by rw [HT0.out, this]; rfl⟩)
                go_wp2_with fail
                go_ret
                exact ⟨by rw [HR.out.1]; rfl, by rw [HR.out.2]; exact HT.out.only HW.out (fun f => f), Only.p p HW.out⟩
              · have HP2 : Hid (busyB T ((j : Int) + 1) = (T.drop (i + 1 + 1)).any (fun n => decide (n.par = (j : Int) + 1) && !n.cl)) := Lib.hid (by rw [HS.out]; simp)
                go_wp2_with fail
                go_roundw
                case rel => exact ⟨i + 1, by omega, by go_num, HW, HP2⟩
                case measure => simp [intOf]; omega
            · have h2 : (xp == (j : Int) + 1) = false := by simpa using h1
              have HP2 : Hid (busyB T ((j : Int) + 1) = (T.drop (i + 1 + 1)).any (fun n => decide (n.par = (j : Int) + 1) && !n.cl)) := Lib.hid (by rw [HS.out]; simp [h1])
              clear h1
              go_wp2_with fail
              go_roundw
              case rel => exact ⟨i + 1, by omega, by go_num, HW, HP2⟩
              case measure => simp [intOf]; omega
          · have HP2 : Hid (busyB T ((j : Int) + 1) = (T.drop (i + 1 + 1)).any (fun n => decide (n.par = (j : Int) + 1) && !n.cl)) := Lib.hid (by rw [HS.out, show decide ((0 : Int) = (j : Int) + 1) = false from by simp; omega]; rfl)
            go_wp2_with fail
            go_roundw
            case rel => exact ⟨i + 1, by omega, by go_num, HW, HP2⟩
            case measure => simp [intOf]; omega
        · obtain rfl : i = 32 := by omega
          have HR : Hid (E = 0 ∧ T' = T.set (j + 1) ⟨ni, np, nk, nl, true⟩) := Lib.hid (by
            have hbz : busyB T ((j : Int) + 1) = false := by rw [HP.out, List.drop_eq_nil_of_le (by rw [HLN.out]; omega)]; rfl
            have : E = 0 := by rw [HE0.out, if_neg (by rw [hbz]; simp)]
            exact ⟨this, by rw [HT0.out, if_pos this]⟩)
          have y0 := HW.out.cell' HC3.out (fun f => f)
          have f0 := (HW.out.frozen (p := ⟨p, j * 4 + 3, none⟩) HLT.out (fun f => f)).trans HFZ.out
          clear HP HC
          go_wp2_with fail
          go_ret
          exact ⟨by rw [HR.out.1]; rfl, by rw [HR.out.2]; exact HST.out _ HW.out, (Only.p p HW.out).trans (Only.set _ _ _ _ _ rfl)⟩
    · clear hkk hkk3 hfz
      have hE : cloE T ((j : Int) + 1) = 16 := by unfold cloE; rw [if_neg HBN.out, HGO.out, if_pos rfl]
      have hT : cloT T ((j : Int) + 1) = T := by unfold cloT; rw [hE]; rfl
      rw [hE, hT]
      clear hE hT
      go_enter Try.func57, Try.ntmps57
      go_wp2_with fail
      refine (HH.out).mono ?_
      rintro _ _ ⟨rfl, rfl⟩
      go_wp2_with fail
      go_ret
      exact ⟨rfl, HT.out, Only.refl _ _⟩
end Go.Proofs.Ytginfnceindojaa.tre
