/- Several texts together: PdL, PdP. -/
import Derived.Test.YtkbaafgaaiekpaaGreatPeriodActsZ1
import Derived.Test.YtkbaafgaaiekpaaGreatPeriodActsZ26
import Derived.Test.YtkbaafgaaiekpaaGreatPeriodActsZ39
import Derived.Test.YtkbaafgaaiekpaaGreatPeriodActsZ40
namespace Go.Proofs.YtkbaafgaaiekpaaGreat.pdw
open Go.RowKit mem entm puw tre
set_option linter.unusedVariables false

theorem run_buildF (t c e u h : Int) (w : World) : (Instr.build 58 #[(0, .int .i64 t), (1, .int .i64 c), (2, .int .i64 e), (3, .int .i64 u), (4, .int .i64 h)]).run Tryz.prog w = .ok (.agg #[.int .i64 t, .int .i64 c, .int .i64 e, .int .i64 u, .int .i64 h]) w := by kernel_rfl
theorem run_buildG (k n g a : Int) (w : World) : (Instr.build 96 #[(0, .agg #[.int .i64 k, .int .i64 n, .int .i64 g]), (1, .int .i64 a)]).run Tryz.prog w = .ok (.agg #[.int .i64 k, .int .i64 n, .int .i64 g, .int .i64 a]) w := by kernel_rfl
theorem key_lg (k n g a : Int) (h0 : fnd.In6 k) (h1 : fnd.In6 n) (h2 : fnd.In6 g) (h3 : fnd.In6 a) : Tryz.prog.keyLits 3 96 [.int .i64 k, .int .i64 n, .int .i64 g, .int .i64 a] = some [.int .i64 k, .int .i64 n, .int .i64 g, .int .i64 a] := by
  have c3 : Tryz.prog.cellsOf 3 = 1 := by kernel_rfl
  have c4 : Tryz.prog.cellsOf 56 = 3 := by kernel_rfl
  have c5 : Tryz.prog.cellsOf 96 = 4 := by kernel_rfl
  have hw : ∀ {n : Int}, fnd.In6 n → (Lit.int .i64 n).wf = true := by
    intro n h
    unfold fnd.In6 at h
    simp [Lit.wf, IntKind.min, IntKind.max, IntKind.signed, IntKind.bits]; omega
  simp [Program.keyLits, Tryz.underlying96, Tryz.underlying56, Tryz.underlying3, c3, c4, c5, hw h0, hw h1, hw h2, hw h3]
  rw [if_pos (by decide)]
  rfl
set_option maxRecDepth 100000 in
theorem lg_cmp (N : Nat) (k n g a : Int) (h0 : fnd.In6 k) (h1 : fnd.In6 n) (h2 : fnd.In6 g) (h3 : fnd.In6 a) (w : World) : (Op.equalIn (N + 10) 96 (.agg #[.int .i64 k, .int .i64 n, .int .i64 g, .int .i64 a]) (.agg #[.int .i64 k, .int .i64 n, .int .i64 g, .int .i64 a])).run Tryz.prog w = .ok true w := by
  obtain ⟨r, hr, hiff⟩ := run_equalIn_deep (P := Tryz.prog) N 10 96 (by kernel_rfl) w 3 3 (.agg #[.int .i64 k, .int .i64 n, .int .i64 g, .int .i64 a]) (.agg #[.int .i64 k, .int .i64 n, .int .i64 g, .int .i64 a]) _ _ (by kernel_rfl) (by kernel_rfl) (key_lg k n g a h0 h1 h2 h3) (key_lg k n g a h0 h1 h2 h3)
  rw [hr, hiff.2 rfl]
theorem meas (k L : Nat) (h : k < L) (z : Int) (e : z = (k : Int) + 1) : L - (intOf (Value.int IntKind.i64 z)).toNat < L - (intOf (Value.int IntKind.i64 (k : Int))).toNat := by
  subst e
  show L - ((k : Int) + 1).toNat < L - ((k : Int)).toNat
  omega
theorem nodU1 {A : List fnd.Ac} (h : fnd.Bok A) : fnd.nodU A 1 = [] := by
  rw [fnd.nodU_succ, if_neg (fun q => q h.z)]; rfl
theorem pnodes_any {S : Nat → Prop} {p pb pj : Nat} {A : List fnd.Ac} {op : Nat} {C : AcC → Option (List Int)} {L : List jnw.Ps} (w : World) (h : Pu S w p pb pj A op C L) : Calls Tryz.prog 17 #[.pointer (some ⟨p, 0, none⟩)] w fun e w' => (∃ v, e = .returned v ∧ tre.RetI (fnd.nodU A 33) w v w') ∧ Only (fun _ => False) w w' := by
  have c0 := h.c0
  have HN := Lib.hid (fnd.nodes_any pb A w h.bk h.bok)
  clear h
  go_enter Tryz.func17, Tryz.ntmps17
  go_wp2_with fail
  refine HN.out.mono ?_
  rintro _ w2 ⟨⟨v, rfl, hv⟩, ho⟩
  have HV := Lib.hid hv
  have HO := Lib.hid ho
  clear hv ho HN
  go_wp2_with fail
  go_ret
  exact ⟨⟨v, rfl, HV.out⟩, HO.out⟩
theorem PDS.ent {Sp Sd : Nat → Prop} {base p q pb pj n op : Nat} {A : List fnd.Ac} {C : AcC → Option (List Int)} {L : List jnw.Ps} {vL vW : Value} {D : List jnw.Es} {w : World} (h : PDS Sp Sd base p q pb pj n op A C L vL vW D w) (i : Nat) (hi : i < D.length) : ∃ (kd : Int) (g0 c0 per cd : Nat) (ls : List Lg) (gL gW cL cW b off : Nat),
    vL = .slice (some ⟨gL, 0, none⟩) D.length cL ∧ vW = .slice (some ⟨gW, 0, none⟩) D.length cW ∧
    L.getD i default = ⟨kd, g0, ls.length, c0, per, ls⟩ ∧ ls.length ≤ 64 ∧ (∀ l ∈ ls, entw.InL l) ∧ entw.ReadsL w (some ⟨b, off, none⟩) ls.length ls ∧
    w.cell? ⟨gL, i * 2, none⟩ = some (.int .i64 kd) ∧ w.cell? ⟨gL, i * 2 + 1, none⟩ = some (.slice (some ⟨b, off, none⟩) ls.length cd) ∧ w.cell? ⟨gW, i, none⟩ = some (.int .i64 (per : Int)) := by
  have hlen := h.len
  have hiL : i < L.length := by omega
  have hmD : D.getD i default ∈ D := by rw [List.getD_eq_getElem?_getD, List.getElem?_eq_getElem hi]; exact List.getElem_mem hi
  obtain ⟨v, mm, nn, hj⟩ := h.pv.pu.jn
  have hmL : L.getD i default ∈ L := by rw [List.getD_eq_getElem?_getD, List.getElem?_eq_getElem hiL]; exact List.getElem_mem hiL
  have hps := hj.pl _ hmL
  have hpl := hps.1.1
  have heq : pq (L.getD i default) = dq (D.getD i default) := by
    have e1 : (L.map pq)[i]? = some (pq (L.getD i default)) := by rw [List.getElem?_map, List.getD_eq_getElem?_getD, List.getElem?_eq_getElem hiL]; rfl
    have e2 : (D.map dq)[i]? = some (dq (D.getD i default)) := by rw [List.getElem?_map, List.getD_eq_getElem?_getD, List.getElem?_eq_getElem hi]; rfl
    rw [h.sq, e2] at e1
    exact (Option.some.inj e1).symm
  obtain ⟨h1, h2, h3, h4⟩ := h.dk.ls _ hmD
  obtain ⟨aL, cL, hvL⟩ : ∃ g c, vL = .slice (some ⟨g, 0, none⟩) D.length c := by
    rcases jnw.own_form h.dk.oL with ⟨hv, h0⟩ | ⟨g, cap, hv, _⟩
    · omega
    · exact ⟨g, cap, hv⟩
  have hwl : (jnw.whens D).length = D.length := by simp [jnw.whens]
  obtain ⟨aW, cW, hvW⟩ : ∃ g c, vW = .slice (some ⟨g, 0, none⟩) D.length c := by
    rcases jnw.own_form h.dk.oW with ⟨hv, h0⟩ | ⟨g, cap, hv, _⟩
    · omega
    · exact ⟨g, cap, by rw [hv, hwl]⟩
  have hoL := h.dk.oL
  have hoW := h.dk.oW
  rw [hvL] at hoL
  rw [hvW] at hoW
  obtain ⟨k0, k1⟩ := hoL.cell hi rfl
  have k2 := hoW.cell (i := i) (by rw [hwl]; exact hi) hwl.symm
  have e3 : (jnw.whens D).getD i 0 = ((D.getD i default).per : Int) := by simp [jnw.whens, List.getD, hi]
  rw [e3] at k2
  generalize hx : L.getD i default = x at *
  generalize D.getD i default = d at *
  obtain ⟨xk, xg, xn, xc, xp, xl⟩ := x
  obtain ⟨dk, da, dn, dc, dp, dl⟩ := d
  unfold pq dq at heq
  simp only [Prod.mk.injEq] at heq
  obtain ⟨e4, e5, e6⟩ := heq
  dsimp only at h1 h2 k0 k1 k2 hpl
  subst e4 e5 e6
  have hl64 := ((chk_ok _ _).1 h2).2.1
  obtain ⟨b, off, rfl, _⟩ := h1.2.2.2.resolve_left (by have := h1.1; omega)
  have hn := h1.1
  subst hn
  have hxn : xn = xl.length := hpl.symm
  subst hxn
  exact ⟨xk, xg, xc, xp, dc, xl, aL, aW, cL, cW, b, off, hvL, hvW, rfl, by omega, fun l hl => h1.2.2.1 l hl, h1, k0, k1, k2⟩
set_option maxRecDepth 100000 in
set_option maxHeartbeats 16000000 in
theorem like_any {Sp Sd : Nat → Prop} {base p q pb pj n op : Nat} {A : List fnd.Ac} {C : AcC → Option (List Int)} {L : List jnw.Ps} {vL vW : Value} {D : List jnw.Es} (w : World) (h : PDS Sp Sd base p q pb pj n op A C L vL vW D w) :
    Calls Tryz.prog 20 #[.pointer (some ⟨p, 0, none⟩), .pointer (some ⟨q, 0, none⟩)] w fun e w' => e = .returned (.bool true) ∧ Only (fun _ => False) w w' := by
  obtain ⟨i1, hj, hy0, hy1, hy2⟩ : ∃ i1, Tryz.prog.info? 3 = some i1 ∧ i1.zero = some (.int .i64 0) ∧ i1.size = 1 ∧ i1.bytes = 8 := by
    obtain ⟨i, h1, h2⟩ := Option.map_eq_some_iff.1 info_i64
    exact ⟨i, h1, by simpa using h2⟩
  have HS := Lib.hid h
  have hbok := h.pv.pu.bok
  have HA := Lib.hid hbok
  have HU1 := Lib.hid (nodU1 hbok)
  have hbf := run_buildF
  clear h hbok
  go_enter Tryz.func20, Tryz.ntmps20
  go_wp2_with fail
  go_loopw [5, 6] (fun ov iv wr => ∃ (i : Nat) (dv : Value), 1 ≤ i ∧ i ≤ 33 ∧ iv = .int .i64 (i : Int) ∧ dv = ov ∧ Hid (tre.OwnI wr dv (fnd.nodU A i)) ∧ Hid (∀ q', dv.ownBlock = some q' → w.heap.size ≤ q') ∧ Hid (Only (fun _ => False) w wr)) (fun _ iv _ => 33 - (intOf iv).toNat)
  case atStart => exact ⟨1, _, by omega, by omega, rfl, rfl, Lib.hid (by rw [HU1.out]; exact tre.OwnI.nil _), Lib.hid (fun q' e => by cases e), Lib.hid (Only.refl _ _)⟩
  case round =>
    obtain ⟨i, dv, hi1, hi, rfl, rfl, HOI, HBK, HO⟩ := hrel
    rename World => wr
    by_cases h8 : i ≤ 32
    · as_aux_lemma =>
        have hin : (i : Int) ≤ 32 := by omega
        have hi33 : (i : Int) < 33 := by omega
        have hi0 : (0 : Int) ≤ i := by omega
        have HSU := Lib.hid (fnd.nodU_succ A i)
        have HLN := Lib.hid (fnd.nodU_len A i)
        have hAi : fnd.acG A (i : Int) = A.getD i fnd.zA := fnd.acG_nat hi1 (by omega)
        have hok : fnd.Right (A.getD i fnd.zA) := HA.out.ok i
        have HG : Hid (∀ w', Only (fun _ => False) wr w' → _) := Lib.hid (fun w' (ho : Only (fun _ => False) wr w') => pget_any (i : Int) w' (HS.out.quiet (HO.out.trans ho)).pv.pu)
        have HV : Hid (∀ w', Only (fun _ => False) wr w' → _) := Lib.hid (fun w' (ho : Only (fun _ => False) wr w') => pavail_any (i : Int) w' (HS.out.quiet (HO.out.trans ho)).pv.pu)
        rw [hAi] at HG HV
        obtain ⟨c0, c1, c2, c3, c4⟩ := (HS.out.quiet HO.out).dk.bk.1 i (by omega)
        have HCM : Hid (∀ N w, _) := Lib.hid (fun N w => fnd.rc_cmpN N (A.getD i fnd.zA) fnd.zA (fnd.right_ins hok.1) fnd.ins_zA w)
        have HC0 : Hid (∀ N w, _) := Lib.hid (fun N w => fnd.ac_cmpN N (A.getD i fnd.zA) (A.getD i fnd.zA) (fnd.right_ins hok.1) (fnd.right_ins hok.1) w)
        have HLF : Hid (∀ w', _) := Lib.hid (fun w' => fnd.left_any (A.getD i fnd.zA) w' hok.1)
        generalize A.getD i fnd.zA = a at *
        obtain ⟨xt, xc, xe, xu, xh⟩ := a
        generalize fnd.left ⟨xt, xc, xe, xu, xh⟩ = X at *
        unfold fnd.aggA at HG HLF
        dsimp only at HG HLF c0 c1 c2 c3 c4
        have hc1 := HC0.out 9990
        have hc2 := HC0.out 9989
        rw [decide_eq_true rfl] at hc1 hc2
        unfold fnd.aggA at hc1 hc2
        dsimp only at hc1 hc2
        have hxx : (X != X) = false := by simp
        clear hok hAi HC0
        obtain ⟨wq, hwq⟩ : ∃ x, x = wr.alloc (.cells #[.int .i64 xt, .int .i64 xc, .int .i64 xe, .int .i64 xu, .int .i64 xh] 41) := ⟨_, rfl⟩
        obtain ⟨g, hg⟩ : ∃ x, x = wr.heap.size := ⟨_, rfl⟩
        have HSL : Hid (∀ w', Only (fun _ => False) wq w' → w'.cell? ⟨g, 0, none⟩ = some (.int .i64 xt) ∧ w'.cell? ⟨g, 1, none⟩ = some (.int .i64 xc) ∧ w'.cell? ⟨g, 2, none⟩ = some (.int .i64 xe) ∧ w'.cell? ⟨g, 3, none⟩ = some (.int .i64 xu) ∧ w'.cell? ⟨g, 4, none⟩ = some (.int .i64 xh)) := Lib.hid (fun w' ho => ⟨ho.cell' (by rw [hwq]; exact alloc_cell hg rfl) (fun f => f), ho.cell' (by rw [hwq]; exact alloc_cell hg rfl) (fun f => f), ho.cell' (by rw [hwq]; exact alloc_cell hg rfl) (fun f => f), ho.cell' (by rw [hwq]; exact alloc_cell hg rfl) (fun f => f), ho.cell' (by rw [hwq]; exact alloc_cell hg rfl) (fun f => f)⟩)
        have HQ1 : Hid (Only (fun _ => False) wr wq) := Lib.hid (by rw [hwq]; exact (Only.refl _ _).alloc _)
        have HWQ := Lib.hid (HO.out.trans HQ1.out)
        replace HG : Hid (∀ w', Only (fun _ => False) wq w' → _) := Lib.hid (fun w' (ho : Only (fun _ => False) wq w') => HG.out w' (HQ1.out.trans ho))
        replace HV : Hid (∀ w', Only (fun _ => False) wq w' → _) := Lib.hid (fun w' (ho : Only (fun _ => False) wq w') => HV.out w' (HQ1.out.trans ho))
        go_upto_region 6 with fail
        rw [← hwq, ← hg]
        clear hwq hg c0 c1 c2 c3 c4
        refine wp_region_noPanic ?_
        refine wp_region_held_drew (S := (fun w' => w'.cell? ⟨g, 0, none⟩ = some (.int .i64 xt) ∧ w'.cell? ⟨g, 1, none⟩ = some (.int .i64 xc) ∧ w'.cell? ⟨g, 2, none⟩ = some (.int .i64 xe) ∧ w'.cell? ⟨g, 3, none⟩ = some (.int .i64 xu) ∧ w'.cell? ⟨g, 4, none⟩ = some (.int .i64 xh))) (by kernel_rfl) (HSL.out _ (Only.refl _ _).drew) (fun hHeld => ?_)
        obtain ⟨z0, hz0⟩ : ∃ x, x = wq.drew := ⟨_, rfl⟩
        rw [← hz0] at hHeld ⊢
        have hot : Hid (Only (fun _ => False) wq z0) := Lib.hid (by rw [hz0]; exact (Only.refl _ _).drew)
        clear hz0
        refine sho.tk 0 ?_
        refine sho.tk 1 ?_
        refine sho.tk 3 ?_
        refine sho.tk 4 ?_
        refine sho.tk 5 ?_
        refine sho.tk 6 ?_
        refine sho.tk 7 ?_
        refine sho.tk 8 ?_
        refine sho.tk 9 ?_
        refine sho.tk 10 ?_
        refine sho.tk 11 ?_
        refine sho.tk 12 ?_
        refine sho.tk 13 ?_
        refine wpAnyH_ready (rs := [2]) (by kernel_rfl) (by simp) ?_
        refine AllReadyH.cons rfl (fun K hK => ?_) AllReadyH.nil
        try simp only [List.getElem_toArray, List.getElem_cons_zero, List.getElem_cons_succ]
        go_simp
        go_at_call 23
        with_reducible refine (HG.out _ hot.out).mono ?_
        rintro _ W1 ⟨rfl, ho⟩
        replace hot := Lib.hid (hot.out.trans ho)
        clear ho
        try dsimp only
        refine hK.out _ _ (HSL.out _ hot.out) (fun hHeld1 => ?_)
        clear hK K
        try simp only [List.getElem_toArray, List.getElem_cons_zero, List.getElem_cons_succ, Act.put, List.setIfInBounds_toArray, List.set_cons_zero, List.set_cons_succ]
        refine sho.tk 14 ?_
        refine sho.tk 15 ?_
        refine sho.tk 16 ?_
        refine sho.tk 17 ?_
        refine sho.tk 19 ?_
        refine wpAnyH_ready (rs := [18]) (by kernel_rfl) (by simp) ?_
        refine AllReadyH.cons rfl (fun K hK => ?_) AllReadyH.nil
        try simp only [List.getElem_toArray, List.getElem_cons_zero, List.getElem_cons_succ]
        go_simp
        go_at_call 15
        with_reducible refine (HV.out _ hot.out).mono ?_
        rintro _ W2 ⟨rfl, ho⟩
        replace hot := Lib.hid (hot.out.trans ho)
        clear ho
        try dsimp only
        refine hK.out _ _ (HSL.out _ hot.out) (fun hHeld2 => ?_)
        clear hK K
        try simp only [List.getElem_toArray, List.getElem_cons_zero, List.getElem_cons_succ, Act.put, List.setIfInBounds_toArray, List.set_cons_zero, List.set_cons_succ]
        refine wpAnyH_ready (rs := [20]) (by kernel_rfl) (by simp) ?_
        refine AllReadyH.cons rfl (fun K hK => ?_) AllReadyH.nil
        try simp only [List.getElem_toArray, List.getElem_cons_zero, List.getElem_cons_succ]
        go_simp
        go_at_call 58
        with_reducible refine (HLF.out _).mono ?_
        rintro _ W3 ⟨rfl, ho⟩
        replace hot := Lib.hid (hot.out.trans ho)
        clear ho
        try dsimp only
        refine hK.out _ _ (HSL.out _ hot.out) (fun hHeld3 => ?_)
        clear hK K
        try simp only [List.getElem_toArray, List.getElem_cons_zero, List.getElem_cons_succ, Act.put, List.setIfInBounds_toArray, List.set_cons_zero, List.set_cons_succ]
        refine sho.tk 21 ?_
        refine sho.tk 22 ?_
        refine wpAnyH_done (by kernel_rfl) ?_ _
        refine NoPanic.normal ?_
        rename World => wz
        obtain ⟨d0, d1, d2, d3, d4⟩ := HSL.out _ hot.out
        have HWZ := Lib.hid (HWQ.out.trans hot.out)
        have HOZ := Lib.hid (HOI.out.only ((HQ1.out).trans hot.out) (fun _ _ f => f))
        clear hHeld hot HWQ HSL HG HV HLF hc1 hc2 HQ1 HOI
        by_cases hb : (⟨xt, xc, xe, xu, xh⟩ : fnd.Ac) = fnd.zA
        · have HSV : Hid (tre.OwnI wz dv (fnd.nodU A (i + 1))) := Lib.hid (by rw [HSU.out, if_neg (fun q => q hb)]; exact HOZ.out)
          have hk1 := HCM.out 9990
          have hk2 := HCM.out 9989
          rw [decide_eq_true hb] at hk1 hk2
          unfold fnd.aggA fnd.zA at hk1 hk2
          dsimp only at hk1 hk2
          clear hb HSU HCM
          go_wp2_with fail
          go_roundw
          case rel => exact ⟨i + 1, dv, by omega, by omega, by go_num, rfl, HSV, HBK, HWZ⟩
          case measure => (simp [intOf]; omega)
        · have HSV : Hid (fnd.nodU A (i + 1) = fnd.nodU A i ++ [(i : Int)]) := Lib.hid (by rw [HSU.out, if_pos hb])
          have hk1 := HCM.out 9990
          have hk2 := HCM.out 9989
          rw [decide_eq_false hb] at hk1 hk2
          unfold fnd.aggA fnd.zA at hk1 hk2
          dsimp only at hk1 hk2
          have HOW2 : Hid ((wz.alloc (.cells #[.int .i64 i] 3)).ownsRow 0 3 1 dv (fnd.nodU A i).length (iv (fnd.nodU A i))) := Lib.hid (HOZ.out.only ((Only.refl (fun _ => False) wz).alloc _) (fun _ _ f => f))
          generalize hn : (fnd.nodU A i).length = n9 at *
          have HN := Lib.hid hn
          have hn33 : n9 ≤ 33 := by have := HLN.out; omega
          clear hn hb HSU HCM
          go_wp2_with (at_builtin; refine append_mine rfl _ _ 37 rfl 3 i1 _ 1 8 Tryz.underlying37 hj hy0 hy1 hy2 rfl (by decide) _ n9 _ rfl HOW2.out ⟨wz.heap.size, 0, none⟩ 1 1 (iv [(i : Int)]) rfl ?c1 ?c2 ?c3 ?c4 ?c5 ?_)
          case c1 => rfl
          case c2 => exact news_int rfl _
          case c3 => exact iv_one _
          case c4 => (unfold maxLen; omega)
          case c5 => omega
          intro v3 w3 hown hgrow hkk
          have HON : Hid (tre.OwnI w3 v3 (fnd.nodU A (i + 1))) := Lib.hid (by
            unfold tre.OwnI
            rw [HSV.out, iv_append, List.length_append, HN.out]
            exact hown)
          have HBN : Hid (∀ q', v3.ownBlock = some q' → w.heap.size ≤ q') := Lib.hid (fun q' hq => by
            rcases hkk q' hq with e | e
            · exact HBK.out q' e
            · have h5 : wz.heap.size ≤ q' := by first | omega | (simp only [size_alloc] at e; omega)
              have := HO.out.size
              have := HWZ.out.size
              omega)
          have HON2 : Hid (Only (fun _ => False) w w3) := Lib.hid ((HWZ.out.alloc _).then (Only.of_grown hgrow) (fun q' hq e => by have := HBK.out q' e; omega))
          clear hown hgrow hkk HOW2
          go_wp2_with fail
          go_roundw
          case rel => exact ⟨i + 1, v3, by omega, by omega, by go_num, rfl, HON, HBN, HON2⟩
          case measure => (simp [intOf]; omega)
    · obtain rfl : i = 33 := by omega
      as_aux_lemma =>
        have hul := fnd.nodU_len A 33
        obtain ⟨a5, c5, rfl, hr5, -⟩ := HOI.out.reads (fun c hc => by have := fnd.nodU_in A 33 c hc; omega) (by omega)
        have HR5 := Lib.hid hr5
        have HSR := Lib.hid (HS.out.quiet HO.out)
        have HNA := Lib.hid (fun w' (ho : Only (fun _ => False) wr w') => pnodes_any w' (HSR.out.quiet ho).pv.pu)
        have HJ := Lib.hid (pjour_any wr HSR.out.pv.pu)
        have HLEN := Lib.hid (fun w' (ho : Only (fun _ => False) wr w') => (HSR.out.quiet ho).pv.len)
        have HPER := Lib.hid (fun w' (ho : Only (fun _ => False) wr w') => (HSR.out.quiet ho).pv.per)
        have HLD := Lib.hid HSR.out.len
        rw [HLD.out] at HLEN
        obtain ⟨aL, cL, hvL, -, -, -⟩ := own_le HSR.out.dk.oL
        subst hvL
        have HC0 : Hid (∀ w', Only (fun _ => False) wr w' → w'.cell? ⟨q, 165, none⟩ = some (.slice aL D.length cL) ∧ w'.cell? ⟨q, 167, none⟩ = some (.int .i64 (op : Int))) := Lib.hid (fun w' ho => ⟨ho.cell' HSR.out.dk.c0 (fun f => f), ho.cell' HSR.out.dk.c2 (fun f => f)⟩)
        have HN16 : Hid (D.length ≤ 16384) := Lib.hid HSR.out.dk.len
        clear hr5 HOI HBK HU1
        generalize hIL : fnd.nodU A 33 = IL at *
        generalize hn : IL.length = n9 at *
        have HNN := Lib.hid hn
        go_wp2_with fail
        refine HJ.out.mono ?_
        rintro _ _ ⟨rfl, rfl⟩
        clear HJ
        have b1 : ((D.length : Int) != (D.length : Int)) = false := by simp
        have b2 : ((op : Int) != (op : Int)) = false := by simp
        go_upto_region 11 with fail
        refine wp_region_noPanic ?_
        refine wp_region_held_drew (S := (fun w' => w'.cell? ⟨q, 165, none⟩ = some (.slice aL D.length cL) ∧ w'.cell? ⟨q, 167, none⟩ = some (.int .i64 (op : Int)))) (by kernel_rfl) (HC0.out _ ((Only.refl _ _).drew)) (fun hHeld => ?_)
        obtain ⟨z0, hz0⟩ : ∃ x, x = wr.drew := ⟨_, rfl⟩
        rw [← hz0] at hHeld ⊢
        have hot : Hid (Only (fun _ => False) wr z0) := Lib.hid (by rw [hz0]; exact (Only.refl _ _).drew)
        clear hz0
        refine sho.tk 0 ?_
        refine sho.tk 2 ?_
        refine wpAnyH_ready (rs := [1]) (by kernel_rfl) (by simp) ?_
        refine AllReadyH.cons rfl (fun K hK => ?_) AllReadyH.nil
        try simp only [List.getElem_toArray, List.getElem_cons_zero, List.getElem_cons_succ]
        go_simp
        go_at_call 17
        with_reducible refine (HNA.out _ hot.out).mono ?_
        rintro _ W1 ⟨⟨v, rfl, a6, c6, rfl, hr6, hb6⟩, ho⟩
        rw [HNN.out] at hr6 ⊢
        have HR6 := Lib.hid hr6
        have HR56 := Lib.hid (HR5.out.only (hot.out.trans ho) (fun _ _ f => f))
        replace hot := Lib.hid (hot.out.trans ho)
        clear ho hr6 hb6
        try dsimp only
        refine hK.out _ _ (HC0.out _ hot.out) (fun hHeld1 => ?_)
        clear hK K
        try simp only [List.getElem_toArray, List.getElem_cons_zero, List.getElem_cons_succ, Act.put, List.setIfInBounds_toArray, List.set_cons_zero, List.set_cons_succ]
        refine wpAnyH_ready (rs := [3]) (by kernel_rfl) (by simp) ?_
        refine AllReadyH.cons rfl (fun K hK => ?_) AllReadyH.nil
        try simp only [List.getElem_toArray, List.getElem_cons_zero, List.getElem_cons_succ]
        go_simp
        go_at_call 59
        with_reducible refine (tre.same_any _ _ _ _ _ _ _ HR6.out HR56.out).mono ?_
        rintro _ W2 ⟨rfl, ho⟩
        replace hot := Lib.hid (hot.out.trans ho)
        clear ho
        try dsimp only
        refine hK.out _ _ (HC0.out _ hot.out) (fun hHeld2 => ?_)
        clear hK K
        try simp only [List.getElem_toArray, List.getElem_cons_zero, List.getElem_cons_succ, Act.put, List.setIfInBounds_toArray, List.set_cons_zero, List.set_cons_succ]
        refine sho.tk 4 ?_
        refine sho.tk 5 ?_
        refine sho.tk 6 ?_
        refine sho.tk 8 ?_
        refine sho.tk 9 ?_
        refine sho.tk 10 ?_
        refine sho.tk 11 ?_
        refine sho.tk 12 ?_
        refine sho.tk 13 ?_
        refine wpAnyH_ready (rs := [7]) (by kernel_rfl) (by simp) ?_
        refine AllReadyH.cons rfl (fun K hK => ?_) AllReadyH.nil
        try simp only [List.getElem_toArray, List.getElem_cons_zero, List.getElem_cons_succ]
        go_simp
        go_at_call 60
        with_reducible refine (HLEN.out _ hot.out).mono ?_
        rintro _ _ ⟨rfl, rfl⟩
        try dsimp only
        refine hK.out _ _ (HC0.out _ hot.out) (fun hHeld3 => ?_)
        clear hK K
        try simp only [List.getElem_toArray, List.getElem_cons_zero, List.getElem_cons_succ, Act.put, List.setIfInBounds_toArray, List.set_cons_zero, List.set_cons_succ]
        refine sho.tk 14 ?_
        refine sho.tk 15 ?_
        refine sho.tk 16 ?_
        refine sho.tk 17 ?_
        refine sho.tk 19 ?_
        refine sho.tk 20 ?_
        refine sho.tk 21 ?_
        refine sho.tk 22 ?_
        refine sho.tk 23 ?_
        refine wpAnyH_ready (rs := [18]) (by kernel_rfl) (by simp) ?_
        refine AllReadyH.cons rfl (fun K hK => ?_) AllReadyH.nil
        try simp only [List.getElem_toArray, List.getElem_cons_zero, List.getElem_cons_succ]
        go_simp
        go_at_call 22
        with_reducible refine (HPER.out _ hot.out).mono ?_
        rintro _ _ ⟨rfl, rfl⟩
        try dsimp only
        refine hK.out _ _ (HC0.out _ hot.out) (fun hHeld4 => ?_)
        clear hK K
        try simp only [List.getElem_toArray, List.getElem_cons_zero, List.getElem_cons_succ, Act.put, List.setIfInBounds_toArray, List.set_cons_zero, List.set_cons_succ]
        refine sho.tk 24 ?_
        refine sho.tk 25 ?_
        refine wpAnyH_done (by kernel_rfl) ?_ _
        refine NoPanic.normal ?_
        rename World => ws
        have HOS := Lib.hid hot.out
        clear hHeld hot HNA HR5 HR6 HR56 HC0 HPER hn hIL hul b1 b2 hbf
        have HST := Lib.hid (HSR.out.quiet HOS.out)
        have HOW := Lib.hid (HO.out.trans HOS.out)
        have HLS := Lib.hid (fun w' (ho : Only (fun _ => False) ws w') => HLEN.out w' (HOS.out.trans ho))
        clear HLEN HSR HO HOS HS
        go_wp2_with fail
        go_loopw [9] (fun iv wx => ∃ k : Nat, k ≤ D.length ∧ iv = .int .i64 (k : Int) ∧ Hid (Only (fun _ => False) ws wx)) (fun iv _ => D.length - (intOf iv).toNat)
        case atStart => exact ⟨0, by omega, rfl, Lib.hid (Only.refl _ _)⟩
        case round =>
          obtain ⟨k, hk, rfl, HX⟩ := hrel
          rename World => wx
          have hwk : wrap64 ((k : Int) + 1) = (k : Int) + 1 := by have := HN16.out; unfold wrap64; omega
          by_cases hk8 : k < D.length
          · as_aux_lemma =>
              have hki : (k : Int) < (D.length : Int) := by omega
              have hk0 : (0 : Int) ≤ (k : Int) := by omega
              have HSX := Lib.hid (HST.out.quiet HX.out)
              obtain ⟨kd, g0, c0, per, cd, ls, gL, gW, cL9, cW, b, off, hvL, rfl, hLx, hl64, hin, hrl, e0, e1, e2⟩ := HSX.out.ent k hk8
              injection hvL with hvL1 hvL2 hvL3
              subst hvL1 hvL3
              have c65 := HSX.out.dk.c0
              have c66 := HSX.out.dk.c1
              have HCX : Hid (∀ w', Only (fun _ => False) wx w' → w'.cell? ⟨q, 165, none⟩ = some (.slice (some ⟨gL, 0, none⟩) D.length cL) ∧ w'.cell? ⟨q, 166, none⟩ = some (.slice (some ⟨gW, 0, none⟩) D.length cW) ∧ w'.cell? ⟨gL, k * 2, none⟩ = some (.int .i64 kd) ∧ w'.cell? ⟨gL, k * 2 + 1, none⟩ = some (.slice (some ⟨b, off, none⟩) ls.length cd) ∧ w'.cell? ⟨gW, k, none⟩ = some (.int .i64 (per : Int))) := Lib.hid (fun w' ho => ⟨ho.cell' c65 (fun f => f), ho.cell' c66 (fun f => f), ho.cell' e0 (fun f => f), ho.cell' e1 (fun f => f), ho.cell' e2 (fun f => f)⟩)
              have HRL := Lib.hid hrl
              have HIN := Lib.hid hin
              have HAT : Hid (Calls Tryz.prog 26 #[.pointer (some ⟨pj, 0, none⟩), .int .i64 (k : Int)] wx fun e w' => ∃ g cp, e = .returned (.tuple #[.agg #[.int .i64 kd, .slice (some ⟨g, 0, none⟩) ls.length cp], .int .i64 (per : Int), .int .i64 0]) ∧ entw.OwnL w' (.slice (some ⟨g, 0, none⟩) ls.length cp) ls ∧ wx.heap.size ≤ g ∧ Only (fun _ => False) wx w') := Lib.hid (by
                obtain ⟨v, mm, nn, hj9⟩ := HSX.out.pv.pu.jn
                exact jnw.at_any pj op v mm nn C L k (by have := HSX.out.len; omega) kd g0 ls.length c0 per ls hLx wx hj9)
              clear hvL2 c65 c66 e0 e1 e2 hrl hin hLx
              obtain ⟨ln, hln⟩ : ∃ x, x = ls.length := ⟨_, rfl⟩
              have HLL := Lib.hid hln
              rw [← hln] at HCX HAT HRL hl64
              clear hln
              go_wp2_with fail
              refine (HLS.out wx HX.out).mono ?_
              rintro _ _ ⟨rfl, rfl⟩
              go_wp2_with fail
              refine HAT.out.mono ?_
              rintro _ wa ⟨g, cp, rfl, hown, hgx, hoa⟩
              have HRX : Hid (entw.ReadsL wa (some ⟨g, 0, none⟩) ln ls) := Lib.hid (entw.OwnL.reads hown HLL.out (by have := HLL.out; omega) HIN.out)
              obtain ⟨e65, e66, f0, f1, f2⟩ := HCX.out wa hoa
              have HOA := Lib.hid (HX.out.trans hoa)
              obtain ⟨w7, hw7⟩ : ∃ x, x = wa.alloc (.cells #[.int .i64 kd, .slice (some ⟨g, 0, none⟩) ln cp] 67) := ⟨_, rfl⟩
              obtain ⟨g7, hg7⟩ : ∃ x, x = wa.heap.size := ⟨_, rfl⟩
              have ho7 : Only (fun _ => False) wa w7 := by rw [hw7]; exact (Only.refl _ _).alloc _
              have m0 : w7.cell? ⟨g7, 0, none⟩ = some (.int .i64 kd) := by rw [hw7]; exact alloc_cell hg7 rfl
              have m1 : w7.cell? ⟨g7, 1, none⟩ = some (.slice (some ⟨g, 0, none⟩) ln cp) := by rw [hw7]; exact alloc_cell hg7 rfl
              obtain ⟨w8, hw8⟩ : ∃ x, x = w7.alloc (.cells #[.int .i64 kd, .slice (some ⟨b, off, none⟩) ln cd] 75) := ⟨_, rfl⟩
              obtain ⟨g8, hg8⟩ : ∃ x, x = w7.heap.size := ⟨_, rfl⟩
              have ho8 : Only (fun _ => False) w7 w8 := by rw [hw8]; exact (Only.refl _ _).alloc _
              have HC8 : Hid (∀ w', Only (fun _ => False) w8 w' → w'.cell? ⟨g7, 0, none⟩ = some (.int .i64 kd) ∧ w'.cell? ⟨g7, 1, none⟩ = some (.slice (some ⟨g, 0, none⟩) ln cp) ∧ w'.cell? ⟨g8, 0, none⟩ = some (.int .i64 kd) ∧ w'.cell? ⟨g8, 1, none⟩ = some (.slice (some ⟨b, off, none⟩) ln cd)) := Lib.hid (fun w' ho => ⟨(ho8.trans ho).cell' m0 (fun f => f), (ho8.trans ho).cell' m1 (fun f => f), ho.cell' (by rw [hw8]; exact alloc_cell hg8 rfl) (fun f => f), ho.cell' (by rw [hw8]; exact alloc_cell hg8 rfl) (fun f => f)⟩)
              have HX8 : Hid (∀ w', Only (fun _ => False) w8 w' → w'.cell? ⟨q, 166, none⟩ = some (.slice (some ⟨gW, 0, none⟩) D.length cW) ∧ w'.cell? ⟨gW, k, none⟩ = some (.int .i64 (per : Int))) := Lib.hid (fun w' ho => by
                obtain ⟨-, x1, -, -, x2⟩ := HCX.out w' ((hoa.trans ho7).trans (ho8.trans ho))
                exact ⟨x1, x2⟩)
              have HRX8 : Hid (∀ w', Only (fun _ => False) w8 w' → entw.ReadsL w' (some ⟨g, 0, none⟩) ln ls ∧ entw.ReadsL w' (some ⟨b, off, none⟩) ln ls) := Lib.hid (fun w' ho => ⟨HRX.out.only ((ho7.trans ho8).trans ho) (fun _ _ f => f), HRL.out.only ((hoa.trans ho7).trans (ho8.trans ho)) (fun _ _ f => f)⟩)
              have HO8 : Hid (Only (fun _ => False) ws w8) := Lib.hid ((HOA.out.trans ho7).trans ho8)
              clear hown hgx hoa HAT HCX HRX HRL HOA m0 m1 HSX
              as_aux_lemma =>
                go_upto_region 17 with fail
                simp only [← hw7, ← hg7]
                obtain ⟨e65, e66, f0, f1, f2⟩ : w7.cell? ⟨q, 165, none⟩ = some (.slice (some ⟨gL, 0, none⟩) D.length cL) ∧ w7.cell? ⟨q, 166, none⟩ = some (.slice (some ⟨gW, 0, none⟩) D.length cW) ∧ w7.cell? ⟨gL, k * 2, none⟩ = some (.int .i64 kd) ∧ w7.cell? ⟨gL, k * 2 + 1, none⟩ = some (.slice (some ⟨b, off, none⟩) ln cd) ∧ w7.cell? ⟨gW, k, none⟩ = some (.int .i64 (per : Int)) := ⟨ho7.cell' e65 (fun f => f), ho7.cell' e66 (fun f => f), ho7.cell' f0 (fun f => f), ho7.cell' f1 (fun f => f), ho7.cell' f2 (fun f => f)⟩
                clear hw7 hg7 ho7
                go_upto_region 18 with fail
                simp only [← hw8, ← hg8]
                clear hw8 hg8 ho8 e65 e66 f0 f1 f2
                as_aux_lemma =>
                  obtain ⟨m0, m1, m2, m3⟩ := HC8.out _ (Only.refl _ _)
                  obtain ⟨m4, m5⟩ := HX8.out _ (Only.refl _ _)
                  have b1 : ((per : Int) != (per : Int)) = false := by simp
                  have b2 : (kd != kd) = false := by simp
                  have b3 : ((ln : Int) != (ln : Int)) = false := by simp
                  go_wp2_with fail
                  clear m0 m1 m2 m3 m4 m5 b1 b2 b3
                  as_aux_lemma =>
                    go_loopw [14] (fun tv wy => ∃ t : Nat, t ≤ ln ∧ tv = .int .i64 (t : Int) ∧ Hid (Only (fun _ => False) w8 wy)) (fun tv _ => ln - (intOf tv).toNat)
                    case atStart => exact ⟨0, by omega, rfl, Lib.hid (Only.refl _ _)⟩
                    case round =>
                      obtain ⟨t, ht, rfl, HY⟩ := hrel
                      rename World => wy
                      obtain ⟨m0, m1, m2, m3⟩ := HC8.out _ HY.out
                      by_cases ht8 : t < ln
                      · as_aux_lemma =>
                          have hti : (t : Int) < (ln : Int) := by omega
                          have ht0 : (0 : Int) ≤ (t : Int) := by omega
                          obtain ⟨hra, hrb⟩ := HRX8.out _ HY.out
                          obtain ⟨ba, oa, hae, hca⟩ := hra.2.2.2.resolve_left (by omega)
                          obtain ⟨bb, ob, hbe, hcb⟩ := hrb.2.2.2.resolve_left (by omega)
                          cases hae
                          cases hbe
                          obtain ⟨a0, a1, a2, a3⟩ := hca t ht8
                          obtain ⟨b0, b1, b2, b3⟩ := hcb t ht8
                          have hmem : ls.getD t default ∈ ls := by
                            have hlt : t < ls.length := by have := HLL.out; omega
                            rw [List.getD_eq_getElem?_getD, List.getElem?_eq_getElem hlt]; exact List.getElem_mem hlt
                          have hinl := HIN.out _ hmem
                          generalize ls.getD t default = lg at *
                          obtain ⟨lk, lm, lgr, lam⟩ := lg
                          obtain ⟨i0, i2, i3, i4⟩ := hinl
                          dsimp only at a0 a1 a2 a3 b0 b1 b2 b3 i0 i2 i3 i4
                          rw [Nat.zero_add] at a0 a1 a2 a3
                          have hl1 := lg_cmp 9990 lk lm lgr lam i0 i2 i3 i4
                          have hl2 := lg_cmp 9989 lk lm lgr lam i0 i2 i3 i4
                          obtain ⟨w9, hw9⟩ : ∃ x, x = wy.alloc (.cells #[.int .i64 lk, .int .i64 lm, .int .i64 lgr, .int .i64 lam] 94) := ⟨_, rfl⟩
                          obtain ⟨g9, hg9⟩ : ∃ x, x = wy.heap.size := ⟨_, rfl⟩
                          have ho9 : Only (fun _ => False) wy w9 := by rw [hw9]; exact (Only.refl _ _).alloc _
                          have HC9 : Hid (∀ w', Only (fun _ => False) w9 w' → w'.cell? ⟨g7, 1, none⟩ = some (.slice (some ⟨g, 0, none⟩) ln cp) ∧ (w'.cell? ⟨g, t * 4, none⟩ = some (.int .i64 lk) ∧ w'.cell? ⟨g, t * 4 + 1, none⟩ = some (.int .i64 lm) ∧ w'.cell? ⟨g, t * 4 + 2, none⟩ = some (.int .i64 lgr) ∧ w'.cell? ⟨g, t * 4 + 3, none⟩ = some (.int .i64 lam)) ∧ w'.cell? ⟨g9, 0, none⟩ = some (.int .i64 lk) ∧ w'.cell? ⟨g9, 1, none⟩ = some (.int .i64 lm) ∧ w'.cell? ⟨g9, 2, none⟩ = some (.int .i64 lgr) ∧ w'.cell? ⟨g9, 3, none⟩ = some (.int .i64 lam)) := Lib.hid (fun w' ho => ⟨(ho9.trans ho).cell' m1 (fun f => f), ⟨(ho9.trans ho).cell' a0 (fun f => f), (ho9.trans ho).cell' a1 (fun f => f), (ho9.trans ho).cell' a2 (fun f => f), (ho9.trans ho).cell' a3 (fun f => f)⟩, ho.cell' (by rw [hw9]; exact alloc_cell hg9 rfl) (fun f => f), ho.cell' (by rw [hw9]; exact alloc_cell hg9 rfl) (fun f => f), ho.cell' (by rw [hw9]; exact alloc_cell hg9 rfl) (fun f => f), ho.cell' (by rw [hw9]; exact alloc_cell hg9 rfl) (fun f => f)⟩)
                          have HO9 := Lib.hid (HY.out.trans ho9)
                          have hb3 := run_buildT3
                          have hbg := run_buildG
                          clear hca hcb hra hrb hmem i0 i2 i3 i4 a0 a1 a2 a3 ho9
                          go_upto_region 24 with fail
                          simp only [← hw9, ← hg9]
                          clear hw9 hg9 b0 b1 b2 b3 m0 m1 m2 m3
                          refine wp_region_noPanic ?_
                          refine wp_region_held_drew (S := (fun w' => w'.cell? ⟨g7, 1, none⟩ = some (.slice (some ⟨g, 0, none⟩) ln cp) ∧ (w'.cell? ⟨g, t * 4, none⟩ = some (.int .i64 lk) ∧ w'.cell? ⟨g, t * 4 + 1, none⟩ = some (.int .i64 lm) ∧ w'.cell? ⟨g, t * 4 + 2, none⟩ = some (.int .i64 lgr) ∧ w'.cell? ⟨g, t * 4 + 3, none⟩ = some (.int .i64 lam)) ∧ w'.cell? ⟨g9, 0, none⟩ = some (.int .i64 lk) ∧ w'.cell? ⟨g9, 1, none⟩ = some (.int .i64 lm) ∧ w'.cell? ⟨g9, 2, none⟩ = some (.int .i64 lgr) ∧ w'.cell? ⟨g9, 3, none⟩ = some (.int .i64 lam))) (by kernel_rfl) (HC9.out _ ((Only.refl _ _).drew)) (fun hHeld => ?_)
                          obtain ⟨z0, hz0⟩ : ∃ x, x = w9.drew := ⟨_, rfl⟩
                          rw [← hz0] at hHeld ⊢
                          have hot : Hid (Only (fun _ => False) w9 z0) := Lib.hid (by rw [hz0]; exact (Only.refl _ _).drew)
                          clear hz0
                          refine sho.tk 0 ?_
                          refine sho.tk 1 ?_
                          refine sho.tk 2 ?_
                          refine sho.tk 3 ?_
                          refine sho.tk 4 ?_
                          refine sho.tk 5 ?_
                          refine sho.tk 6 ?_
                          refine sho.tk 7 ?_
                          refine sho.tk 8 ?_
                          refine sho.tk 9 ?_
                          refine sho.tk 10 ?_
                          refine sho.tk 11 ?_
                          refine sho.tk 12 ?_
                          refine sho.tk 13 ?_
                          refine sho.tk 14 ?_
                          refine sho.tk 15 ?_
                          refine wpAnyH_done (by kernel_rfl) ?_ _
                          refine NoPanic.normal ?_
                          have HZ := Lib.hid (HO9.out.trans hot.out)
                          clear hHeld hot HC9 hl1 hl2 hb3 hbg
                          go_wp2_with fail
                          go_roundw
                          case rel => exact ⟨t + 1, by omega, by go_num, HZ⟩
                          case measure => (simp [intOf]; omega)
                      · have hti : ¬ (t : Int) < (ln : Int) := by omega
                        have HZ := Lib.hid (HO8.out.trans HY.out)
                        go_wp2_with fail
                        go_roundw
                        case rel => exact ⟨k + 1, by omega, by go_num, HZ⟩
                        case measure => exact meas k D.length hk8 _ hwk
          · have hki : ¬ (k : Int) < (D.length : Int) := by omega
            have HEND : Hid (Only (fun _ => False) w wx) := Lib.hid (HOW.out.trans HX.out)
            go_wp2_with fail
            refine (HLS.out wx HX.out).mono ?_
            rintro _ _ ⟨rfl, rfl⟩
            go_wp2_with fail
            go_ret
            exact ⟨rfl, HEND.out⟩
end Go.Proofs.YtkbaafgaaiekpaaGreat.pdw
namespace Go.Proofs.YtkbaafgaaiekpaaGreat.pdw
open Go.RowKit mem entm puw tre
set_option linter.unusedVariables false

theorem PD.low {base base' p q n : Nat} {w : World} (h : PD base' p q n w) (hb : base ≤ base') : PD base p q n w := by
  obtain ⟨Sp, Sd, pb, pj, op, A, C, L, vL, vW, D, h⟩ := h
  exact ⟨Sp, Sd, pb, pj, op, A, C, L, vL, vW, D, { h with ap := fun k hk => ⟨Nat.le_trans hb (h.ap k hk).1, (h.ap k hk).2⟩, ad := fun k hk => ⟨Nat.le_trans hb (h.ad k hk).1, (h.ad k hk).2⟩ }⟩
set_option maxRecDepth 100000 in
set_option maxHeartbeats 16000000 in
theorem acts_walk (a1 : Option Addr) (l1 c1 : Nat) (w0 : World) (h0 : RowT w0 a1 l1) :
    Calls Tryz.prog 3 #[.slice a1 l1 c1] w0 fun e w' => e = .returned (.bool true) ∧ Only (fun _ => False) w0 w' := by
  have hm1 := h0.1
  unfold maxLen at hm1
  have H0 := Lib.hid h0
  clear h0
  go_enter Tryz.func3, Tryz.ntmps3
  have HK0 : Hid (Only (fun _ => False) w0 w0) := Lib.hid (Only.refl _ _)
  go_wp2_with fail
  refine (none_any _).mono ?_
  rintro _ _ ⟨rfl, rfl⟩
  go_wp2_with fail
  refine (roll_nil _ _ _ _).mono ?_
  rintro _ _ ⟨rfl, rfl⟩
  go_wp2_with fail
  refine (none_any _).mono ?_
  rintro _ _ ⟨rfl, rfl⟩
  go_wp2_with fail
  refine (room_nil _ _ _ _ _ _ _).mono ?_
  rintro _ _ ⟨rfl, rfl⟩
  go_wp2_with fail
  refine (purses_any _).mono ?_
  rintro _ k1 ⟨rfl, ho⟩
  have HK1 : Hid (Only (fun _ => False) w0 k1) := Lib.hid (HK0.out.trans ho)
  clear ho HK0
  go_wp2_with fail
  refine (none_any _).mono ?_
  rintro _ _ ⟨rfl, rfl⟩
  go_wp2_with fail
  refine (top_nil _ _ _).mono ?_
  rintro _ k2 ⟨rfl, ho⟩
  have HK2 : Hid (Only (fun _ => False) w0 k2) := Lib.hid (HK1.out.trans ho)
  clear ho HK1
  go_wp2_with fail
  refine (none_any _).mono ?_
  rintro _ _ ⟨rfl, rfl⟩
  go_wp2_with fail
  refine (hold_nil _ _ _ _ _ _ _ _).mono ?_
  rintro _ k3 ⟨rfl, ho⟩
  have HK3 : Hid (Only (fun _ => False) w0 k3) := Lib.hid (HK2.out.trans ho)
  clear ho HK2
  go_wp2_with fail
  refine (none_any _).mono ?_
  rintro _ _ ⟨rfl, rfl⟩
  go_wp2_with fail
  refine (rel_nil _ _ _ _ _).mono ?_
  rintro _ k4 ⟨rfl, ho⟩
  have HK4 : Hid (Only (fun _ => False) w0 k4) := Lib.hid (HK3.out.trans ho)
  clear ho HK3
  go_wp2_with fail
  refine (none_any _).mono ?_
  rintro _ _ ⟨rfl, rfl⟩
  go_wp2_with fail
  refine (com_nil _ _ _ _ _ _).mono ?_
  rintro _ k5 ⟨rfl, ho⟩
  have HK5 : Hid (Only (fun _ => False) w0 k5) := Lib.hid (HK4.out.trans ho)
  clear ho HK4
  go_wp2_with fail
  refine (none_any _).mono ?_
  rintro _ _ ⟨rfl, rfl⟩
  go_wp2_with fail
  refine (ref_nil _ _ _ _ _ _).mono ?_
  rintro _ k9 ⟨rfl, ho⟩
  have K9 : Hid (Only (fun _ => False) w0 k9) := Lib.hid (HK5.out.trans ho)
  clear ho HK5
  go_wp2_with fail
  refine (none_any _).mono ?_
  rintro _ _ ⟨rfl, rfl⟩
  go_wp2_with fail
  refine (avail_nil _ _).mono ?_
  rintro _ _ ⟨rfl, rfl⟩
  go_wp2_with fail
  refine (none_any _).mono ?_
  rintro _ _ ⟨rfl, rfl⟩
  go_wp2_with fail
  refine (jour_nil _).mono ?_
  rintro _ _ ⟨rfl, rfl⟩
  go_wp2_with fail
  refine (none_any _).mono ?_
  rintro _ _ ⟨rfl, rfl⟩
  go_wp2_with fail
  refine (nodes_nil _).mono ?_
  rintro _ _ ⟨rfl, rfl⟩
  as_aux_lemma =>
    go_wp2_with fail
    refine (pnew_any k9).mono ?_
    rintro _ w1 ⟨p, pb, pj, rfl, hp, ho1⟩
    obtain ⟨w2, hw2⟩ : ∃ x, x = w1.alloc (.cells Tryz.zeroCells49 49) := ⟨_, rfl⟩
    obtain ⟨q, hq⟩ : ∃ x, x = w1.heap.size := ⟨_, rfl⟩
    have HPD0 := Lib.hid ((PD.start hp hw2 hq ho1.size).low K9.out.size)
    have HX0 : Hid (Only (fun x => w0.heap.size ≤ x) w0 w2) := Lib.hid (by rw [hw2]; exact ((K9.out.trans ho1).mono (fun _ _ f => f.elim)).alloc _)
    clear hp ho1
    go_upto_region 6 with fail
    simp only [← hw2, ← hq]
    clear hw2 hq
    as_aux_lemma =>
      go_wp2_with fail
      go_loopw [9] (fun iv wr => ∃ i : Nat, i ≤ l1 ∧ i ≤ 40 ∧ iv = .int .i64 (i : Int) ∧ Hid (PD w0.heap.size p q i wr) ∧ Hid (Only (fun x => w0.heap.size ≤ x) w0 wr)) (fun iv _ => 40 - (intOf iv).toNat)
      case atStart => exact ⟨0, by omega, by omega, rfl, HPD0, HX0⟩
      case round =>
        clear HPD0 HX0
        obtain ⟨i, hi, hi40, rfl, HPD, HX⟩ := hrel
        rename World => wr
        by_cases h8 : i < l1
        · by_cases h60 : i < 40
          · have h60' : (i : Int) < 40 := by omega
            have h8' : (i : Int) < (l1 : Int) := by omega
            have hi0 : (0 : Int) ≤ (i : Int) := by omega
            obtain ⟨b, off, rfl, hrow⟩ := H0.out.2.resolve_left (by omega)
            obtain ⟨⟨dw, dn, dpa, dpn, dpc, dpl, dla, dln, dlc, dll, dam, dgr, dca, dcn, dcc, dcl⟩, hat, har⟩ := hrow i h8
            obtain ⟨e0, e1, e2, e3, e4, e5, e6⟩ := hat.keep (Nat.le_refl _) HX.out
            have har2 := har.keep (Nat.le_refl _) HX.out
            dsimp only at e0 e1 e2 e3 e4 e5 e6
            have HDO := Lib.hid (do_any dw dn dpa dpn dpc dpl dla dln dlc dll dam dgr dca dcn dcc dcl wr HPD.out (by omega) har2.nd har2.gr har2.p har2.l har2.c)
            clear hrow hat har har2
            go_wp2_with fail
            refine HDO.out.mono ?_
            rintro _ w4 ⟨rfl, ho4, hS⟩
            have HX4 : Hid (Only (fun x => w0.heap.size ≤ x) w0 w4) := Lib.hid (HX.out.trans ho4)
            have HS := Lib.hid hS
            clear ho4 hS HDO HPD HX e0 e1 e2 e3 e4 e5 e6
            go_wp2_with fail
            go_roundw
            case rel => exact ⟨i + 1, by omega, by omega, by go_num, HS, HX4⟩
            case measure => (simp [intOf]; omega)
          · have h60' : ¬ (i : Int) < 40 := by omega
            have h8' : (i : Int) < (l1 : Int) := by omega
            obtain ⟨Sp, Sd, pb4, pj4, op, A, C, L, vL, vW, D, hS⟩ := HPD.out
            have HLK := Lib.hid (like_any wr hS)
            clear hS HPD
            go_wp2_with fail
            refine HLK.out.mono ?_
            rintro _ wz ⟨rfl, hoz⟩
            have HEND : Hid (Only (fun _ => False) w0 wz) := Lib.hid (((Only.refl (fun _ => False) w0).then HX.out (fun x hx e => by omega)).trans hoz)
            clear hoz HLK
            go_wp2_with fail
            go_ret
            exact ⟨rfl, HEND.out⟩
        · have h8' : ¬ (i : Int) < (l1 : Int) := by omega
          obtain ⟨Sp, Sd, pb4, pj4, op, A, C, L, vL, vW, D, hS⟩ := HPD.out
          have HLK := Lib.hid (like_any wr hS)
          clear hS HPD
          go_wp2_with fail
          refine HLK.out.mono ?_
          rintro _ wz ⟨rfl, hoz⟩
          have HEND : Hid (Only (fun _ => False) w0 wz) := Lib.hid (((Only.refl (fun _ => False) w0).then HX.out (fun x hx e => by omega)).trans hoz)
          clear hoz HLK
          go_wp2_with fail
          go_ret
          exact ⟨rfl, HEND.out⟩
theorem acts_below (a1 : Option Addr) (l1 c1 : Nat) (w0 : World) (h0 : RowT w0 a1 l1) :
    Calls Tryz.prog 3 #[.slice a1 l1 c1] w0 fun e w' => e = .returned (.bool true) ∧ Below w0.heap.size w0 w' := (acts_walk a1 l1 c1 w0 h0).mono (fun e w' h => ⟨h.1, h.2.none⟩)
end Go.Proofs.YtkbaafgaaiekpaaGreat.pdw
