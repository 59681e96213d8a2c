/- The tree: SetLimit, Put, Create, Move. -/
import Derived.Test.YtfpeimihlihphaaTrA
namespace Go.Proofs.Ytfpeimihlihphaa.tre
open Go.RowKit mem
set_option linter.unusedVariables false

theorem NdAt.iff {w : World} {b o : Nat} {n : Nd} : NdAt w b o n ↔ ∀ c, c < 5 → w.cell? ⟨b, o + c, none⟩ = (encN n)[c]? := by
  constructor
  · rintro ⟨h0, h1, h2, h3, h4⟩ c hc
    match c, hc with
    | 0, _ => exact h0
    | 1, _ => exact h1
    | 2, _ => exact h2
    | 3, _ => exact h3
    | 4, _ => exact h4
  · intro h
    exact ⟨h 0 (by omega), h 1 (by omega), h 2 (by omega), h 3 (by omega), h 4 (by omega)⟩
theorem getD_set (T : List Nd) (k j : Nat) (n : Nd) (hk : k < T.length) : (T.set k n).getD j default = if j = k then n else T.getD j default := by
  by_cases h : j = k
  · subst h; simp [List.getD, hk]
  · rw [if_neg h]; simp [List.getD, Ne.symm h]
/-- one cell of a node is stored into -/
theorem TreeAt.store {w : World} {p : Nat} {T : List Nd} (h : TreeAt w p T) (k c : Nat) (v : Value) (n' : Nd) (hk : k < 33) (hc : c < 5) (he : encN n' = (encN (T.getD k default)).set c v) : TreeAt (w.setCell ⟨p, k * 5 + c, none⟩ v) p (T.set k n') := by
  obtain ⟨hl, hn, hf⟩ := h
  refine ⟨by simpa using hl, fun j hj => NdAt.iff.2 fun d hd => ?_, fun j hj => frozen_set.trans (hf j hj)⟩
  rw [getD_set T k j n' (by omega)]
  have h0 := NdAt.iff.1 (hn j hj) d hd
  by_cases hjk : j = k
  · subst hjk
    rw [if_pos rfl, he]
    by_cases hdc : d = c
    · subst hdc
      have hlen : d < (encN (T.getD j default)).length := hd
      rw [List.getElem?_set_self hlen]
      obtain ⟨u, hu⟩ : ∃ u, (encN (T.getD j default))[d]? = some u := ⟨_, List.getElem?_eq_getElem hlen⟩
      exact cell_same (h0.trans hu)
    · rw [List.getElem?_set_ne (Ne.symm hdc), cell_other (off_ne (by omega))]
      exact h0
  · rw [if_neg hjk, cell_other (off_ne (by omega))]
    exact h0
theorem TreeAt.drew {w : World} {p : Nat} {T : List Nd} (h : TreeAt w p T) : TreeAt w.drew p T := h.only ((Only.refl (fun _ => False) w).drew) (fun f => f)
/-- a whole node is stored -/
theorem TreeAt.put {w : World} {p : Nat} {T : List Nd} (h : TreeAt w p T) (k : Nat) (n : Nd) (hk : k < 33) : TreeAt (put5 w p (k * 5) (.int .i64 n.id) (.int .i64 n.par) (.int .i64 n.kind) (.int .i64 n.lim) (.bool n.cl)) p (T.set k n) := by
  obtain ⟨hl, hn, hf⟩ := h
  refine ⟨by simpa using hl, fun j hj => ?_, fun j hj => (put5_froz _ _ _ _ _ _ _ _ _).trans (hf j hj)⟩
  rw [getD_set T k j n (by omega)]
  obtain ⟨h0, h1, h2, h3, h4⟩ := hn k hk
  by_cases hjk : j = k
  · subst hjk
    rw [if_pos rfl]
    exact put5_cells _ _ _ _ _ h0 h1 h2 h3 h4
  · rw [if_neg hjk]
    obtain ⟨g0, g1, g2, g3, g4⟩ := hn j hj
    exact ⟨(put5_far _ _ _ _ _ _ _ _ _ (by omega)).trans g0, (put5_far _ _ _ _ _ _ _ _ _ (by omega)).trans g1, (put5_far _ _ _ _ _ _ _ _ _ (by omega)).trans g2, (put5_far _ _ _ _ _ _ _ _ _ (by omega)).trans g3, (put5_far _ _ _ _ _ _ _ _ _ (by omega)).trans g4⟩
/-- the tree is T' behind the call, which answers E -/
def Did (p : Nat) (T' : List Nd) (E : Int) (w : World) (e : Ending) (w' : World) : Prop := e = .returned (.int .i64 E) ∧ TreeAt w' p T' ∧ Only (fun q => q = p) w w'
theorem Only.p {w w' : World} (p : Nat) (h : Only (fun _ => False) w w') : Only (fun q => q = p) w w' := h.mono (fun _ _ f => f.elim)

def limE (T : List Nd) (id lim : Int) : Int := if hasB T id = false then 7 else if ¬ (-1 ≤ lim ∧ lim ≤ 9007199254740992) then 1 else if (got T id).cl = true then 16 else 0
def limT (T : List Nd) (id lim : Int) : List Nd := if limE T id lim = 0 then T.set id.toNat { got T id with lim := lim } else T
/-- what is known ahead of a call that asks for a node first -/
theorem get_ahead (p : Nat) (T : List Nd) (id : Int) (w : World) (h : TreeAt w p T) : ∃ ni np nk nl nc ge, got T id = ⟨ni, np, nk, nl, nc⟩ ∧ gotE T id = ge ∧ (hasB T id = false → ge = 7) ∧ (hasB T id = true → ge = 0 ∧ ∃ k : Nat, id = k ∧ 1 ≤ k ∧ k < 33 ∧ T.getD k default = ⟨ni, np, nk, nl, nc⟩ ∧ ni ≠ 0) ∧
    Hid (Calls Try.prog 12 #[.pointer (some ⟨p, 0, none⟩), .int .i64 id] w fun e w' => e = .returned (.tuple #[.agg #[.int .i64 ni, .int .i64 np, .int .i64 nk, .int .i64 nl, .bool nc], .int .i64 ge]) ∧ Only (fun _ => False) w w') ∧
    Hid (∀ w1, Only (fun _ => False) w w1 → (w1.alloc (.cells #[.int .i64 ni, .int .i64 np, .int .i64 nk, .int .i64 nl, .bool nc] 24)).cell? ⟨w1.heap.size, 0, none⟩ = some (.int .i64 ni) ∧
      (w1.alloc (.cells #[.int .i64 ni, .int .i64 np, .int .i64 nk, .int .i64 nl, .bool nc] 24)).cell? ⟨w1.heap.size, 1, none⟩ = some (.int .i64 np) ∧
      (w1.alloc (.cells #[.int .i64 ni, .int .i64 np, .int .i64 nk, .int .i64 nl, .bool nc] 24)).cell? ⟨w1.heap.size, 2, none⟩ = some (.int .i64 nk) ∧
      (w1.alloc (.cells #[.int .i64 ni, .int .i64 np, .int .i64 nk, .int .i64 nl, .bool nc] 24)).cell? ⟨w1.heap.size, 3, none⟩ = some (.int .i64 nl) ∧
      (w1.alloc (.cells #[.int .i64 ni, .int .i64 np, .int .i64 nk, .int .i64 nl, .bool nc] 24)).cell? ⟨w1.heap.size, 4, none⟩ = some (.bool nc) ∧
      Only (fun _ => False) w (w1.alloc (.cells #[.int .i64 ni, .int .i64 np, .int .i64 nk, .int .i64 nl, .bool nc] 24))) := by
  refine ⟨(got T id).id, (got T id).par, (got T id).kind, (got T id).lim, (got T id).cl, gotE T id, rfl, rfl, fun e => by unfold gotE; rw [e]; rfl, fun e => ?_, Lib.hid (get_any p T id w h), Lib.hid fun w1 ho => node_box _ _ _ _ _ _ ho⟩
  obtain ⟨h1, h2, h3⟩ := hasB_iff.1 e
  have hg : got T id = T.getD id.toNat default := by unfold got; rw [if_pos e]
  exact ⟨by unfold gotE; rw [if_pos e], id.toNat, by omega, by omega, by omega, by rw [hg], by rw [hg]; exact h3⟩
set_option maxHeartbeats 2000000 in
theorem setlimit_any (p : Nat) (T : List Nd) (id lim : Int) (w : World) (h : TreeAt w p T) : Calls Try.prog 19 #[.pointer (some ⟨p, 0, none⟩), .int .i64 id, .int .i64 lim] w (Did p (limT T id lim) (limE T id lim) w) := by
  obtain ⟨ni, np, nk, nl, nc, ge, hgo, hge, hno, hyes, HG, HX⟩ := get_ahead p T id w h
  have HT := Lib.hid h
  clear h
  by_cases hb : hasB T id = false
  · obtain rfl := hno hb
    have hE : limE T id lim = 7 := by unfold limE; rw [if_pos hb]
    have hT : limT T id lim = T := by unfold limT; rw [hE]; rfl
    rw [hE, hT]
    clear hE hT hgo hge hno hyes hb
    go_enter Try.func19, Try.ntmps19
    go_wp2_with fail
    refine HG.out.mono ?_
    rintro _ w1 ⟨rfl, ho⟩
    obtain ⟨e0, e1, e2, e3, e4, ho9⟩ := HX.out w1 ho
    have HO9 := Lib.hid ho9
    clear ho ho9 HG HX
    go_wp2_with fail
    go_ret
    exact ⟨rfl, HT.out.only HO9.out (fun f => f), Only.p p HO9.out⟩
  · obtain ⟨rfl, k, rfl, hk1, hk, hgk, hi0⟩ := hyes (by simpa using hb)
    by_cases hl : -1 ≤ lim ∧ lim ≤ 9007199254740992
    · cases nc
      · have hE : limE T k lim = 0 := by unfold limE; rw [if_neg hb, if_neg (fun q => q hl), if_neg (by rw [hgo]; simp)]
        have hT : limT T k lim = T.set k ⟨ni, np, nk, lim, false⟩ := by unfold limT; rw [hE, if_pos rfl, hgo, Int.toNat_natCast]
        rw [hE, hT]
        have hk2 : (k : Int) < 33 := by omega
        have hk0 : (1 : Int) ≤ k := by omega
        obtain ⟨l1, l2⟩ := hl
        have HST : Hid (∀ w1, Only (fun _ => False) w w1 → TreeAt (w1.setCell ⟨p, k * 5 + 3, none⟩ (.int .i64 lim)) p (T.set k ⟨ni, np, nk, lim, false⟩)) := Lib.hid (fun w1 ho => (HT.out.only ho (fun f => f)).store k 3 _ _ hk (by omega) (by rw [hgk]; rfl))
        have HCL : Hid (∀ w1, Only (fun _ => False) w w1 → (∃ u, w1.cell? ⟨p, k * 5 + 3, none⟩ = some u) ∧ w1.frozen? ⟨p, k * 5 + 3, none⟩ = false) := Lib.hid (fun w1 ho => ⟨⟨_, ((HT.out.only ho (fun f => f)).2.1 k hk).2.2.2.1⟩, (HT.out.only ho (fun f => f)).2.2 _ (by omega)⟩)
        have HL : Hid (∀ w1, _) := Lib.hid (fun w1 => islimit_yes lim w1 l1 l2)
        clear hE hT hgo hge hno hyes hb hgk hi0 l1 l2
        go_enter Try.func19, Try.ntmps19
        go_wp2_with fail
        refine HG.out.mono ?_
        rintro _ w1 ⟨rfl, ho⟩
        obtain ⟨e0, e1, e2, e3, e4, ho9⟩ := HX.out w1 ho
        have HO9 := Lib.hid ho9
        obtain ⟨⟨u, cu⟩, fu⟩ := HCL.out _ ho9
        clear ho ho9 HG HX HCL
        go_wp2_with fail
        refine (HL.out _).mono ?_
        rintro _ _ ⟨rfl, rfl⟩
        go_wp2_with fail
        go_ret
        exact ⟨rfl, HST.out _ HO9.out, (Only.p p HO9.out).trans (Only.set _ _ _ _ _ rfl)⟩
      · have hE : limE T k lim = 16 := by unfold limE; rw [if_neg hb, if_neg (fun q => q hl), if_pos (by rw [hgo])]
        have hT : limT T k lim = T := by unfold limT; rw [hE]; rfl
        rw [hE, hT]
        have HL : Hid (∀ w1, _) := Lib.hid (fun w1 => islimit_yes lim w1 hl.1 hl.2)
        clear hE hT hgo hge hno hyes hb hgk hi0 hl
        go_enter Try.func19, Try.ntmps19
        go_wp2_with fail
        refine HG.out.mono ?_
        rintro _ w1 ⟨rfl, ho⟩
        obtain ⟨e0, e1, e2, e3, e4, ho9⟩ := HX.out w1 ho
        have HO9 := Lib.hid ho9
        clear ho ho9 HG HX
        go_wp2_with fail
        refine (HL.out _).mono ?_
        rintro _ _ ⟨rfl, rfl⟩
        go_wp2_with fail
        go_ret
        exact ⟨rfl, HT.out.only HO9.out (fun f => f), Only.p p HO9.out⟩
    · have hE : limE T k lim = 1 := by unfold limE; rw [if_neg hb, if_pos hl]
      have hT : limT T k lim = T := by unfold limT; rw [hE]; rfl
      rw [hE, hT]
      have HL : Hid (∀ w1, _) := Lib.hid (fun w1 => islimit_no lim w1 hl)
      clear hE hT hgo hge hno hyes hb hgk hi0 hl
      go_enter Try.func19, Try.ntmps19
      go_wp2_with fail
      refine HG.out.mono ?_
      rintro _ w1 ⟨rfl, ho⟩
      obtain ⟨e0, e1, e2, e3, e4, ho9⟩ := HX.out w1 ho
      have HO9 := Lib.hid ho9
      clear ho ho9 HG HX
      go_wp2_with fail
      refine (HL.out _).mono ?_
      rintro _ _ ⟨rfl, rfl⟩
      go_wp2_with fail
      go_ret
      exact ⟨rfl, HT.out.only HO9.out (fun f => f), Only.p p HO9.out⟩

def movE (T : List Nd) (id par : Int) : Int := if hasB T id = false then 7 else if (got T id).cl = true then 16 else if (got T id).kind = 1 then 21 else if takE T par (got T id).kind ≠ 0 then takE T par (got T id).kind else if (got T id).par = par then 8 else 0
def movT (T : List Nd) (id par : Int) : List Nd := if movE T id par = 0 then T.set id.toNat { got T id with par := par } else T
def KindOk (T : List Nd) : Prop := ∀ k, 0 ≤ (T.getD k default).kind ∧ (T.getD k default).kind ≤ 3
set_option maxHeartbeats 2000000 in
theorem move_any (p : Nat) (T : List Nd) (id par : Int) (w : World) (h : TreeAt w p T) (hko : KindOk T) : Calls Try.prog 17 #[.pointer (some ⟨p, 0, none⟩), .int .i64 id, .int .i64 par] w (Did p (movT T id par) (movE T id par) w) := by
  obtain ⟨ni, np, nk, nl, nc, ge, hgo, hge, hno, hyes, HG, HX⟩ := get_ahead p T id w h
  have HT := Lib.hid h
  clear h
  by_cases hb : hasB T id = false
  · obtain rfl := hno hb
    have hgk : True := trivial
    have hi0 : True := trivial
    have hE : movE T id par = 7 := by unfold movE; rw [if_pos hb]
    have hT : movT T id par = T := by unfold movT; rw [hE]; rfl
    rw [hE, hT]
    clear hE hT hgo hge hno hyes hb hgk hi0
    go_enter Try.func17, Try.ntmps17
    go_wp2_with fail
    refine HG.out.mono ?_
    rintro _ w1 ⟨rfl, ho⟩
    obtain ⟨e0, e1, e2, e3, e4, ho9⟩ := HX.out w1 ho
    have HO9 := Lib.hid ho9
    clear ho ho9 HG HX
    go_wp2_with fail
    go_ret
    exact ⟨rfl, HT.out.only HO9.out (fun f => f), Only.p p HO9.out⟩
  · obtain ⟨rfl, k, rfl, hk1, hk, hgk, hi0⟩ := hyes (by simpa using hb)
    have hkk := hko k
    rw [hgk] at hkk
    dsimp only at hkk
    cases nc
    · by_cases h1 : nk = 1
      · subst h1
        have hE : movE T k par = 21 := by unfold movE; rw [if_neg hb, hgo, if_neg (by simp), if_pos rfl]
        have hT : movT T k par = T := by unfold movT; rw [hE]; rfl
        rw [hE, hT]
        clear hkk
        clear hE hT hgo hge hno hyes hb hgk hi0
        go_enter Try.func17, Try.ntmps17
        go_wp2_with fail
        refine HG.out.mono ?_
        rintro _ w1 ⟨rfl, ho⟩
        obtain ⟨e0, e1, e2, e3, e4, ho9⟩ := HX.out w1 ho
        have HO9 := Lib.hid ho9
        clear ho ho9 HG HX
        go_wp2_with fail
        go_ret
        exact ⟨rfl, HT.out.only HO9.out (fun f => f), Only.p p HO9.out⟩
      · have HTK : Hid (∀ w1, TreeAt w1 p T → _) := Lib.hid (fun w1 h => takes_any p T par nk w1 h (by omega))
        have hE0 : movE T k par = if takE T par nk ≠ 0 then takE T par nk else if np = par then 8 else 0 := by unfold movE; rw [if_neg hb, hgo, if_neg (by simp), if_neg h1]
        have hT0 : movT T k par = if movE T k par = 0 then T.set k ⟨ni, par, nk, nl, false⟩ else T := by unfold movT; rw [hgo, Int.toNat_natCast]
        generalize takE T par nk = te at *
        by_cases h2 : te = 0
        · subst h2
          rw [if_neg (by simp)] at hE0
          by_cases h3 : np = par
          · rw [if_pos h3] at hE0
            rw [hE0] at hT0
            rw [if_neg (by decide)] at hT0
            rw [hE0, hT0]
            subst h3
            clear hE0 hT0 hgo hge hno hyes hb hgk hi0 hkk
            go_enter Try.func17, Try.ntmps17
            go_wp2_with fail
            refine HG.out.mono ?_
            rintro _ w1 ⟨rfl, ho⟩
            obtain ⟨e0, e1, e2, e3, e4, ho9⟩ := HX.out w1 ho
            have HO9 := Lib.hid ho9
            clear HG HX
            go_wp2_with fail
            refine (HTK.out _ (HT.out.only HO9.out (fun f => f))).mono ?_
            rintro _ w2 ⟨rfl, ho2⟩
            replace e1 := ho2.cell' e1 (fun f => f)
            have HO10 := Lib.hid (ho9.trans ho2)
            clear ho ho9 ho2 e0 e2 e3 e4 HTK
            go_wp2_with fail
            go_ret
            exact ⟨rfl, HT.out.only HO10.out (fun f => f), Only.p p HO10.out⟩
          · rw [if_neg h3] at hE0
            rw [hE0, if_pos rfl] at hT0
            rw [hE0, hT0]
            have h4 : (np == par) = false := by simpa using h3
            have hk2 : (k : Int) < 33 := by omega
            have hk0 : (1 : Int) ≤ k := by omega
            have HST : Hid (∀ w1, Only (fun _ => False) w w1 → TreeAt (w1.setCell ⟨p, k * 5 + 1, none⟩ (.int .i64 par)) p (T.set k ⟨ni, par, nk, nl, false⟩)) := Lib.hid (fun w1 ho => (HT.out.only ho (fun f => f)).store k 1 _ _ hk (by omega) (by rw [hgk]; rfl))
            have HCL : Hid (∀ w1, Only (fun _ => False) w w1 → (∃ u, w1.cell? ⟨p, k * 5 + 1, none⟩ = some u) ∧ w1.frozen? ⟨p, k * 5 + 1, none⟩ = false) := Lib.hid (fun w1 ho => ⟨⟨_, ((HT.out.only ho (fun f => f)).2.1 k hk).2.1⟩, (HT.out.only ho (fun f => f)).2.2 _ (by omega)⟩)
            clear hE0 hT0 hgo hge hno hyes hb hgk hi0 hkk h3
            go_enter Try.func17, Try.ntmps17
            go_wp2_with fail
            refine HG.out.mono ?_
            rintro _ w1 ⟨rfl, ho⟩
            obtain ⟨e0, e1, e2, e3, e4, ho9⟩ := HX.out w1 ho
            have HO9 := Lib.hid ho9
            clear HG HX
            go_wp2_with fail
            refine (HTK.out _ (HT.out.only HO9.out (fun f => f))).mono ?_
            rintro _ w2 ⟨rfl, ho2⟩
            replace e1 := ho2.cell' e1 (fun f => f)
            have HO10 := Lib.hid (ho9.trans ho2)
            obtain ⟨⟨u, cu⟩, fu⟩ := HCL.out _ HO10.out
            clear ho ho9 ho2 e0 e2 e3 e4 HTK HCL
            go_wp2_with fail
            go_ret
            exact ⟨rfl, HST.out _ HO10.out, (Only.p p HO10.out).trans (Only.set _ _ _ _ _ rfl)⟩
        · rw [if_pos h2] at hE0
          rw [hE0, if_neg h2] at hT0
          rw [hE0, hT0]
          have h5 : (te != 0) = true := by simpa using h2
          clear hE0 hT0 hgo hge hno hyes hb hgk hi0 hkk h2
          go_enter Try.func17, Try.ntmps17
          go_wp2_with fail
          refine HG.out.mono ?_
          rintro _ w1 ⟨rfl, ho⟩
          obtain ⟨e0, e1, e2, e3, e4, ho9⟩ := HX.out w1 ho
          have HO9 := Lib.hid ho9
          clear HG HX
          go_wp2_with fail
          refine (HTK.out _ (HT.out.only HO9.out (fun f => f))).mono ?_
          rintro _ w2 ⟨rfl, ho2⟩
          have HO10 := Lib.hid (ho9.trans ho2)
          clear ho ho9 ho2 e0 e1 e2 e3 e4 HTK
          go_wp2_with fail
          go_ret
          exact ⟨rfl, HT.out.only HO10.out (fun f => f), Only.p p HO10.out⟩
    · 
      have hE : movE T k par = 16 := by unfold movE; rw [if_neg hb, hgo, if_pos rfl]
      have hT : movT T k par = T := by unfold movT; rw [hE]; rfl
      rw [hE, hT]
      clear hkk
      clear hE hT hgo hge hno hyes hb hgk hi0
      go_enter Try.func17, Try.ntmps17
      go_wp2_with fail
      refine HG.out.mono ?_
      rintro _ w1 ⟨rfl, ho⟩
      obtain ⟨e0, e1, e2, e3, e4, ho9⟩ := HX.out w1 ho
      have HO9 := Lib.hid ho9
      clear ho ho9 HG HX
      go_wp2_with fail
      go_ret
      exact ⟨rfl, HT.out.only HO9.out (fun f => f), Only.p p HO9.out⟩
end Go.Proofs.Ytfpeimihlihphaa.tre
