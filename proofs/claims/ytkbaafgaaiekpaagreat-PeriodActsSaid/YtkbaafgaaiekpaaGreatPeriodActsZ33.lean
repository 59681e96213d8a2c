/- Several texts together: PuO. -/
import Derived.Test.YtkbaafgaaiekpaaGreatPeriodActsZ1
import Derived.Test.YtkbaafgaaiekpaaGreatPeriodActsZ26
namespace Go.Proofs.YtkbaafgaaiekpaaGreat.puw
open Go.RowKit mem
set_option linter.unusedVariables false

theorem bnd_at {C : AcC → Option (List Int)} {B : Int} (h : jnw.Bnd C B) (hB : B ≤ 1152921504606846976) {op : Nat} (hop : op < 32) {ls : List entm.Lg} (hn : (ls.map jnw.lgA).Nodup) (hm : ∀ l ∈ ls, -9007199254740992 ≤ l.a ∧ l.a ≤ 9007199254740992) (a : AcC) : jnw.ror (jnw.addC C op ls) a = (jnw.ror C a).set op ((jnw.ror C a).getD op 0 + jnw.atA a ls) :=
  jnw.addC_at hop ls C hn hm (fun a => (h a).1) (fun l _ => by have := (h (jnw.lgA l)).2.2 op; omega) a
theorem bnd_sum {C : AcC → Option (List Int)} {B : Int} (h : jnw.Bnd C B) (hB : B ≤ 1152921504606846976) {op : Nat} (hop : op < 32) {ls : List entm.Lg} (hn : (ls.map jnw.lgA).Nodup) (hm : ∀ l ∈ ls, -9007199254740992 ≤ l.a ∧ l.a ≤ 9007199254740992) (a : AcC) : (jnw.ror (jnw.addC C op ls) a).sum = (jnw.ror C a).sum + jnw.atA a ls := by
  rw [bnd_at h hB hop hn hm, jnw.sum_set _ _ _ (by rw [(h a).1]; exact hop)]
  omega
theorem bnd_get {C : AcC → Option (List Int)} {B : Int} (h : jnw.Bnd C B) (hB : B ≤ 1152921504606846976) {op : Nat} (hop : op < 32) {ls : List entm.Lg} (hn : (ls.map jnw.lgA).Nodup) (hm : ∀ l ∈ ls, -9007199254740992 ≤ l.a ∧ l.a ≤ 9007199254740992) (a : AcC) (j : Nat) : (jnw.ror (jnw.addC C op ls) a).getD j 0 = (jnw.ror C a).getD j 0 + if j = op then jnw.atA a ls else 0 := by
  rw [bnd_at h hB hop hn hm, jnw.getD_set (by rw [(h a).1]; exact hop)]
  by_cases e : j = op
  · rw [if_pos e, if_pos e, e]
  · rw [if_neg e, if_neg e]; omega
theorem bnd_add {C : AcC → Option (List Int)} {B : Int} (h : jnw.Bnd C B) (hB : B ≤ 1152921504606846976) {op : Nat} (hop : op < 32) {ls : List entm.Lg} (hn : (ls.map jnw.lgA).Nodup) (hm : ∀ l ∈ ls, -9007199254740992 ≤ l.a ∧ l.a ≤ 9007199254740992) : jnw.Bnd (jnw.addC C op ls) (B + 9007199254740992) := fun a => by
  have h1 := jnw.atA_le (a := a) (by omega) hn hm
  refine ⟨by rw [bnd_at h hB hop hn hm, List.length_set]; exact (h a).1, ?_, fun j => ?_⟩
  · rw [bnd_sum h hB hop hn hm]
    have := (h a).2.1
    omega
  · rw [bnd_get h hB hop hn hm]
    have := (h a).2.2 j
    split <;> omega
theorem addC_app (op : Nat) : ∀ (l r : List entm.Lg) (C : AcC → Option (List Int)), jnw.addC C op (l ++ r) = jnw.addC (jnw.addC C op l) op r
  | [], r, C => rfl
  | x :: l, r, C => addC_app op l r _
def flatX (xs : List Xe) : List entm.Lg := xs.flatMap fun x => exL x.n x.av
theorem flatX_snoc (xs : List Xe) (x : Xe) : flatX (xs ++ [x]) = flatX xs ++ exL x.n x.av := by unfold flatX; rw [List.flatMap_append]; simp
theorem flatX_mem {xs : List Xe} {l : entm.Lg} (h : l ∈ flatX xs) : ∃ x ∈ xs, (jnw.lgA l = ⟨2, x.n, 0⟩ ∧ l.a = x.av) ∨ (jnw.lgA l = ⟨5, x.n, 0⟩ ∧ l.a = -x.av) := by
  unfold flatX at h
  obtain ⟨x, hx, hl⟩ := List.mem_flatMap.1 h
  unfold exL at hl
  simp at hl
  rcases hl with rfl | rfl
  · exact ⟨x, hx, .inl ⟨rfl, rfl⟩⟩
  · exact ⟨x, hx, .inr ⟨rfl, rfl⟩⟩
theorem flatX_nodup : ∀ xs : List Xe, (xs.map (·.n)).Nodup → ((flatX xs).map jnw.lgA).Nodup
  | [], _ => List.nodup_nil
  | x :: r, h => by
    rw [List.map_cons, List.nodup_cons] at h
    have ih := flatX_nodup r h.2
    have hne : ∀ l ∈ flatX r, (jnw.lgA l).n ≠ x.n := fun l hl e => by
      obtain ⟨y, hy, (⟨e1, _⟩ | ⟨e1, _⟩)⟩ := flatX_mem hl
      · rw [e1] at e; exact h.1 (by rw [← e]; exact List.mem_map_of_mem hy)
      · rw [e1] at e; exact h.1 (by rw [← e]; exact List.mem_map_of_mem hy)
    have e : (flatX (x :: r)).map jnw.lgA = ⟨2, x.n, 0⟩ :: ⟨5, x.n, 0⟩ :: (flatX r).map jnw.lgA := rfl
    rw [e]
    refine List.nodup_cons.2 ⟨fun hm => ?_, List.nodup_cons.2 ⟨fun hm => ?_, ih⟩⟩
    · rcases List.mem_cons.1 hm with h2 | h2
      · cases h2
      · obtain ⟨l, hl, e2⟩ := List.mem_map.1 h2
        exact hne l hl (by rw [e2])
    · obtain ⟨l, hl, e2⟩ := List.mem_map.1 hm
      exact hne l hl (by rw [e2])
theorem flatX_amt {xs : List Xe} (h : ∀ x ∈ xs, 1 ≤ x.av ∧ x.av ≤ 9007199254740992) : ∀ l ∈ flatX xs, -9007199254740992 ≤ l.a ∧ l.a ≤ 9007199254740992 := fun l hl => by
  obtain ⟨x, hx, (⟨_, e⟩ | ⟨_, e⟩)⟩ := flatX_mem hl
  · have := h x hx; omega
  · have := h x hx; omega
theorem nodU_nodup (A : List fnd.Ac) : (fnd.nodU A 33).Nodup := by
  unfold fnd.nodU
  rw [List.nodup_iff_pairwise_ne, List.pairwise_map]
  refine ((List.nodup_iff_pairwise_ne.1 List.nodup_range).filter _).imp (fun {a b} h e => h (by omega))
theorem expN_sub (A : List fnd.Ac) (carry : List Int) : ∀ ns : List Int, List.Sublist ((expN A carry ns).map Prod.fst) ns
  | [] => List.Sublist.refl _
  | n :: r => by
    have ih := expN_sub A carry r
    have e : expN A carry (n :: r) = (if fnd.left (fnd.acG A n) = 0 ∨ carry.contains n = true then [] else [(n, fnd.left (fnd.acG A n))]) ++ expN A carry r := by simp [expN]
    rw [e, List.map_append]
    split
    · exact List.Sublist.cons _ ih
    · exact List.Sublist.cons_cons _ ih
theorem xs_nodup {A : List fnd.Ac} {carry : List Int} {xs : List Xe} (h : Xs xs = expN A carry (fnd.nodU A 33)) : (xs.map (·.n)).Nodup := by
  have e : xs.map (·.n) = (Xs xs).map Prod.fst := by unfold Xs; rw [List.map_map]; rfl
  rw [e, h]
  exact (nodU_nodup A).sublist (expN_sub A carry _)
def rollF (carry : List Int) (y : List fnd.Ac × Int) (ns : List Int) : List fnd.Ac × Int := ns.foldl (fun y n => (fnd.rollA y.1 n (carry.contains n), y.2 + fnd.rollN y.1 n (carry.contains n))) y
theorem rollF_snoc (carry : List Int) (y : List fnd.Ac × Int) (ns : List Int) (n : Int) : rollF carry y (ns ++ [n]) = (fnd.rollA (rollF carry y ns).1 n (carry.contains n), (rollF carry y ns).2 + fnd.rollN (rollF carry y ns).1 n (carry.contains n)) := by unfold rollF; rw [List.foldl_append]; rfl
theorem rollN_in {A : List fnd.Ac} (hA : fnd.Bok A) (n : Int) (c : Bool) : 0 ≤ fnd.rollN A n c ∧ fnd.rollN A n c ≤ 9007199254740992 := by
  have hr := fnd.acG_ok hA n
  have h1 := hr.2.2
  have h2 := hr.left_M
  unfold fnd.rollN fnd.goneN
  split
  · split <;> omega
  · omega
def RollR (S : Nat → Prop) (w : World) (p pb pj : Nat) (A : List fnd.Ac) (n op : Nat) (C : AcC → Option (List Int)) (L : List jnw.Ps) (carry : List Int) (e : Ending) (w' : World) : Prop :=
  (31 ≤ op ∧ e = .returned (.tuple #[.int .i64 0, .int .i64 10]) ∧ Only (fun _ => False) w w') ∨
  (op < 31 ∧ e = .returned (.tuple #[.int .i64 (rollF carry (A, 0) (fnd.nodU A 33)).2, .int .i64 0]) ∧ Only S w w' ∧ ∃ (S' : Nat → Prop) (xs : List Xe) (ys : List jnw.Ps), (∀ q, S' q → S q ∨ w.heap.size ≤ q) ∧ Xs xs = expN A carry (fnd.nodU A 33) ∧ ys.map (·.ls) = xs.map (fun x => exL x.n x.av) ∧ (∀ x ∈ xs, (1 ≤ x.n ∧ x.n ≤ 32) ∧ 1 ≤ x.av ∧ x.av ≤ 9007199254740992) ∧ Pv S' w' p pb pj (rollF carry (A, 0) (fnd.nodU A 33)).1 (n + 1) (op + 1) (jnw.addC C op (flatX xs)) (L ++ ys))
def pq (x : jnw.Ps) : Int × Nat × List entm.Lg := (x.kd, x.per, x.ls)
def RollR2 (S : Nat → Prop) (w : World) (p pb pj : Nat) (A : List fnd.Ac) (n op : Nat) (C : AcC → Option (List Int)) (L : List jnw.Ps) (carry : List Int) (e : Ending) (w' : World) : Prop :=
  (31 ≤ op ∧ e = .returned (.tuple #[.int .i64 0, .int .i64 10]) ∧ Only (fun _ => False) w w') ∨
  (op < 31 ∧ e = .returned (.tuple #[.int .i64 (rollF carry (A, 0) (fnd.nodU A 33)).2, .int .i64 0]) ∧ Only S w w' ∧ ∃ (S' : Nat → Prop) (xs : List Xe) (ys : List jnw.Ps), (∀ q, S' q → S q ∨ w.heap.size ≤ q) ∧ Xs xs = expN A carry (fnd.nodU A 33) ∧ ys.map pq = xs.map (fun x => ((5 : Int), op, exL x.n x.av)) ∧ (∀ x ∈ xs, (1 ≤ x.n ∧ x.n ≤ 32) ∧ 1 ≤ x.av ∧ x.av ≤ 9007199254740992) ∧ Pv S' w' p pb pj (rollF carry (A, 0) (fnd.nodU A 33)).1 (n + 1) (op + 1) (jnw.addC C op (flatX xs)) (L ++ ys))
theorem ex_good {n av : Int} (hn : 1 ≤ n ∧ n ≤ 32) (ha : 1 ≤ av ∧ av ≤ 9007199254740992) : entm.chk 5 (exL n av) = 0 := by
  have hg : Good 5 av 0 [n] := ⟨by omega, ha, by simp, by simp, fun m hm => by rw [List.mem_singleton] at hm; rw [hm]; exact hn, fun _ => rfl, fun h => by omega⟩
  exact hg.chk0 (List.Perm.refl _) (by unfold entw.Sorted exL entm.ltA; simp)
theorem Pu.close {S : Nat → Prop} {w : World} {p pb pj : Nat} {A : List fnd.Ac} {op : Nat} {C : AcC → Option (List Int)} {L : List jnw.Ps} (h : Pu S w p pb pj A op C L) (hop : op < 31) : Calls Tryz.prog 35 #[.pointer (some ⟨pj, 0, none⟩)] w fun e w' => e = .returned (.tuple #[.int .i64 ((op + 1 : Nat) : Int), .int .i64 0]) ∧ Pu S w' p pb pj A (op + 1) C L ∧ Only S w w' := by
  obtain ⟨v, m, nn, hj⟩ := h.jn
  refine (jnw.close_yes pj op v m w hj.jc hop).mono ?_
  rintro _ w' ⟨rfl, hj', ho⟩
  have hs := hj.sp
  exact ⟨rfl, ⟨ho.cell' h.c0 (fun e => hs.2.1 e.symm), ho.cell' h.c1 (fun e => hs.2.1 e.symm), h.bk.only ho (fun e => hs.2.2 e.symm), h.bok, ⟨v, m, nn, hj.close hj' ho⟩, h.sp, h.sb, h.ne⟩, ho.mono (fun q _ e => by have e : q = pj := e; rw [e]; exact hs.1)⟩
set_option maxRecDepth 100000 in
set_option maxHeartbeats 16000000 in
theorem proll2_any {S : Nat → Prop} {p pb pj : Nat} {A : List fnd.Ac} {n op : Nat} {C : AcC → Option (List Int)} {L : List jnw.Ps} (a : Option Addr) (cap : Nat) (carry : List Int) (w : World) (h : Pv S w p pb pj A n op C L) (hn : n ≤ 120) (hr : ReadsI w a carry.length carry) (ha : ∀ y, a = some y → ¬ S y.block) :
    Calls Tryz.prog 7 #[.pointer (some ⟨p, 0, none⟩), .slice a carry.length cap] w (RollR2 S w p pb pj A n op C L carry) := by
  have HPV := Lib.hid h
  have HR := Lib.hid hr
  have HEX := Lib.hid (expiring_any a cap carry w h.pu hr)
  obtain ⟨ln, hln⟩ : ∃ x, carry.length = x := ⟨_, rfl⟩
  have HLN := Lib.hid hln
  rw [hln] at HEX ⊢
  clear h hr hln
  go_enter Tryz.func7, Tryz.ntmps7
  go_wp2_with fail
  refine HEX.out.mono ?_
  rintro _ w1 ⟨v, xs, rfl, hox, hxs, hxo, hvb, ho1⟩
  obtain ⟨ax, cx, rfl, -, -, hrx, hax⟩ := hox.reads
  have hxl : xs.length ≤ 33 := by
    have h1 : (Xs xs).length = xs.length := by unfold Xs; rw [List.length_map]
    have h2 := expN_len A carry (fnd.nodU A 33)
    have h3 := fnd.nodU_len A 33
    rw [← h1, hxs]
    omega
  obtain ⟨lx, hlx⟩ : ∃ x, xs.length = x := ⟨_, rfl⟩
  have HLX := Lib.hid hlx
  have HO1 := Lib.hid ho1
  have HXS := Lib.hid hxs
  have HXO := Lib.hid hxo
  have HAX : Hid (∀ y, ax = some y → w.heap.size ≤ y.block ∧ y.block < w1.heap.size) := Lib.hid (fun y e => ⟨(hvb _ (hax y e)).1, hox.lt (hax y e)⟩)
  rw [hlx] at hrx hxl
  try rw [hlx]
  have HRX := Lib.hid hrx
  have HTK := Lib.hid (takes_any w.heap.size ax lx cx xs w1 (HPV.out.quiet ho1) hn hrx hxo (by omega))
  clear hox hxs hxo hvb ho1 hrx hax hlx HEX
  have hop32 := HPV.out.pu.opl
  by_cases h31 : 31 ≤ op
  · rw [if_pos h31] at HTK
    go_wp2_with fail
    refine HTK.out.mono ?_
    rintro _ w2 ⟨rfl, ho2⟩
    have HEND : Hid (RollR2 S w p pb pj A n op C L carry (.returned (.tuple #[.int .i64 0, .int .i64 10])) w2) := Lib.hid (.inl ⟨h31, rfl, HO1.out.trans ho2⟩)
    clear ho2 HTK
    go_wp2_with fail
    go_ret2
    exact HEND.out
  · rw [if_neg h31] at HTK
    go_wp2_with fail
    refine HTK.out.mono ?_
    rintro _ w2 ⟨rfl, ho2⟩
    have HO2 := Lib.hid (HO1.out.trans ho2)
    have HS12 := Lib.hid ho2.size
    have HP2 : Hid (Pu S w2 p pb pj A op (jnw.addC C op (flatX (xs.take 0))) (L ++ [])) := Lib.hid (by rw [List.append_nil]; exact HPV.out.pu.quiet HO2.out)
    have HRX2 := Lib.hid (HRX.out.only ho2 (fun _ _ f => f))
    have HXO2 : Hid (∀ x ∈ xs, XOk w.heap.size w2 x) := Lib.hid (fun x hx => (HXO.out x hx).quiet ho2)
    clear ho2 HTK HRX HXO
    go_wp2_with fail
    go_loopw [30] (fun iv wx => ∃ (i : Nat) (S' : Nat → Prop) (ys : List jnw.Ps), i ≤ lx ∧ iv = .int .i64 (i : Int) ∧ Hid (Pu S' wx p pb pj A op (jnw.addC C op (flatX (xs.take i))) (L ++ ys)) ∧ Hid (ys.map pq = (xs.take i).map (fun x => ((5 : Int), op, exL x.n x.av))) ∧ Hid (∀ q, S' q → (S q ∨ w2.heap.size ≤ q) ∧ q < wx.heap.size) ∧ Hid (Only S w2 wx)) (fun iv _ => lx - (intOf iv).toNat)
    case atStart => exact ⟨0, S, [], by omega, rfl, HP2, Lib.hid rfl, Lib.hid (fun q hq => ⟨.inl hq, by have := HPV.out.lt q hq; have := HO2.out.size; omega⟩), Lib.hid (Only.refl _ _)⟩
    case round =>
      clear HP2
      obtain ⟨i, S', ys, hi, rfl, HP, HYS, HSS, HX⟩ := hrel
      rename World => wx
      by_cases h8 : i < lx
      · have hin : (i : Int) < (lx : Int) := by omega
        have hi0 : (0 : Int) ≤ (i : Int) := by omega
        obtain ⟨g, rfl, hcell⟩ := HRX2.out.2.resolve_left (by omega)
        obtain ⟨d0, d1⟩ := hcell i h8
        have hgS : ¬ S g := fun s => by have h1 := HPV.out.lt g s; have h2 := (HAX.out _ rfl).1; have h2 : w.heap.size ≤ g := h2; omega
        have e0 := HX.out.cell' d0 hgS
        have e1 := HX.out.cell' d1 hgS
        have hmem : xs.getD i default ∈ xs := by
          rw [List.getD_eq_getElem?_getD, List.getElem?_eq_getElem (by rw [HRX2.out.1]; exact h8)]; exact List.getElem_mem _
        have HXI := Lib.hid (HXO2.out _ hmem)
        have HTS : Hid (xs.take (i + 1) = xs.take i ++ [xs.getD i default]) := Lib.hid (by rw [List.take_add_one, List.getElem?_eq_getElem (by rw [HRX2.out.1]; exact h8), List.getD_eq_getElem?_getD, List.getElem?_eq_getElem (by rw [HRX2.out.1]; exact h8)]; rfl)
        obtain ⟨xx, hxx⟩ : ∃ x, xs.getD i default = x := ⟨_, rfl⟩
        rw [hxx] at e1 HXI HTS
        obtain ⟨xb, xc, xn, xa⟩ := xx
        dsimp only at e1
        obtain ⟨w3, hw3⟩ : ∃ y, y = wx.alloc (.cells #[.int .i64 5, .slice (some ⟨xb, 0, none⟩) 2 xc] 67) := ⟨_, rfl⟩
        obtain ⟨g3, hg3'⟩ : ∃ y, y = wx.heap.size := ⟨_, rfl⟩
        have ho3 : Only (fun _ => False) wx w3 := by rw [hw3]; exact (Only.refl _ _).alloc _
        have HX3 : Hid (Only S w2 w3) := Lib.hid (HX.out.trans (ho3.mono (fun _ _ f => f.elim)))
        have HP3 := Lib.hid (HP.out.quiet ho3)
        have HGX : Hid (wx.heap.size ≤ g3) := Lib.hid (by omega)
        have HSL : Hid (∀ w', Only (fun _ => False) w3 w' → w'.cell? ⟨p, 1, none⟩ = some (.pointer (some ⟨pj, 0, none⟩)) ∧ w'.cell? ⟨g3, 0, none⟩ = some (.int .i64 5) ∧ w'.cell? ⟨g3, 1, none⟩ = some (.slice (some ⟨xb, 0, none⟩) 2 xc)) := Lib.hid (fun w' ho => ⟨ho.cell' HP3.out.c1 (fun f => f), ho.cell' (by rw [hw3]; exact tre.alloc_cell hg3' rfl) (fun f => f), ho.cell' (by rw [hw3]; exact tre.alloc_cell hg3' rfl) (fun f => f)⟩)
        have hbS : ¬ S xb := fun s => by have h1 := HPV.out.lt xb s; have h2 := HXI.out.1; have h2 : w.heap.size ≤ xb := h2; omega
        have HLG := Lib.hid (HXI.out.2.2.1.only HX3.out (fun y e => by injection e with e; rw [← e]; exact hbS))
        have hbS' : ¬ S' xb := fun s => by
          rcases (HSS.out xb s).1 with h1 | h1
          · exact hbS h1
          · have := HXI.out.2.1; have h2 : xb < w2.heap.size := this; omega
        have hxl2 : (L ++ ys).length < 16384 := by
          have h1 := congrArg List.length HYS.out
          rw [List.length_map, List.length_map, List.length_take] at h1
          have h2 := HPV.out.ln
          rw [List.length_append]
          omega
        have HBD : Hid (jnw.Bnd (jnw.addC C op (flatX (xs.take i))) (9007199254740992 * (n : Int) + 9007199254740992)) := Lib.hid (bnd_add HPV.out.bd (by omega) hop32 (flatX_nodup _ ((xs_nodup HXS.out).sublist (List.Sublist.map _ (List.take_sublist i xs)))) (flatX_amt (fun x hx => (HXO2.out x (List.mem_of_mem_take hx)).2.2.2.2)))
        have HCK : Hid (entm.chk 5 (exL xn xa) = 0) := Lib.hid (ex_good HXI.out.2.2.2.1 HXI.out.2.2.2.2)
        have HER : Hid (jnw.pErr (jnw.addC C op (flatX (xs.take i))) 5 (exL xn xa) = 0) := Lib.hid (HBD.out.none (by omega) HCK.out)
        obtain ⟨v, mm, nn, hj⟩ := HP3.out.jn
        have HPO : Hid (∀ w', Only (fun _ => False) w3 w' → Calls Tryz.prog 31 #[.pointer (some ⟨pj, 0, none⟩), .agg #[.int .i64 5, .slice (some ⟨xb, 0, none⟩) 2 xc]] w' fun e w1 => e = .returned (.tuple #[.int .i64 ((L ++ ys).length : Int), .int .i64 0]) ∧ (∃ v' m' nn' g cp, jnw.JnAt (fun q => (S' q ∧ q ≠ p ∧ q ≠ pb) ∨ w'.heap.size ≤ q) w1 pj v' op m' nn' (jnw.addC (jnw.addC C op (flatX (xs.take i))) op (exL xn xa)) ((L ++ ys) ++ [⟨5, g, 2, cp, op, exL xn xa⟩])) ∧ Only (fun q => S' q ∧ q ≠ p ∧ q ≠ pb) w' w1) := Lib.hid (fun w' ho => (jnw.post_any pj op v mm nn _ (L ++ ys) 5 (some ⟨xb, 0, none⟩) 2 xc (exL xn xa) w' (hj.quiet ho) (HLG.out.only ho (fun _ _ f => f)) hxl2 (fun y e s => by injection e with e; rw [← e] at s; exact hbS' s.1)).mono (fun e w1 hp => by
          rcases hp with ⟨hne, _⟩ | ⟨_, _, h1, h2, h3⟩
          · exact absurd HER.out hne
          · exact ⟨h1, h2, h3⟩))
        clear d0 d1 hcell hmem hxx ho3 HX hgS hbS hbS' hj HP HBD HCK HER
        go_upto_region 10 with fail
        simp only [← hw3, ← hg3']
        clear hw3 hg3' e0 e1
        refine wp_region_noPanic ?_
        refine late.region (fun w' => w'.cell? ⟨p, 1, none⟩ = some (.pointer (some ⟨pj, 0, none⟩)) ∧ w'.cell? ⟨g3, 0, none⟩ = some (.int .i64 5) ∧ w'.cell? ⟨g3, 1, none⟩ = some (.slice (some ⟨xb, 0, none⟩) 2 xc)) (fun j => [].contains j) (by kernel_rfl) (HSL.out _ (Only.refl _ _).drew) (fun hHeld => ?_)
        obtain ⟨z0, hz0'⟩ : ∃ x, x = w3.drew := ⟨_, rfl⟩
        rw [← hz0'] at hHeld ⊢
        have hot : Hid (Only (fun _ => False) w3 z0) := Lib.hid (by rw [hz0']; exact (Only.refl _ _).drew)
        clear hz0'
        refine sho.lt 0 [1, 2, 3, 5] ?_
        refine sho.lt 1 [2, 3, 5] ?_
        refine sho.lt 2 [3, 5] ?_
        refine sho.lt 3 [5] ?_
        refine sho.lt 4 [5] ?_
        refine late.ready (rs := [5]) (by kernel_rfl) (by simp) ?_
        refine late.Each.cons rfl (fun K hK => ?_) late.Each.nil
        try simp only [List.getElem_toArray, List.getElem_cons_zero, List.getElem_cons_succ]
        go_simp
        go_at_call 31
        with_reducible refine (HPO.out _ hot.out).mono ?_
        rintro _ z1 ⟨rfl, ⟨v', m', nn', g', cp', hj'⟩, ho⟩
        have HPN : Hid (∃ y : jnw.Ps, pq y = ((5 : Int), op, exL xn xa) ∧ Pu (fun q => (S' q ∨ z0.heap.size ≤ q) ∧ q < z1.heap.size) z1 p pb pj A op (jnw.addC C op (flatX (xs.take (i + 1)))) (L ++ (ys ++ [y]))) := Lib.hid ⟨_, rfl, by
          have h9 := (HP3.out.quiet hot.out).jour ⟨v', m', nn', hj'⟩ ho
          rw [HTS.out, flatX_snoc, addC_app, ← List.append_assoc]
          exact h9.mono (fun q hq s => ⟨s, hq⟩)⟩
        have HXN : Hid (Only S w2 z1) := Lib.hid ((HX3.out.trans (hot.out.mono (fun _ _ f => f.elim))).then ho (fun q hq s => by
          rcases (HSS.out q s.1).1 with h3 | h3
          · exact h3
          · omega))
        have HSN : Hid (∀ q, ((S' q ∨ z0.heap.size ≤ q) ∧ q < z1.heap.size) → (S q ∨ w2.heap.size ≤ q) ∧ q < z1.heap.size) := Lib.hid (fun q hq => ⟨by
          rcases hq.1 with h3 | h3
          · exact (HSS.out q h3).1
          · right; have h4 := HX3.out.size; have h5 := hot.out.size; omega, hq.2⟩)
        have HSZ : Hid (z1.cell? ⟨p, 1, none⟩ = some (.pointer (some ⟨pj, 0, none⟩)) ∧ z1.cell? ⟨g3, 0, none⟩ = some (.int .i64 5) ∧ z1.cell? ⟨g3, 1, none⟩ = some (.slice (some ⟨xb, 0, none⟩) 2 xc)) := Lib.hid (by
          obtain ⟨k1, k2, k3⟩ := HSL.out _ hot.out
          have hqn : ¬ (S' g3 ∧ g3 ≠ p ∧ g3 ≠ pb) := fun s => by have h1 := (HSS.out _ s.1).2; have h2 := HGX.out; omega
          exact ⟨ho.cell' k1 (fun s => s.2.1 rfl), ho.cell' k2 hqn, ho.cell' k3 hqn⟩)
        clear hj' ho hot HPO
        try dsimp only
        refine hK.out _ _ (fun _ => HSZ.out) (fun hHeld1 => ?_)
        replace hHeld1 := hHeld1 rfl
        clear hK K
        try simp only [List.getElem_toArray, List.getElem_cons_zero, List.getElem_cons_succ, Act.put, List.setIfInBounds_toArray, List.set_cons_zero, List.set_cons_succ]
        refine late.done (by kernel_rfl) ?_ _
        refine NoPanic.normal ?_
        clear hHeld HSZ
        obtain ⟨yy, hyl, hyp⟩ := HPN.out
        have HPY := Lib.hid hyp
        have HYY : Hid ((ys ++ [yy]).map pq = (xs.take (i + 1)).map (fun x => ((5 : Int), op, exL x.n x.av))) := Lib.hid (by rw [HTS.out, List.map_append, List.map_append, HYS.out]; simp [hyl])
        clear hyl hyp HPN HSL HYS HP3 HX3 HLG HTS HXI
        go_wp2_with fail
        go_roundw
        case rel => exact ⟨i + 1, _, _, by omega, by go_num, HPY, HYY, HSN, HXN⟩
        case measure => (simp [intOf]; omega)
      · have hin : ¬ (i : Int) < (lx : Int) := by omega
        obtain rfl : lx = i := by omega
        have HPX : Hid (Pu S' wx p pb pj A op (jnw.addC C op (flatX xs)) (L ++ ys)) := Lib.hid (by have h9 := HP.out; rw [List.take_of_length_le (by rw [HRX2.out.1]; exact Nat.le_refl _)] at h9; exact h9)
        have HYX : Hid (ys.map pq = xs.map (fun x => ((5 : Int), op, exL x.n x.av))) := Lib.hid (by have h9 := HYS.out; rw [List.take_of_length_le (by rw [HRX2.out.1]; exact Nat.le_refl _)] at h9; exact h9)
        have c0 := HPX.out.c0
        have HND := Lib.hid (fnd.nodes_any pb A wx HPX.out.bk HPX.out.bok)
        clear HP HYS
        go_wp2_with fail
        refine HND.out.mono ?_
        rintro _ w4 ⟨⟨_, rfl, an, cn, rfl, hrn, han⟩, ho4⟩
        have HO4 := Lib.hid ho4
        have HRN := Lib.hid hrn
        have HAN := Lib.hid han
        have HP4 := Lib.hid (HPX.out.quiet ho4)
        have HNI := Lib.hid (nodU_ok HPV.out.pu.bok)
        obtain ⟨ns, hns⟩ : ∃ x, fnd.nodU A 33 = x := ⟨_, rfl⟩
        have HNS := Lib.hid hns
        rw [hns] at HRN HNI
        rw [hns]
        obtain ⟨nn, hnn⟩ : ∃ x, ns.length = x := ⟨_, rfl⟩
        have HNN := Lib.hid hnn
        have hn33 : nn ≤ 33 := by rw [← hnn, ← hns]; exact fnd.nodU_len A 33
        rw [hnn] at HRN
        try rw [hnn]
        clear ho4 hrn han HND HPX hns hnn c0
        go_wp2_with fail
        go_loopw [10, 47] (fun ev kv wy => ∃ (k : Nat) (s : Int), k ≤ nn ∧ kv = .int .i64 (k : Int) ∧ ev = .int .i64 s ∧ Hid (s = (rollF carry (A, 0) (ns.take k)).2) ∧ (0 ≤ s ∧ s ≤ 9007199254740992 * (k : Int)) ∧ Hid (Pu S' wy p pb pj (rollF carry (A, 0) (ns.take k)).1 op (jnw.addC C op (flatX xs)) (L ++ ys)) ∧ Hid (Only (fun q => q = pb) w4 wy)) (fun _ kv _ => nn - (intOf kv).toNat)
        case atStart => exact ⟨0, 0, by omega, rfl, rfl, Lib.hid rfl, by omega, HP4, Lib.hid (Only.refl _ _)⟩
        case round =>
          clear HP4
          obtain ⟨k, s, hk, rfl, rfl, hs, hsb, HPK, HXK⟩ := hrel
          rename World => wy
          by_cases h9 : k < nn
          · have hkn : (k : Int) < (nn : Int) := by omega
            have hk0 : (0 : Int) ≤ (k : Int) := by omega
            obtain ⟨b, off, rfl, hcell⟩ := HRN.out.2.2.2.resolve_left (by omega)
            have hbp : ¬ b = pb := fun e => by have h1 := HPV.out.pu.lt.2; have h2 := HAN.out _ rfl; have h2 : wx.heap.size ≤ b := h2; have h3 := HX.out.size; have h4 := HO2.out.size; omega
            have hck := HXK.out.cell' (hcell k h9) hbp
            have hks := take_snocI ns k (by rw [HNN.out]; exact h9)
            have hfs := rollF_snoc carry (A, 0) (ns.take k) (ns.getD k 0)
            rw [← hks] at hfs
            have hnd := HNI.out (ns.getD k 0) (by rw [List.getD_eq_getElem?_getD, List.getElem?_eq_getElem (by rw [HNN.out]; exact h9)]; exact List.getElem_mem _)
            obtain ⟨nk, hnk⟩ : ∃ x, ns.getD k 0 = x := ⟨_, rfl⟩
            rw [hnk] at hck hfs hnd
            obtain ⟨Ak, hAk⟩ : ∃ x, (rollF carry (A, 0) (ns.take k)).1 = x := ⟨_, rfl⟩
            rw [hAk] at HPK hfs
            have hgi := rollN_in HPK.out.bok nk (carry.contains nk)
            have hre : fnd.rollE nk = 0 := by unfold fnd.rollE; rw [if_pos hnd]
            have HRL : Hid (∀ w', Only (fun _ => False) wy w' → Calls Tryz.prog 33 #[.pointer (some ⟨pb, 0, none⟩), .int .i64 nk, .bool (carry.contains nk)] w' (fnd.RollDid pb (fnd.rollA Ak nk (carry.contains nk)) (fnd.rollN Ak nk (carry.contains nk)) 0 w')) := Lib.hid (fun w' ho => by
              rw [← hre]
              exact fnd.roll_any pb Ak nk (carry.contains nk) w' (HPK.out.bk.only ho (fun f => f)) HPK.out.bok)
            have HCT : Hid (∀ w', Only (fun _ => False) wy w' → Calls Tryz.prog 34 #[.slice a ln cap, .int .i64 nk] w' fun e w2 => e = .returned (.bool (carry.contains nk)) ∧ w' = w2) := Lib.hid (fun w' ho => by
              rw [← HLN.out]
              refine tre.contains_any a cap carry nk w' ?_
              have r1 := (HR.out.only HO2.out (fun _ _ f => f)).only HX.out ha
              have r2 := (r1.only HO4.out (fun _ _ f => f)).only HXK.out (fun y e e2 => ha y e (by rw [e2]; exact HPV.out.pu.sb))
              exact r2.only ho (fun _ _ f => f))
            have HBK : Hid (fnd.Bok (fnd.rollA Ak nk (carry.contains nk))) := Lib.hid (HPK.out.bok.rollA nk _)
            obtain ⟨gn, hgn⟩ : ∃ x, fnd.rollN Ak nk (carry.contains nk) = x := ⟨_, rfl⟩
            obtain ⟨AN, hAN⟩ : ∃ x, fnd.rollA Ak nk (carry.contains nk) = x := ⟨_, rfl⟩
            obtain ⟨ct, hct⟩ : ∃ x, carry.contains nk = x := ⟨_, rfl⟩
            rw [hgn, hAN, hct] at HRL
            rw [hct] at HCT
            rw [hAN] at HBK
            rw [hgn] at hgi
            have HFS : Hid (rollF carry (A, 0) (ns.take (k + 1)) = (AN, s + gn)) := Lib.hid (by rw [hfs, hAN, hgn, hs.out])
            have hws : wrap64 (s + gn) = s + gn := by unfold wrap64; omega
            have HSL : Hid (∀ w', Only (fun _ => False) wy w' → w'.cell? ⟨p, 0, none⟩ = some (.pointer (some ⟨pb, 0, none⟩))) := Lib.hid (fun w' ho => ho.cell' HPK.out.c0 (fun f => f))
            clear hbp hks hfs hnd hnk hAk hre hgn hAN hct hcell
            go_upto_region 16 with fail
            clear hck
            refine wp_region_noPanic ?_
            refine late.region (fun w' => w'.cell? ⟨p, 0, none⟩ = some (.pointer (some ⟨pb, 0, none⟩))) (fun j => [].contains j) (by kernel_rfl) (HSL.out _ (Only.refl _ _).drew) (fun hHeld => ?_)
            obtain ⟨z0, hz0'⟩ : ∃ x, x = wy.drew := ⟨_, rfl⟩
            rw [← hz0'] at hHeld ⊢
            have hot : Hid (Only (fun _ => False) wy z0) := Lib.hid (by rw [hz0']; exact (Only.refl _ _).drew)
            clear hz0'
            refine sho.lt 0 [1, 2, 3, 8, 9, 10, 11, 12, 13] ?_
            refine sho.lt 1 [2, 3, 8, 9, 10, 11, 12, 13] ?_
            refine sho.lt 2 [3, 8, 9, 10, 11, 12, 13] ?_
            refine sho.lt 3 [8, 9, 10, 11, 12, 13] ?_
            refine sho.lt 4 [8, 9, 10, 11, 12, 13] ?_
            refine sho.lt 5 [7, 8, 9, 10, 11, 12, 13] ?_
            refine sho.lt 6 [7, 8, 9, 10, 11, 12, 13] ?_
            refine late.ready (rs := [7]) (by kernel_rfl) (by simp) ?_
            refine late.Each.cons rfl (fun K hK => ?_) late.Each.nil
            try simp only [List.getElem_toArray, List.getElem_cons_zero, List.getElem_cons_succ]
            go_simp
            go_at_call 34
            with_reducible refine (HCT.out _ hot.out).mono ?_
            rintro _ _ ⟨rfl, rfl⟩
            try dsimp only
            refine hK.out _ _ (fun _ => HSL.out _ hot.out) (fun hHeld1 => ?_)
            replace hHeld1 := hHeld1 rfl
            clear hK K
            clear HCT
            try simp only [List.getElem_toArray, List.getElem_cons_zero, List.getElem_cons_succ, Act.put, List.setIfInBounds_toArray, List.set_cons_zero, List.set_cons_succ]
            refine late.ready (rs := [8]) (by kernel_rfl) (by simp) ?_
            refine late.Each.cons rfl (fun K hK => ?_) late.Each.nil
            try simp only [List.getElem_toArray, List.getElem_cons_zero, List.getElem_cons_succ]
            go_simp
            go_at_call 33
            with_reducible refine (HRL.out _ hot.out).mono ?_
            rintro _ z1 ⟨rfl, hb, ho⟩
            have HPN : Hid (Pu S' z1 p pb pj (rollF carry (A, 0) (ns.take (k + 1))).1 op (jnw.addC C op (flatX xs)) (L ++ ys)) := Lib.hid (by rw [HFS.out]; exact (HPK.out.quiet hot.out).book hb HBK.out ho)
            have HXN : Hid (Only (fun q => q = pb) w4 z1) := Lib.hid ((HXK.out.trans (hot.out.mono (fun _ _ f => f.elim))).trans ho)
            have HSZ : Hid (z1.cell? ⟨p, 0, none⟩ = some (.pointer (some ⟨pb, 0, none⟩))) := Lib.hid (ho.cell' (HSL.out _ hot.out) (fun e => HPV.out.pu.ne e))
            clear hb ho hot HRL
            try dsimp only
            refine hK.out _ _ (fun _ => HSZ.out) (fun hHeld2 => ?_)
            replace hHeld2 := hHeld2 rfl
            clear hK K
            try simp only [List.getElem_toArray, List.getElem_cons_zero, List.getElem_cons_succ, Act.put, List.setIfInBounds_toArray, List.set_cons_zero, List.set_cons_succ]
            refine sho.lt 9 [10, 11, 12, 13] ?_
            refine sho.lt 10 [12, 13] ?_
            refine sho.lt 11 [13] ?_
            refine sho.lt 12 [13] ?_
            refine sho.lt 13 [] ?_
            refine late.done (by kernel_rfl) ?_ _
            refine NoPanic.normal ?_
            clear hHeld HSZ HSL HPK HXK HBK
            have hsn : s + gn = (rollF carry (A, 0) (ns.take (k + 1))).2 := by rw [HFS.out]
            have HSN := Lib.hid hsn
            clear hs hsn
            go_wp2_with fail
            go_roundw
            case rel => exact ⟨k + 1, s + gn, by omega, by go_num, rfl, HSN, by omega, HPN, HXN⟩
            case measure => (simp [intOf]; omega)
          · have hkn : ¬ (k : Int) < (nn : Int) := by omega
            obtain rfl : nn = k := by omega
            have HFE : Hid (rollF carry (A, 0) (ns.take nn) = rollF carry (A, 0) (fnd.nodU A 33)) := Lib.hid (by rw [HNS.out, List.take_of_length_le (by rw [HNN.out]; exact Nat.le_refl _)])
            rw [HFE.out] at HPK
            have hs2 : Hid (s = (rollF carry (A, 0) (fnd.nodU A 33)).2) := Lib.hid (by rw [hs.out, HFE.out])
            clear hs
            have c1 := HPK.out.c1
            have HCL := Lib.hid (HPK.out.close (by omega))
            go_wp2_with fail
            refine HCL.out.mono ?_
            rintro _ w9 ⟨rfl, hp9, ho9⟩
            have HEND : Hid (RollR2 S w p pb pj A n op C L carry (.returned (.tuple #[.int .i64 s, .int .i64 0])) w9) := Lib.hid (.inr ⟨by omega, by rw [hs2.out], (by
                have h1 : Only S w wx := (HO2.out.mono (fun _ _ f => f.elim)).trans HX.out
                have h2 : Only S w wy := (h1.trans (HO4.out.mono (fun _ _ f => f.elim))).trans (HXK.out.mono (fun q _ e => by have e : q = pb := e; rw [e]; exact HPV.out.pu.sb))
                exact h2.then ho9 (fun q hq s => by
                  rcases (HSS.out q s).1 with h3 | h3
                  · exact h3
                  · have := HO2.out.size; omega)), fun q => S' q ∧ q < w9.heap.size, xs, ys, fun q hq => by
                  rcases (HSS.out q hq.1).1 with h3 | h3
                  · exact .inl h3
                  · right; have := HO2.out.size; omega, HXS.out, HYX.out, fun x hx => ⟨(HXO2.out x hx).2.2.2.1, (HXO2.out x hx).2.2.2.2⟩, ⟨hp9.mono (fun q hq s => ⟨s, hq⟩), (bnd_add HPV.out.bd (by omega) hop32 (flatX_nodup _ (xs_nodup HXS.out)) (flatX_amt (fun x hx => (HXO2.out x hx).2.2.2.2))).mono (by omega), by
                    have h1 := congrArg List.length HYX.out
                    rw [List.length_map, List.length_map, HRX2.out.1] at h1
                    have h2 := HPV.out.ln
                    rw [List.length_append]
                    omega, fun q hq => hq.2⟩⟩)
            clear hp9 ho9 HCL HPK HXK hs2
            go_wp2_with fail
            go_ret2
            exact HEND.out
theorem RollR2.old {S : Nat → Prop} {w w' : World} {p pb pj : Nat} {A : List fnd.Ac} {n op : Nat} {C : AcC → Option (List Int)} {L : List jnw.Ps} {carry : List Int} {e : Ending} (h : RollR2 S w p pb pj A n op C L carry e w') : RollR S w p pb pj A n op C L carry e w' := by
  rcases h with h | ⟨h0, h1, h2, S', xs, ys, h3, h4, h5, h6, h7⟩
  · exact .inl h
  · refine .inr ⟨h0, h1, h2, S', xs, ys, h3, h4, ?_, h6, h7⟩
    have h9 := congrArg (List.map (fun t => t.2.2)) h5
    rw [List.map_map, List.map_map] at h9
    exact h9
end Go.Proofs.YtkbaafgaaiekpaaGreat.puw
