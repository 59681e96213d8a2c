/- Several texts together: PuM, PuA, PuB, PuC. -/
import Derived.Test.YtkbaafgaaiekpaaZ6
import Derived.Test.YtkbaafgaaiekpaaEntPm
import Derived.Test.YtkbaafgaaiekpaaFuN
import Derived.Test.YtkbaafgaaiekpaaFuJ
namespace Go.Proofs.Ytkbaafgaaiekpaa.jnw
open Go.RowKit mem accm accn entw entm
set_option linter.unusedVariables false

/-- an account's row -/
def ror (C : Ac → Option (List Int)) (a : Ac) : List Int := (C a).getD noughts
/-- what comes to an account -/
def atA (a : Ac) (ls : List Lg) : Int := atS a.k a.n a.g ls
theorem atA_cons (a : Ac) (l : Lg) (r : List Lg) : atA a (l :: r) = (if lgA l = a then l.a else 0) + atA a r := by
  obtain ⟨k, n, g⟩ := a
  unfold atA atS lgA
  simp only [List.map_cons, List.sum_cons, Ac.mk.injEq]
theorem atA_not {a : Ac} : ∀ {ls : List Lg}, a ∉ ls.map lgA → atA a ls = 0
  | [], _ => rfl
  | l :: r, h => by
    rw [atA_cons, if_neg (fun e => h (by rw [← e]; simp)), atA_not (fun e => h (by simp [List.mem_map] at e ⊢; exact .inr e))]
    rfl
theorem atA_le {a : Ac} {M : Int} (hM : 0 ≤ M) : ∀ {ls : List Lg}, (ls.map lgA).Nodup → (∀ l ∈ ls, -M ≤ l.a ∧ l.a ≤ M) → -M ≤ atA a ls ∧ atA a ls ≤ M
  | [], _, _ => by show -M ≤ (0 : Int) ∧ (0 : Int) ≤ M; omega
  | l :: r, hn, h => by
    rw [List.map_cons, List.nodup_cons] at hn
    rw [atA_cons]
    by_cases e : lgA l = a
    · rw [if_pos e, atA_not (by rw [← e]; exact hn.1)]
      have := h l (by simp)
      omega
    · rw [if_neg e]
      have := atA_le (a := a) hM hn.2 (fun x hx => h x (by simp [hx]))
      omega
theorem ror_upd (C : Ac → Option (List Int)) (b : Ac) (r : List Int) (a : Ac) : ror (updA C b r) a = if a = b then r else ror C a := by
  unfold ror updA
  split <;> rfl
theorem set_get {l : List Int} {k : Nat} (h : k < l.length) : l.set k (l.getD k 0) = l := by
  apply List.ext_getElem?
  intro j
  rw [List.getElem?_set]
  by_cases e : k = j
  · subst e; rw [if_pos rfl, if_pos h, List.getD_eq_getElem?_getD, List.getElem?_eq_getElem h]; rfl
  · rw [if_neg e]
theorem getD_set {l : List Int} {k j : Nat} {y : Int} (h : k < l.length) : (l.set k y).getD j 0 = if j = k then y else l.getD j 0 := by
  rw [List.getD_eq_getElem?_getD, List.getElem?_set, List.getD_eq_getElem?_getD]
  by_cases e : k = j
  · subst e; rw [if_pos rfl, if_pos h, if_pos rfl]; rfl
  · rw [if_neg e, if_neg (fun x => e x.symm)]
theorem addC_at {op : Nat} (hop : op < 32) : ∀ (ls : List Lg) (C : Ac → Option (List Int)), (ls.map lgA).Nodup → (∀ l ∈ ls, -9007199254740992 ≤ l.a ∧ l.a ≤ 9007199254740992) → (∀ a, (ror C a).length = 32) → (∀ l ∈ ls, -2305843009213693952 ≤ (ror C (lgA l)).getD op 0 ∧ (ror C (lgA l)).getD op 0 ≤ 2305843009213693952) →
    ∀ a, ror (addC C op ls) a = (ror C a).set op ((ror C a).getD op 0 + atA a ls)
  | [], C, _, _, hl, _, a => by
    show ror C a = (ror C a).set op ((ror C a).getD op 0 + 0)
    rw [Int.add_zero, set_get (by rw [hl]; exact hop)]
  | l :: r, C, hn, hm, hl, hb, a => by
    rw [List.map_cons, List.nodup_cons] at hn
    have hne : ∀ l' ∈ r, lgA l' ≠ lgA l := fun l' h e => hn.1 (by rw [← e]; exact List.mem_map_of_mem h)
    have hl1 : ∀ b, (ror (updA C (lgA l) (rowAdd (ror C (lgA l)) op l.a)) b).length = 32 := fun b => by
      rw [ror_upd]
      split
      · unfold rowAdd; rw [List.length_set]; exact hl _
      · exact hl b
    have ih := addC_at hop r (updA C (lgA l) (rowAdd (ror C (lgA l)) op l.a)) hn.2 (fun x hx => hm x (by simp [hx])) hl1 (fun x hx => by
      rw [ror_upd, if_neg (hne x hx)]
      exact hb x (by simp [hx])) a
    show ror (addC (updA C (lgA l) (rowAdd (ror C (lgA l)) op l.a)) op r) a = _
    rw [ih, atA_cons, ror_upd]
    by_cases e : a = lgA l
    · subst e
      have h1 := hm l (by simp)
      have h2 := hb l (by simp)
      have hw : wrap64 ((ror C (lgA l)).getD op 0 + l.a) = (ror C (lgA l)).getD op 0 + l.a := by unfold wrap64; omega
      rw [if_pos rfl, if_pos rfl, atA_not hn.1]
      unfold rowAdd
      rw [hw, getD_set (by rw [hl]; exact hop), if_pos rfl, List.set_set, Int.add_zero, Int.add_zero]
    · rw [if_neg e, if_neg (fun x => e x.symm), Int.zero_add]
/-- no account's row goes further than this -/
def Bnd (C : Ac → Option (List Int)) (B : Int) : Prop := ∀ a, (ror C a).length = 32 ∧ (-B ≤ (ror C a).sum ∧ (ror C a).sum ≤ B) ∧ ∀ j, -B ≤ (ror C a).getD j 0 ∧ (ror C a).getD j 0 ≤ B
theorem Bnd.nil : Bnd (fun _ => none) 0 := fun a => by
  refine ⟨rfl, by show -(0 : Int) ≤ noughts.sum ∧ noughts.sum ≤ 0; decide, fun j => ?_⟩
  show -(0 : Int) ≤ noughts.getD j 0 ∧ noughts.getD j 0 ≤ 0
  have : noughts.getD j 0 = 0 := by
    unfold noughts
    rw [List.getD_eq_getElem?_getD, List.getElem?_replicate]
    split <;> rfl
  omega
/-- what a taken entry's legs are -/
theorem chk_legs {k : Int} {ls : List Lg} (h : chk k ls = 0) : (ls.map lgA).Nodup ∧ ∀ l ∈ ls, -9007199254740992 ≤ l.a ∧ l.a ≤ 9007199254740992 := by
  obtain ⟨_, _, h3, _, h5⟩ := (chk_ok k ls).1 h
  refine ⟨?_, fun l hl => by have := amt_bound (h3 l hl).2; omega⟩
  rw [List.nodup_iff_pairwise_ne, List.pairwise_map]
  refine h5.imp (fun {x y} hxy e => ?_)
  unfold lgA at e
  injection e with e1 e2 e3
  unfold ltA at hxy
  omega
theorem Bnd.at {C : Ac → Option (List Int)} {B : Int} (h : Bnd C B) (hB : B ≤ 1152921504606846976) {op : Nat} (hop : op < 32) {k : Int} {ls : List Lg} (hc : chk k ls = 0) (a : Ac) : ror (addC C op ls) a = (ror C a).set op ((ror C a).getD op 0 + atA a ls) :=
  addC_at hop ls C (chk_legs hc).1 (chk_legs hc).2 (fun a => (h a).1) (fun l _ => by have := (h (lgA l)).2.2 op; omega) a
theorem Bnd.sum {C : Ac → Option (List Int)} {B : Int} (h : Bnd C B) (hB : B ≤ 1152921504606846976) {op : Nat} (hop : op < 32) {k : Int} {ls : List Lg} (hc : chk k ls = 0) (a : Ac) : (ror (addC C op ls) a).sum = (ror C a).sum + atA a ls := by
  rw [h.at hB hop hc, sum_set _ _ _ (by rw [(h a).1]; exact hop)]
  omega
theorem Bnd.get {C : Ac → Option (List Int)} {B : Int} (h : Bnd C B) (hB : B ≤ 1152921504606846976) {op : Nat} (hop : op < 32) {k : Int} {ls : List Lg} (hc : chk k ls = 0) (a : Ac) (j : Nat) : (ror (addC C op ls) a).getD j 0 = (ror C a).getD j 0 + if j = op then atA a ls else 0 := by
  rw [h.at hB hop hc, getD_set (by rw [(h a).1]; exact hop)]
  by_cases e : j = op
  · rw [if_pos e, if_pos e, e]
  · rw [if_neg e, if_neg e]; omega
theorem Bnd.add {C : Ac → Option (List Int)} {B : Int} (h : Bnd C B) (hB : B ≤ 1152921504606846976) {op : Nat} (hop : op < 32) {k : Int} {ls : List Lg} (hc : chk k ls = 0) : Bnd (addC C op ls) (B + 9007199254740992) := fun a => by
  have h1 := atA_le (a := a) (by omega) (chk_legs hc).1 (chk_legs hc).2
  refine ⟨by rw [h.at hB hop hc, List.length_set]; exact (h a).1, ?_, fun j => ?_⟩
  · rw [h.sum hB hop hc]
    have := (h a).2.1
    omega
  · rw [h.get hB hop hc]
    have := (h a).2.2 j
    split <;> omega
theorem Bnd.mono {C : Ac → Option (List Int)} {B B' : Int} (h : Bnd C B) (hB : B ≤ B') : Bnd C B' := fun a => ⟨(h a).1, by have := (h a).2.1; omega, fun j => by have := (h a).2.2 j; omega⟩
theorem Bnd.none {C : Ac → Option (List Int)} {B : Int} (h : Bnd C B) (hB : B + 9007199254740992 ≤ 1152921504606846976) {k : Int} {ls : List Lg} (hc : chk k ls = 0) : pErr C k ls = 0 := by
  have hn : ¬ ∃ j, j < ls.length ∧ overL C (ls.getD j default) := by
    rintro ⟨j, hj, ho⟩
    have hm : ls.getD j default ∈ ls := by
      rw [List.getD_eq_getElem?_getD, List.getElem?_eq_getElem hj]; exact List.getElem_mem hj
    generalize ls.getD j default = l at ho hm
    have h1 := (chk_legs hc).2 l hm
    have h2 := (h (lgA l)).2.1
    unfold overL at ho
    change 1152921504606846976 < wrap64 (wrap64 (ror C (lgA l)).sum + l.a) ∨ wrap64 (wrap64 (ror C (lgA l)).sum + l.a) < -1152921504606846976 at ho
    have e1 : wrap64 (ror C (lgA l)).sum = (ror C (lgA l)).sum := by unfold wrap64; omega
    rw [e1] at ho
    have e2 : wrap64 ((ror C (lgA l)).sum + l.a) = (ror C (lgA l)).sum + l.a := by unfold wrap64; omega
    rw [e2] at ho
    omega
  unfold pErr
  rw [if_neg (by simpa using hc), if_neg hn]
end Go.Proofs.Ytkbaafgaaiekpaa.jnw

namespace Go.Proofs.Ytkbaafgaaiekpaa.puw
open Go.RowKit mem
set_option linter.unusedVariables false

abbrev AcC := accn.Ac
/-- a purse all of whose blocks are of S: its book's accounts, the open period, the rows of its journal's accounts, its postings -/
structure Pu (S : Nat → Prop) (w : World) (p pb pj : Nat) (A : List fnd.Ac) (op : Nat) (C : AcC → Option (List Int)) (L : List jnw.Ps) : Prop where
  c0 : w.cell? ⟨p, 0, none⟩ = some (.pointer (some ⟨pb, 0, none⟩))
  c1 : w.cell? ⟨p, 1, none⟩ = some (.pointer (some ⟨pj, 0, none⟩))
  bk : fnd.BkAt w pb A
  bok : fnd.Bok A
  jn : ∃ v m nn, jnw.JnAt (fun k => S k ∧ k ≠ p ∧ k ≠ pb) w pj v op m nn C L
  sp : S p
  sb : S pb
  ne : p ≠ pb
theorem Pu.lt {S : Nat → Prop} {w : World} {p pb pj : Nat} {A : List fnd.Ac} {op : Nat} {C : AcC → Option (List Int)} {L : List jnw.Ps} (h : Pu S w p pb pj A op C L) : p < w.heap.size ∧ pb < w.heap.size := ⟨World.block_lt_of_cell? w _ h.c0, h.bk.lt⟩
theorem Pu.opl {S : Nat → Prop} {w : World} {p pb pj : Nat} {A : List fnd.Ac} {op : Nat} {C : AcC → Option (List Int)} {L : List jnw.Ps} (h : Pu S w p pb pj A op C L) : op < 32 := by
  obtain ⟨v, m, nn, hj⟩ := h.jn
  exact hj.jc.le
theorem Pu.only {S T : Nat → Prop} {w w' : World} {p pb pj : Nat} {A : List fnd.Ac} {op : Nat} {C : AcC → Option (List Int)} {L : List jnw.Ps} (h : Pu S w p pb pj A op C L) (ho : Only T w w') (hT : ∀ q, S q → ¬ T q) : Pu S w' p pb pj A op C L := by
  obtain ⟨v, m, nn, hj⟩ := h.jn
  exact ⟨ho.cell' h.c0 (hT _ h.sp), ho.cell' h.c1 (hT _ h.sp), h.bk.only ho (hT _ h.sb), h.bok, ⟨v, m, nn, hj.only ho (fun q hq => hT q hq.1)⟩, h.sp, h.sb, h.ne⟩
theorem Pu.quiet {S : Nat → Prop} {w w' : World} {p pb pj : Nat} {A : List fnd.Ac} {op : Nat} {C : AcC → Option (List Int)} {L : List jnw.Ps} (h : Pu S w p pb pj A op C L) (ho : Only (fun _ => False) w w') : Pu S w' p pb pj A op C L := h.only ho (fun _ _ f => f)
theorem Pu.mono {S T : Nat → Prop} {w : World} {p pb pj : Nat} {A : List fnd.Ac} {op : Nat} {C : AcC → Option (List Int)} {L : List jnw.Ps} (h : Pu S w p pb pj A op C L) (hT : ∀ q, q < w.heap.size → S q → T q) : Pu T w p pb pj A op C L := by
  obtain ⟨v, m, nn, hj⟩ := h.jn
  exact ⟨h.c0, h.c1, h.bk, h.bok, ⟨v, m, nn, hj.mono (fun q hq hs => ⟨hT q hq hs.1, hs.2⟩)⟩, hT _ h.lt.1 h.sp, hT _ h.lt.2 h.sb, h.ne⟩
/-- the book alone has changed -/
theorem Pu.book {S : Nat → Prop} {w w' : World} {p pb pj : Nat} {A A' : List fnd.Ac} {op : Nat} {C : AcC → Option (List Int)} {L : List jnw.Ps} (h : Pu S w p pb pj A op C L) (hb : fnd.BkAt w' pb A') (hA : fnd.Bok A') (ho : Only (fun q => q = pb) w w') : Pu S w' p pb pj A' op C L := by
  obtain ⟨v, m, nn, hj⟩ := h.jn
  exact ⟨ho.cell' h.c0 h.ne, ho.cell' h.c1 h.ne, hb, hA, ⟨v, m, nn, hj.only ho (fun q hq e => hq.2.2 e)⟩, h.sp, h.sb, h.ne⟩
/-- the journal alone has changed -/
theorem Pu.jour {S : Nat → Prop} {w w' : World} {p pb pj : Nat} {A : List fnd.Ac} {op op' : Nat} {C C' : AcC → Option (List Int)} {L L' : List jnw.Ps} (h : Pu S w p pb pj A op C L) (hj : ∃ v m nn, jnw.JnAt (fun q => (S q ∧ q ≠ p ∧ q ≠ pb) ∨ w.heap.size ≤ q) w' pj v op' m nn C' L') (ho : Only (fun q => S q ∧ q ≠ p ∧ q ≠ pb) w w') : Pu (fun q => S q ∨ w.heap.size ≤ q) w' p pb pj A op' C' L' := by
  obtain ⟨v, m, nn, hj⟩ := hj
  have hl := h.lt
  exact ⟨ho.cell' h.c0 (fun s => s.2.1 rfl), ho.cell' h.c1 (fun s => s.2.1 rfl), h.bk.only ho (fun s => s.2.2 rfl), h.bok, ⟨v, m, nn, hj.mono (fun q hq hs => by
    rcases hs with hs | hs
    · exact ⟨.inl hs.1, hs.2⟩
    · exact ⟨.inr hs, by omega, by omega⟩)⟩, .inl h.sp, .inl h.sb, h.ne⟩
/-- a new purse -/
def PNew (w : World) (e : Ending) (w' : World) : Prop := ∃ p pb pj, e = .returned (.pointer (some ⟨p, 0, none⟩)) ∧ Pu (fun q => w.heap.size ≤ q) w' p pb pj fnd.A0 0 (fun _ => none) [] ∧ Only (fun _ => False) w w'
theorem pnew_any (w : World) : Calls Try.prog 6 #[] w (PNew w) := by
  go_enter Try.func6, Try.ntmps6
  go_wp2_with fail
  refine (fnd.bnew_any w).mono ?_
  rintro _ w1 ⟨rfl, hb, ho1⟩
  have HB := Lib.hid hb
  have HO1 := Lib.hid ho1
  clear hb ho1
  go_wp2_with fail
  refine (jnw.new_any w1).mono ?_
  rintro _ w2 ⟨rfl, hj, ho2⟩
  have hbl := HB.out.lt
  have hjl := World.block_lt_of_cell? w2 _ hj.c0
  simp only at hjl
  have hs1 := HO1.out.size
  have hs2 := ho2.size
  have HEND : Hid (PNew w (.returned (.pointer (some ⟨w2.heap.size, 0, none⟩))) (w2.alloc (.cells #[.pointer (some ⟨w.heap.size, 0, none⟩), .pointer (some ⟨w1.heap.size, 0, none⟩)] 60))) := Lib.hid (by
    have ho3 : Only (fun _ => False) w2 (w2.alloc (.cells #[.pointer (some ⟨w.heap.size, 0, none⟩), .pointer (some ⟨w1.heap.size, 0, none⟩)] 60)) := (Only.refl _ _).alloc _
    refine ⟨w2.heap.size, w.heap.size, w1.heap.size, rfl, ⟨tre.alloc_cell rfl rfl, tre.alloc_cell rfl rfl, (HB.out.only ho2 (fun f => f)).only ho3 (fun f => f), fnd.Bok.new, ⟨_, _, _, (jnw.JnAt.new (hj.only ho3 (fun f => f)) ⟨?_, ?_, ?_⟩)⟩, ?_, Nat.le_refl _, ?_⟩, (HO1.out.trans ho2).trans ho3⟩
    · show w.heap.size ≤ w1.heap.size; omega
    · show w1.heap.size ≠ w2.heap.size; omega
    · show w1.heap.size ≠ w.heap.size; omega
    · show w.heap.size ≤ w2.heap.size; omega
    · omega)
  clear hj ho2 hbl hjl hs1 hs2 HB HO1
  go_wp2_with fail
  go_ret
  exact HEND.out
theorem pget_any {S : Nat → Prop} {p pb pj : Nat} {A : List fnd.Ac} {op : Nat} {C : AcC → Option (List Int)} {L : List jnw.Ps} (n : Int) (w : World) (h : Pu S w p pb pj A op C L) : Calls Try.prog 16 #[.pointer (some ⟨p, 0, none⟩), .int .i64 n] w fun e w' => e = .returned (fnd.aggA (fnd.acG A n)) ∧ Only (fun _ => False) w w' := by
  obtain ⟨w1, hw1⟩ : ∃ zz, zz = w.alloc (.cells #[.int .i64 0, .int .i64 0, .int .i64 0, .int .i64 0, .int .i64 0] 40) := ⟨_, rfl⟩
  obtain ⟨g, hg⟩ : ∃ zz, zz = w.heap.size := ⟨_, rfl⟩
  have ho1 : Only (fun _ => False) w w1 := by rw [hw1]; exact (Only.refl _ _).alloc _
  have HF5 : Hid (tre.Five w1 g) := Lib.hid (by rw [hw1]; exact tre.Five.new hg)
  have HO1 := Lib.hid ho1
  have c0 := ho1.cell' h.c0 (fun f => f)
  have HG := Lib.hid (fnd.get_any pb A n w1 (h.bk.only ho1 (fun f => f)))
  have HGW : Hid (w.heap.size ≤ g) := Lib.hid (by omega)
  clear h ho1
  generalize fnd.acG A n = a at *
  obtain ⟨at_, ac, ae, au, ah⟩ := a
  unfold fnd.aggA at HG ⊢
  dsimp only at HG ⊢
  go_enter Try.func16, Try.ntmps16
  go_upto_region 1 with fail
  simp only [← hw1, ← hg]
  clear hw1 hg
  go_wp2_with fail
  refine HG.out.mono ?_
  rintro _ w2 ⟨rfl, ho⟩
  have HO2 := Lib.hid (HO1.out.trans ho)
  have HF2 := Lib.hid (HF5.out.only ho (fun f => f))
  have HSZ := Lib.hid HO2.out.size
  obtain ⟨⟨u0, y0⟩, ⟨u1, y1⟩, ⟨u2, y2⟩, ⟨u3, y3⟩, ⟨u4, y4⟩, f0, f1, f2, f3, f4⟩ := HF2.out
  clear ho HG
  go_wp2_with fail
  have hp := HF2.out.put (.int .i64 at_) (.int .i64 ac) (.int .i64 ae) (.int .i64 au) (.int .i64 ah)
  have hpo : Only (fun q => q = g) w2 (tre.put50 w2 g (.int .i64 at_) (.int .i64 ac) (.int .i64 ae) (.int .i64 au) (.int .i64 ah)) := by rw [tre.put50_eq]; exact tre.put5_only _ _ _ _ _ _ _ _
  have hpe := HO2.out.then hpo (fun q hq e => by have := HGW.out; omega)
  unfold tre.put50 at hp hpe
  obtain ⟨e0, e1, e2, e3, e4⟩ := hp
  refine bodyPost_ret (v := .agg #[.int .i64 at_, .int .i64 ac, .int .i64 ae, .int .i64 au, .int .i64 ah]) (by simp [results, Try.results16, go_sem, e0, e1, e2, e3, e4]) rfl ⟨rfl, hpe⟩
theorem pavail_any {S : Nat → Prop} {p pb pj : Nat} {A : List fnd.Ac} {op : Nat} {C : AcC → Option (List Int)} {L : List jnw.Ps} (n : Int) (w : World) (h : Pu S w p pb pj A op C L) : Calls Try.prog 10 #[.pointer (some ⟨p, 0, none⟩), .int .i64 n] w fun e w' => e = .returned (.int .i64 (fnd.left (fnd.acG A n))) ∧ Only (fun _ => False) w w' := by
  have c0 := h.c0
  have HG := Lib.hid (fnd.available_any pb A n w h.bk h.bok)
  clear h
  generalize fnd.left (fnd.acG A n) = a at *
  go_enter Try.func10, Try.ntmps10
  go_wp2_with fail
  refine HG.out.mono ?_
  rintro _ w2 ⟨rfl, ho⟩
  have HO2 := Lib.hid ho
  clear ho HG
  go_wp2_with fail
  go_ret
  exact ⟨rfl, HO2.out⟩
theorem pjour_any {S : Nat → Prop} {p pb pj : Nat} {A : List fnd.Ac} {op : Nat} {C : AcC → Option (List Int)} {L : List jnw.Ps} (w : World) (h : Pu S w p pb pj A op C L) : Calls Try.prog 11 #[.pointer (some ⟨p, 0, none⟩)] w fun e w' => e = .returned (.pointer (some ⟨pj, 0, none⟩)) ∧ w = w' := by
  have c1 := h.c1
  clear h
  go_enter Try.func11, Try.ntmps11
  go_wp2_with fail
  go_ret
  exact ⟨rfl, rfl⟩
end Go.Proofs.Ytkbaafgaaiekpaa.puw

namespace Go.Proofs.Ytkbaafgaaiekpaa.puw
open Go.RowKit mem
set_option linter.unusedVariables false

/-- what is posted -/
def PoYes (C : AcC → Option (List Int)) (kind m gr : Int) (path : List Int) (ls : List entm.Lg) : Prop := entw.mkNo kind m path = 0 ∧ ls.Perm (entm.rawL kind m gr path) ∧ entw.Sorted ls ∧ entm.chk kind ls = 0 ∧ jnw.pErr C kind ls = 0
/-- why nothing is -/
def PoNo (C : AcC → Option (List Int)) (kind m gr : Int) (path : List Int) (er : Int) : Prop := er = entw.mkNo kind m path ∨ (entw.mkNo kind m path = 0 ∧ ∃ ls : List entm.Lg, ls.Perm (entm.rawL kind m gr path) ∧ entw.Sorted ls ∧ ((entm.chk kind ls ≠ 0 ∧ er = entm.chk kind ls) ∨ (entm.chk kind ls = 0 ∧ er = jnw.pErr C kind ls)))
def PoR (S : Nat → Prop) (w : World) (p pb pj : Nat) (A : List fnd.Ac) (op : Nat) (C : AcC → Option (List Int)) (L : List jnw.Ps) (kind m gr : Int) (path : List Int) (e : Ending) (w' : World) : Prop :=
  (∃ er : Int, er ≠ 0 ∧ e = .returned (.int .i64 er) ∧ Only (fun _ => False) w w' ∧ PoNo C kind m gr path er) ∨
  (e = .returned (.int .i64 0) ∧ ∃ (ls : List entm.Lg) (x : jnw.Ps), PoYes C kind m gr path ls ∧ x.ls = ls ∧ x.kd = kind ∧ x.per = op ∧ Pu (fun q => S q ∨ w.heap.size ≤ q) w' p pb pj A op (jnw.addC C op ls) (L ++ [x]) ∧ Only (fun q => S q ∧ q ≠ p ∧ q ≠ pb) w w')
/-- made, as one fact -/
theorem mkd_any (kind m gr : Int) (hg : entw.InI gr) (a : Option Addr) (len cap : Nat) (path : List Int) (w : World) (h : ReadsI w a len path) (hlc : len ≤ cap) (hcm : cap ≤ 9223372036854775807) :
    Calls Try.prog 55 #[.int .i64 kind, .int .i64 m, .slice a len cap, .int .i64 gr] w fun e w' => Only (fun _ => False) w w' ∧
      ((∃ er : Int, er ≠ 0 ∧ e = .returned (.tuple #[.agg #[.int .i64 0, .slice none 0 0], .int .i64 er]) ∧ ∀ C, PoNo C kind m gr path er) ∨
       (∃ b cp ls, entw.mkNo kind m path = 0 ∧ ls.Perm (entm.rawL kind m gr path) ∧ entw.Sorted ls ∧ entm.chk kind ls = 0 ∧ w.heap.size ≤ b ∧ entw.ReadsL w' (some ⟨b, 0, none⟩) ls.length ls ∧ e = .returned (.tuple #[.agg #[.int .i64 kind, .slice (some ⟨b, 0, none⟩) ls.length cp], .int .i64 0]))) := by
  by_cases hno : entw.mkNo kind m path = 0
  · have hk : entm.kindB kind = true := by
      unfold entw.mkNo at hno
      by_cases e : entm.kindB kind = false
      · rw [if_pos e] at hno; exact absurd hno (by decide)
      · simpa using e
    have h2 : ¬ (¬ entw.amB m ∨ entw.pathB path = false) := by
      unfold entw.mkNo at hno
      rw [if_neg (by rw [hk]; simp)] at hno
      intro e
      rw [if_pos e] at hno
      exact absurd hno (by decide)
    have ha : entw.amB m := by
      by_cases e : entw.amB m
      · exact e
      · exact absurd (.inl e) h2
    have hp : entw.pathB path = true := by
      by_cases e : entw.pathB path = true
      · exact e
      · exact absurd (.inr (by simpa using e)) h2
    refine (entw.make_yes kind m gr hk ha hg a len cap path hp w h hlc hcm).mono ?_
    rintro e w' ⟨g, cp, ls, h1, h2, h3, h4, h5, ⟨hc, rfl⟩ | ⟨hc, rfl⟩⟩
    · exact ⟨h4, .inr ⟨g, cp, ls, hno, h1, h2, hc, h3, h5, rfl⟩⟩
    · exact ⟨h4, .inl ⟨_, hc, rfl, fun C => .inr ⟨hno, ls, h1, h2, .inl ⟨hc, rfl⟩⟩⟩⟩
  · refine (entw.make_no kind m gr a len cap path w h hlc hcm hno).mono ?_
    rintro e w' ⟨rfl, ho⟩
    exact ⟨ho, .inl ⟨_, hno, rfl, fun C => .inl rfl⟩⟩
set_option maxRecDepth 100000 in
set_option maxHeartbeats 4000000 in
theorem ppost_any {S : Nat → Prop} {p pb pj : Nat} {A : List fnd.Ac} {op : Nat} {C : AcC → Option (List Int)} {L : List jnw.Ps} (kind m gr : Int) (hg : entw.InI gr) (a : Option Addr) (len cap : Nat) (path : List Int) (w : World) (h : Pu S w p pb pj A op C L) (hS : ∀ q, S q → q < w.heap.size) (hL : L.length < 16384) (hr : ReadsI w a len path) (hlc : len ≤ cap) (hcm : cap ≤ 9223372036854775807) :
    Calls Try.prog 51 #[.pointer (some ⟨p, 0, none⟩), .int .i64 kind, .int .i64 m, .slice a len cap, .int .i64 gr] w (PoR S w p pb pj A op C L kind m gr path) := by
  have HMD := Lib.hid (mkd_any kind m gr hg a len cap path w hr hlc hcm)
  have HPU := Lib.hid h
  have HSS := Lib.hid hS
  clear h hr hS hlc
  go_enter Try.func51, Try.ntmps51
  go_wp2_with fail
  refine HMD.out.mono ?_
  rintro _ w1 ⟨ho1, ⟨er, hne, rfl, hno⟩ | ⟨b, cp, ls, hmk, hpm, hso, hch, hb, hrl, rfl⟩⟩
  · have heb : (er == 0) = false := by rw [beq_eq_false_iff_ne]; exact hne
    have hen : (er != 0) = true := by rw [bne_iff_ne]; exact hne
    have HEND : Hid (∀ w', Only (fun _ => False) w1 w' → PoR S w p pb pj A op C L kind m gr path (.returned (.int .i64 er)) w') := Lib.hid (fun w' ho => .inl ⟨er, hne, rfl, ho1.trans ho, hno C⟩)
    clear ho1 hno hne HMD
    go_wp2_with fail
    go_ret
    exact HEND.out _ ((Only.refl _ _).alloc _)
  · obtain ⟨w2, hw2⟩ : ∃ x, x = w1.alloc (.cells #[.int .i64 kind, .slice (some ⟨b, 0, none⟩) ls.length cp] 68) := ⟨_, rfl⟩
    obtain ⟨q, hq⟩ : ∃ x, x = w1.heap.size := ⟨_, rfl⟩
    have ho2 : Only (fun _ => False) w1 w2 := by rw [hw2]; exact (Only.refl _ _).alloc _
    have HO2 : Hid (Only (fun _ => False) w w2) := Lib.hid (ho1.trans ho2)
    have HQW : Hid (w.heap.size ≤ q) := Lib.hid (by have := ho1.size; omega)
    have HMK := Lib.hid hmk
    have HPM := Lib.hid hpm
    have HSO := Lib.hid hso
    have HCH := Lib.hid hch
    have HSL : Hid (∀ w', Only (fun _ => False) w2 w' → w'.cell? ⟨p, 1, none⟩ = some (.pointer (some ⟨pj, 0, none⟩)) ∧ w'.cell? ⟨q, 0, none⟩ = some (.int .i64 kind) ∧ w'.cell? ⟨q, 1, none⟩ = some (.slice (some ⟨b, 0, none⟩) ls.length cp)) := Lib.hid (fun w' ho => ⟨(HO2.out.trans ho).cell' HPU.out.c1 (fun f => f), ho.cell' (by rw [hw2]; exact tre.alloc_cell hq rfl) (fun f => f), ho.cell' (by rw [hw2]; exact tre.alloc_cell hq rfl) (fun f => f)⟩)
    obtain ⟨v, mm, nn, hj⟩ := HPU.out.jn
    have HPO0 := Lib.hid (fun w' (ho : Only (fun _ => False) w2 w') => jnw.post_any pj op v mm nn C L kind (some ⟨b, 0, none⟩) ls.length cp ls w' (hj.quiet (HO2.out.trans ho)) ((hrl.only ho2 (fun _ _ f => f)).only ho (fun _ _ f => f)) hL (fun x e s => by
      injection e with e
      have h1 := HSS.out _ s.1
      rw [← e] at h1
      have h1 : b < w.heap.size := h1
      omega))
    clear ho1 ho2 hmk hpm hso hrl hb hch hj HMD
    obtain ⟨nl, hnl⟩ : ∃ x, ls.length = x := ⟨_, rfl⟩
    rw [hnl] at hw2 HSL HPO0
    by_cases he : jnw.pErr C kind ls = 0
    · have HER := Lib.hid he
      have HPO : Hid (∀ w', Only (fun _ => False) w2 w' → Calls Try.prog 31 #[.pointer (some ⟨pj, 0, none⟩), .agg #[.int .i64 kind, .slice (some ⟨b, 0, none⟩) nl cp]] w' fun e w1 => e = .returned (.tuple #[.int .i64 (L.length : Int), .int .i64 0]) ∧ (∃ v' m' nn' g cp, jnw.JnAt (fun q => (S q ∧ q ≠ p ∧ q ≠ pb) ∨ w'.heap.size ≤ q) w1 pj v' op m' nn' (jnw.addC C op ls) (L ++ [⟨kind, g, nl, cp, op, ls⟩])) ∧ Only (fun q => S q ∧ q ≠ p ∧ q ≠ pb) w' w1) := Lib.hid (fun w' ho => (HPO0.out w' ho).mono (fun e w1 hp => by
        rcases hp with ⟨hne, _⟩ | ⟨_, _, h1, h2, h3⟩
        · exact absurd HER.out hne
        · exact ⟨h1, h2, h3⟩))
      clear HPO0 he
      go_upto_region 2 with fail
      try rw [hnl]
      simp only [← hw2, ← hq]
      clear hw2 hq hnl
      go_upto_region 4 with fail
      refine wp_region_noPanic ?_
      refine late.region (fun w' => w'.cell? ⟨p, 1, none⟩ = some (.pointer (some ⟨pj, 0, none⟩)) ∧ w'.cell? ⟨q, 0, none⟩ = some (.int .i64 kind) ∧ w'.cell? ⟨q, 1, none⟩ = some (.slice (some ⟨b, 0, none⟩) nl cp)) (fun j => [].contains j) (by kernel_rfl) (HSL.out _ (Only.refl _ _).drew) (fun hHeld => ?_)
      obtain ⟨z0, hz0'⟩ : ∃ x, x = w2.drew := ⟨_, rfl⟩
      rw [← hz0'] at hHeld ⊢
      have hot : Hid (Only (fun _ => False) w2 z0) := Lib.hid (by rw [hz0']; exact (Only.refl _ _).drew)
      clear hz0'
      refine late.take (i := 0) [1, 2, 3, 5, 6, 7, 8, 9] (v := ?_) rfl (by kernel_rfl) (by kernel_rfl) (by kernel_rfl) (by kernel_rfl) (fun _ _ _ h => h) (Or.inl ⟨by rfl, ?_⟩) (by assumption) ?_
      rotate_left 1
      · intro w' hSw
        try dsimp only at hSw
        go_simp
        try with_reducible rfl
      try simp only [List.getElem_toArray, List.getElem_cons_zero, Act.put, List.setIfInBounds_toArray, List.set_cons_zero, List.set_cons_succ]
      refine late.take (i := 1) [2, 3, 5, 6, 7, 8, 9] (v := ?_) rfl (by kernel_rfl) (by kernel_rfl) (by kernel_rfl) (by kernel_rfl) (fun _ _ _ h => h) (Or.inl ⟨by rfl, ?_⟩) (by assumption) ?_
      rotate_left 1
      · intro w' hSw
        try dsimp only at hSw
        go_simp
        try with_reducible rfl
      try simp only [List.getElem_toArray, List.getElem_cons_zero, List.getElem_cons_succ, Act.put, List.setIfInBounds_toArray, List.set_cons_zero, List.set_cons_succ]
      refine late.take (i := 2) [3, 5, 6, 7, 8, 9] (v := ?_) rfl (by kernel_rfl) (by kernel_rfl) (by kernel_rfl) (by kernel_rfl) (fun _ _ _ h => h) (Or.inl ⟨by rfl, ?_⟩) (by assumption) ?_
      rotate_left 1
      · intro w' hSw
        try dsimp only at hSw
        go_simp
        try with_reducible rfl
      try simp only [List.getElem_toArray, List.getElem_cons_zero, List.getElem_cons_succ, Act.put, List.setIfInBounds_toArray, List.set_cons_zero, List.set_cons_succ]
      refine late.take (i := 3) [5, 6, 7, 8, 9] (v := ?_) rfl (by kernel_rfl) (by kernel_rfl) (by kernel_rfl) (by kernel_rfl) (fun _ _ _ h => h) (Or.inl ⟨by rfl, ?_⟩) (by assumption) ?_
      rotate_left 1
      · intro w' hSw
        try dsimp only at hSw
        go_simp
        try with_reducible rfl
      try simp only [List.getElem_toArray, List.getElem_cons_zero, List.getElem_cons_succ, Act.put, List.setIfInBounds_toArray, List.set_cons_zero, List.set_cons_succ]
      refine late.take (i := 4) [5, 6, 7, 8, 9] (v := ?_) rfl (by kernel_rfl) (by kernel_rfl) (by kernel_rfl) (by kernel_rfl) (fun _ _ _ h => h) (Or.inl ⟨by rfl, ?_⟩) (by assumption) ?_
      rotate_left 1
      · intro w' hSw
        try dsimp only at hSw
        go_simp
        try with_reducible rfl
      try simp only [List.getElem_toArray, List.getElem_cons_zero, List.getElem_cons_succ, Act.put, List.setIfInBounds_toArray, List.set_cons_zero, List.set_cons_succ]
      refine late.ready (rs := [5]) (by kernel_rfl) (by simp) ?_
      refine late.Each.cons rfl (fun K hK => ?_) late.Each.nil
      try simp only [List.getElem_toArray, List.getElem_cons_zero, List.getElem_cons_succ]
      go_simp
      go_at_call 31
      with_reducible refine (HPO.out _ hot.out).mono ?_
      rintro _ z1 ⟨rfl, ⟨v', m', nn', g', cp', hj'⟩, ho⟩
      have HEND : Hid (PoR S w p pb pj A op C L kind m gr path (.returned (.int .i64 0)) z1) := Lib.hid (.inr ⟨rfl, ls, _, ⟨HMK.out, HPM.out, HSO.out, HCH.out, HER.out⟩, rfl, rfl, rfl, (HPU.out.jour ⟨v', m', nn', hj'.mono (fun k hk hs => hs.imp (fun x => x) (fun s => by have h1 := hot.out.size; have h2 := HO2.out.size; omega))⟩ (((HO2.out.trans hot.out).mono (fun _ _ f => f.elim)).trans ho)), ((HO2.out.trans hot.out).mono (fun _ _ f => f.elim)).trans ho⟩)
      have HSZ : Hid (z1.cell? ⟨p, 1, none⟩ = some (.pointer (some ⟨pj, 0, none⟩)) ∧ z1.cell? ⟨q, 0, none⟩ = some (.int .i64 kind) ∧ z1.cell? ⟨q, 1, none⟩ = some (.slice (some ⟨b, 0, none⟩) nl cp)) := Lib.hid (by
        obtain ⟨k1, k2, k3⟩ := HSL.out _ hot.out
        have hqn : ¬ (S q ∧ q ≠ p ∧ q ≠ pb) := fun s => by have h1 := HSS.out _ s.1; have h2 := HQW.out; omega
        exact ⟨ho.cell' k1 (fun s => s.2.1 rfl), ho.cell' k2 hqn, ho.cell' k3 hqn⟩)
      clear hj' hot ho HPO
      try dsimp only
      refine hK.out _ _ (fun _ => HSZ.out) (fun hHeld1 => ?_)
      replace hHeld1 := hHeld1 rfl
      clear hK K
      try simp only [List.getElem_toArray, List.getElem_cons_zero, List.getElem_cons_succ, Act.put, List.setIfInBounds_toArray, List.set_cons_zero, List.set_cons_succ]
      refine late.take (i := 6) [7, 8, 9] (v := ?_) rfl (by kernel_rfl) (by kernel_rfl) (by kernel_rfl) (by kernel_rfl) (fun _ _ _ h => h) (Or.inl ⟨by rfl, ?_⟩) (by assumption) ?_
      rotate_left 1
      · intro w' hSw
        try dsimp only at hSw
        go_simp
        try with_reducible rfl
      try simp only [List.getElem_toArray, List.getElem_cons_zero, List.getElem_cons_succ, Act.put, List.setIfInBounds_toArray, List.set_cons_zero, List.set_cons_succ]
      refine late.take (i := 7) [9] (v := ?_) rfl (by kernel_rfl) (by kernel_rfl) (by kernel_rfl) (by kernel_rfl) (fun _ _ _ h => h) (Or.inl ⟨by rfl, ?_⟩) (by assumption) ?_
      rotate_left 1
      · intro w' hSw
        try dsimp only at hSw
        go_simp
        try with_reducible rfl
      try simp only [List.getElem_toArray, List.getElem_cons_zero, List.getElem_cons_succ, Act.put, List.setIfInBounds_toArray, List.set_cons_zero, List.set_cons_succ]
      refine late.take (i := 8) [9] (v := ?_) rfl (by kernel_rfl) (by kernel_rfl) (by kernel_rfl) (by kernel_rfl) (fun _ _ _ h => h) (Or.inl ⟨by rfl, ?_⟩) (by assumption) ?_
      rotate_left 1
      · intro w' hSw
        try dsimp only at hSw
        go_simp
        try with_reducible rfl
      try simp only [List.getElem_toArray, List.getElem_cons_zero, List.getElem_cons_succ, Act.put, List.setIfInBounds_toArray, List.set_cons_zero, List.set_cons_succ]
      refine late.take (i := 9) [] (v := ?_) rfl (by kernel_rfl) (by kernel_rfl) (by kernel_rfl) (by kernel_rfl) (fun _ _ _ h => h) (Or.inl ⟨by rfl, ?_⟩) (by assumption) ?_
      rotate_left 1
      · intro w' hSw
        try dsimp only at hSw
        go_simp
        try with_reducible rfl
      try simp only [List.getElem_toArray, List.getElem_cons_zero, List.getElem_cons_succ, Act.put, List.setIfInBounds_toArray, List.set_cons_zero, List.set_cons_succ]
      refine late.done (by kernel_rfl) ?_ _
      refine NoPanic.normal ?_
      clear hHeld
      go_wp2_with fail
      go_ret
      exact HEND.out
    · obtain ⟨er, her⟩ : ∃ x, x = jnw.pErr C kind ls := ⟨_, rfl⟩
      have HER := Lib.hid her
      have HNE : Hid (er ≠ 0) := Lib.hid (by rw [her]; exact he)
      have HPO : Hid (∀ w', Only (fun _ => False) w2 w' → Calls Try.prog 31 #[.pointer (some ⟨pj, 0, none⟩), .agg #[.int .i64 kind, .slice (some ⟨b, 0, none⟩) nl cp]] w' fun e w1 => e = .returned (.tuple #[.int .i64 0, .int .i64 er]) ∧ Only (fun _ => False) w' w1) := Lib.hid (fun w' ho => (HPO0.out w' ho).mono (fun e w1 hp => by
        rcases hp with ⟨_, h1, h2⟩ | ⟨h0, _⟩
        · rw [← HER.out] at h1; exact ⟨h1, h2⟩
        · exact absurd (HER.out.trans h0) HNE.out))
      clear HPO0 he her
      go_upto_region 2 with fail
      try rw [hnl]
      simp only [← hw2, ← hq]
      clear hw2 hq hnl
      go_upto_region 4 with fail
      refine wp_region_noPanic ?_
      refine late.region (fun w' => w'.cell? ⟨p, 1, none⟩ = some (.pointer (some ⟨pj, 0, none⟩)) ∧ w'.cell? ⟨q, 0, none⟩ = some (.int .i64 kind) ∧ w'.cell? ⟨q, 1, none⟩ = some (.slice (some ⟨b, 0, none⟩) nl cp)) (fun j => [].contains j) (by kernel_rfl) (HSL.out _ (Only.refl _ _).drew) (fun hHeld => ?_)
      obtain ⟨z0, hz0'⟩ : ∃ x, x = w2.drew := ⟨_, rfl⟩
      rw [← hz0'] at hHeld ⊢
      have hot : Hid (Only (fun _ => False) w2 z0) := Lib.hid (by rw [hz0']; exact (Only.refl _ _).drew)
      clear hz0'
      refine late.take (i := 0) [1, 2, 3, 5, 6, 7, 8, 9] (v := ?_) rfl (by kernel_rfl) (by kernel_rfl) (by kernel_rfl) (by kernel_rfl) (fun _ _ _ h => h) (Or.inl ⟨by rfl, ?_⟩) (by assumption) ?_
      rotate_left 1
      · intro w' hSw
        try dsimp only at hSw
        go_simp
        try with_reducible rfl
      try simp only [List.getElem_toArray, List.getElem_cons_zero, Act.put, List.setIfInBounds_toArray, List.set_cons_zero, List.set_cons_succ]
      refine late.take (i := 1) [2, 3, 5, 6, 7, 8, 9] (v := ?_) rfl (by kernel_rfl) (by kernel_rfl) (by kernel_rfl) (by kernel_rfl) (fun _ _ _ h => h) (Or.inl ⟨by rfl, ?_⟩) (by assumption) ?_
      rotate_left 1
      · intro w' hSw
        try dsimp only at hSw
        go_simp
        try with_reducible rfl
      try simp only [List.getElem_toArray, List.getElem_cons_zero, List.getElem_cons_succ, Act.put, List.setIfInBounds_toArray, List.set_cons_zero, List.set_cons_succ]
      refine late.take (i := 2) [3, 5, 6, 7, 8, 9] (v := ?_) rfl (by kernel_rfl) (by kernel_rfl) (by kernel_rfl) (by kernel_rfl) (fun _ _ _ h => h) (Or.inl ⟨by rfl, ?_⟩) (by assumption) ?_
      rotate_left 1
      · intro w' hSw
        try dsimp only at hSw
        go_simp
        try with_reducible rfl
      try simp only [List.getElem_toArray, List.getElem_cons_zero, List.getElem_cons_succ, Act.put, List.setIfInBounds_toArray, List.set_cons_zero, List.set_cons_succ]
      refine late.take (i := 3) [5, 6, 7, 8, 9] (v := ?_) rfl (by kernel_rfl) (by kernel_rfl) (by kernel_rfl) (by kernel_rfl) (fun _ _ _ h => h) (Or.inl ⟨by rfl, ?_⟩) (by assumption) ?_
      rotate_left 1
      · intro w' hSw
        try dsimp only at hSw
        go_simp
        try with_reducible rfl
      try simp only [List.getElem_toArray, List.getElem_cons_zero, List.getElem_cons_succ, Act.put, List.setIfInBounds_toArray, List.set_cons_zero, List.set_cons_succ]
      refine late.take (i := 4) [5, 6, 7, 8, 9] (v := ?_) rfl (by kernel_rfl) (by kernel_rfl) (by kernel_rfl) (by kernel_rfl) (fun _ _ _ h => h) (Or.inl ⟨by rfl, ?_⟩) (by assumption) ?_
      rotate_left 1
      · intro w' hSw
        try dsimp only at hSw
        go_simp
        try with_reducible rfl
      try simp only [List.getElem_toArray, List.getElem_cons_zero, List.getElem_cons_succ, Act.put, List.setIfInBounds_toArray, List.set_cons_zero, List.set_cons_succ]
      refine late.ready (rs := [5]) (by kernel_rfl) (by simp) ?_
      refine late.Each.cons rfl (fun K hK => ?_) late.Each.nil
      try simp only [List.getElem_toArray, List.getElem_cons_zero, List.getElem_cons_succ]
      go_simp
      go_at_call 31
      with_reducible refine (HPO.out _ hot.out).mono ?_
      rintro _ z1 ⟨rfl, ho⟩
      have HEND : Hid (PoR S w p pb pj A op C L kind m gr path (.returned (.int .i64 er)) z1) := Lib.hid (.inl ⟨_, HNE.out, rfl, HO2.out.trans (hot.out.trans ho), .inr ⟨HMK.out, ls, HPM.out, HSO.out, .inr ⟨HCH.out, HER.out⟩⟩⟩)
      replace hot := Lib.hid (hot.out.trans ho)
      clear ho HPO
      try dsimp only
      refine hK.out _ _ (fun _ => HSL.out _ hot.out) (fun hHeld1 => ?_)
      replace hHeld1 := hHeld1 rfl
      clear hK K
      try simp only [List.getElem_toArray, List.getElem_cons_zero, List.getElem_cons_succ, Act.put, List.setIfInBounds_toArray, List.set_cons_zero, List.set_cons_succ]
      refine late.take (i := 6) [7, 8, 9] (v := ?_) rfl (by kernel_rfl) (by kernel_rfl) (by kernel_rfl) (by kernel_rfl) (fun _ _ _ h => h) (Or.inl ⟨by rfl, ?_⟩) (by assumption) ?_
      rotate_left 1
      · intro w' hSw
        try dsimp only at hSw
        go_simp
        try with_reducible rfl
      try simp only [List.getElem_toArray, List.getElem_cons_zero, List.getElem_cons_succ, Act.put, List.setIfInBounds_toArray, List.set_cons_zero, List.set_cons_succ]
      refine late.take (i := 7) [9] (v := ?_) rfl (by kernel_rfl) (by kernel_rfl) (by kernel_rfl) (by kernel_rfl) (fun _ _ _ h => h) (Or.inl ⟨by rfl, ?_⟩) (by assumption) ?_
      rotate_left 1
      · intro w' hSw
        try dsimp only at hSw
        go_simp
        try with_reducible rfl
      try simp only [List.getElem_toArray, List.getElem_cons_zero, List.getElem_cons_succ, Act.put, List.setIfInBounds_toArray, List.set_cons_zero, List.set_cons_succ]
      refine late.take (i := 8) [9] (v := ?_) rfl (by kernel_rfl) (by kernel_rfl) (by kernel_rfl) (by kernel_rfl) (fun _ _ _ h => h) (Or.inl ⟨by rfl, ?_⟩) (by assumption) ?_
      rotate_left 1
      · intro w' hSw
        try dsimp only at hSw
        go_simp
        try with_reducible rfl
      try simp only [List.getElem_toArray, List.getElem_cons_zero, List.getElem_cons_succ, Act.put, List.setIfInBounds_toArray, List.set_cons_zero, List.set_cons_succ]
      refine late.take (i := 9) [] (v := ?_) rfl (by kernel_rfl) (by kernel_rfl) (by kernel_rfl) (by kernel_rfl) (fun _ _ _ h => h) (Or.inl ⟨by rfl, ?_⟩) (by assumption) ?_
      rotate_left 1
      · intro w' hSw
        try dsimp only at hSw
        go_simp
        try with_reducible rfl
      try simp only [List.getElem_toArray, List.getElem_cons_zero, List.getElem_cons_succ, Act.put, List.setIfInBounds_toArray, List.set_cons_zero, List.set_cons_succ]
      refine late.done (by kernel_rfl) ?_ _
      refine NoPanic.normal ?_
      clear hHeld
      go_wp2_with fail
      go_ret
      exact HEND.out
end Go.Proofs.Ytkbaafgaaiekpaa.puw

namespace Go.Proofs.Ytkbaafgaaiekpaa.puw
open Go.RowKit mem
set_option linter.unusedVariables false

/-- the accounts ahead, in a box of three -/
def AhAt (w : World) (g : Nat) (A : List fnd.Ac) (path : List Int) (k : Nat) : Prop := (∀ t, t < k → fnd.AcAt w g (t * 5) (fnd.acG A (path.getD t 0))) ∧ ∀ j, j < 15 → (∃ u, w.cell? ⟨g, j, none⟩ = some u) ∧ w.frozen? ⟨g, j, none⟩ = false
theorem AhAt.lt {w : World} {g : Nat} {A : List fnd.Ac} {path : List Int} {k : Nat} (h : AhAt w g A path k) : g < w.heap.size := by
  obtain ⟨⟨u, hu⟩, -⟩ := h.2 0 (by omega)
  exact World.block_lt_of_cell? w _ hu
theorem AhAt.only {S : Nat → Prop} {w w' : World} {g : Nat} {A : List fnd.Ac} {path : List Int} {k : Nat} (h : AhAt w g A path k) (ho : Only S w w') (hs : ¬ S g) : AhAt w' g A path k :=
  ⟨fun t ht => (h.1 t ht).only ho hs, fun j hj => by
    obtain ⟨⟨u, hu⟩, hf⟩ := h.2 j hj
    exact ⟨⟨u, ho.cell' hu hs⟩, (ho.frozen (p := ⟨g, j, none⟩) h.lt hs).trans hf⟩⟩
theorem AhAt.new {cs : Array Value} (hc : cs.size = 15) (w : World) (t : TypeId) (A : List fnd.Ac) (path : List Int) : AhAt (w.alloc (.cells cs t)) w.heap.size A path 0 :=
  ⟨fun t ht => by omega, fun j hj => ⟨⟨cs[j]'(by omega), by
    rw [Go.Joins.cell_of_block (cs := cs) (t := t) (fr := (0, 0)) (by rw [heap_alloc, if_pos rfl])]
    exact Array.getElem?_eq_getElem (by omega)⟩, tre.alloc_froz _ _ _ _ _ rfl⟩⟩
theorem AhAt.put {w : World} {g : Nat} {A : List fnd.Ac} {path : List Int} {k : Nat} (h : AhAt w g A path k) (hk : k < 3) {t c e u x : Int} (ha : fnd.acG A (path.getD k 0) = ⟨t, c, e, u, x⟩) : AhAt (tre.put5 w g (k * 5) (.int .i64 t) (.int .i64 c) (.int .i64 e) (.int .i64 u) (.int .i64 x)) g A path (k + 1) := by
  obtain ⟨⟨u0, h0⟩, f0⟩ := h.2 (k * 5) (by omega)
  obtain ⟨⟨u1, h1⟩, f1⟩ := h.2 (k * 5 + 1) (by omega)
  obtain ⟨⟨u2, h2⟩, f2⟩ := h.2 (k * 5 + 2) (by omega)
  obtain ⟨⟨u3, h3⟩, f3⟩ := h.2 (k * 5 + 3) (by omega)
  obtain ⟨⟨u4, h4⟩, f4⟩ := h.2 (k * 5 + 4) (by omega)
  have hc := tre.put5_cells (.int .i64 t) (.int .i64 c) (.int .i64 e) (.int .i64 u) (.int .i64 x) (b := g) (o := k * 5) h0 h1 h2 h3 h4
  refine ⟨fun s hs => ?_, fun j hj => ⟨?_, by rw [tre.put5_froz]; exact (h.2 j hj).2⟩⟩
  · by_cases e2 : s = k
    · rw [e2, ha]; exact hc
    · obtain ⟨a0, a1, a2, a3, a4⟩ := h.1 s (by omega)
      exact ⟨by rw [tre.put5_far _ _ _ _ _ _ _ _ _ (by omega)]; exact a0, by rw [tre.put5_far _ _ _ _ _ _ _ _ _ (by omega)]; exact a1, by rw [tre.put5_far _ _ _ _ _ _ _ _ _ (by omega)]; exact a2, by rw [tre.put5_far _ _ _ _ _ _ _ _ _ (by omega)]; exact a3, by rw [tre.put5_far _ _ _ _ _ _ _ _ _ (by omega)]; exact a4⟩
  · by_cases e2 : j < k * 5 ∨ k * 5 + 5 ≤ j
    · rw [tre.put5_far _ _ _ _ _ _ _ _ _ e2]; exact (h.2 j hj).1
    · have e3 : j = k * 5 ∨ j = k * 5 + 1 ∨ j = k * 5 + 2 ∨ j = k * 5 + 3 ∨ j = k * 5 + 4 := by omega
      obtain ⟨c0, c1, c2, c3, c4⟩ := hc
      rcases e3 with rfl | rfl | rfl | rfl | rfl
      · exact ⟨_, c0⟩
      · exact ⟨_, c1⟩
      · exact ⟨_, c2⟩
      · exact ⟨_, c3⟩
      · exact ⟨_, c4⟩
/-- the accounts of a path put back -/
def resT (A B : List fnd.Ac) (l : List Int) : List fnd.Ac := l.foldl (fun B n => B.set n.toNat (A.getD n.toNat fnd.zA)) B
theorem resT_snoc (A B : List fnd.Ac) (l : List Int) (n : Int) : resT A B (l ++ [n]) = (resT A B l).set n.toNat (A.getD n.toNat fnd.zA) := by unfold resT; rw [List.foldl_append]; rfl
theorem resT_len (A : List fnd.Ac) : ∀ (l : List Int) (B : List fnd.Ac), (resT A B l).length = B.length
  | [], B => rfl
  | n :: r, B => by
    show (resT A (B.set n.toNat (A.getD n.toNat fnd.zA)) r).length = _
    rw [resT_len A r, List.length_set]
theorem resT_get (A : List fnd.Ac) (k : Nat) : ∀ (l : List Int) (B : List fnd.Ac), B.length = 33 → (∀ n ∈ l, n.toNat < 33) → ((∃ n ∈ l, n.toNat = k) → (resT A B l).getD k fnd.zA = A.getD k fnd.zA) ∧ ((∀ n ∈ l, n.toNat ≠ k) → (resT A B l).getD k fnd.zA = B.getD k fnd.zA)
  | [], B, _, _ => ⟨fun ⟨n, hn, _⟩ => (by cases hn), fun _ => rfl⟩
  | n :: r, B, hB, hl => by
    have ih := resT_get A k r (B.set n.toNat (A.getD n.toNat fnd.zA)) (by rw [List.length_set]; exact hB) (fun x hx => hl x (by simp [hx]))
    have hn := hl n (by simp)
    refine ⟨fun ⟨x, hx, he⟩ => ?_, fun h => ?_⟩
    · by_cases e : ∃ y ∈ r, y.toNat = k
      · exact ih.1 e
      · have h2 := ih.2 (fun y hy e2 => e ⟨y, hy, e2⟩)
        have hxn : x = n := by
          rcases List.mem_cons.1 hx with e2 | e2
          · exact e2
          · exact absurd ⟨x, e2, he⟩ e
        subst hxn
        show (resT A (B.set x.toNat (A.getD x.toNat fnd.zA)) r).getD k fnd.zA = _
        rw [h2, fnd.getA_set _ _ _ _ (by omega), if_pos he.symm, he]
    · have h2 := ih.2 (fun y hy => h y (by simp [hy]))
      show (resT A (B.set n.toNat (A.getD n.toNat fnd.zA)) r).getD k fnd.zA = _
      rw [h2, fnd.getA_set _ _ _ _ (by omega), if_neg (fun e => h n (by simp) e.symm)]
theorem getA_ext {A B : List fnd.Ac} (hl : A.length = B.length) (h : ∀ k, A.getD k fnd.zA = B.getD k fnd.zA) : A = B := by
  apply List.ext_getElem hl
  intro k h1 h2
  have := h k
  rw [List.getD_eq_getElem?_getD, List.getD_eq_getElem?_getD, List.getElem?_eq_getElem h1, List.getElem?_eq_getElem h2] at this
  exact this
/-- a change that goes through: of a path's nodes alone -/
structure ChOk (path : List Int) (A A' : List fnd.Ac) : Prop where
  n3 : path.length ≤ 3
  nd : ∀ n ∈ path, fnd.NodeOk n
  far : ∀ k, (∀ n ∈ path, n.toNat ≠ k) → A'.getD k fnd.zA = A.getD k fnd.zA
theorem ChOk.back {path : List Int} {A A' : List fnd.Ac} (h : ChOk path A A') (hA : A.length = 33) (hA' : A'.length = 33) : resT A A' path = A := by
  have hl : ∀ n ∈ path, n.toNat < 33 := fun n hn => by obtain ⟨h1, h2⟩ := h.nd n hn; omega
  refine getA_ext (by rw [resT_len, hA, hA']) (fun k => ?_)
  have hg := resT_get A k path A' hA' hl
  by_cases e : ∃ n ∈ path, n.toNat = k
  · exact hg.1 e
  · rw [hg.2 (fun n hn e2 => e ⟨n, hn, e2⟩)]
    exact h.far k (fun n hn e2 => e ⟨n, hn, e2⟩)
theorem resT_ok {A B : List fnd.Ac} (hA : fnd.Bok A) : ∀ (l : List Int) (B : List fnd.Ac), fnd.Bok B → (∀ n ∈ l, fnd.NodeOk n) → fnd.Bok (resT A B l)
  | [], B, hB, _ => hB
  | n :: r, B, hB, h => by
    obtain ⟨h1, h2⟩ := h n (by simp)
    exact resT_ok (A := A) (B := B) hA r _ (hB.set (k := n.toNat) (by omega) (by omega) (hA.ok _)) (fun x hx => h x (by simp [hx]))
/-- what a move answers -/
def MvR (S : Nat → Prop) (w : World) (p pb pj : Nat) (A : List fnd.Ac) (op : Nat) (C : AcC → Option (List Int)) (L : List jnw.Ps) (kind m gr : Int) (path : List Int) (A' : List fnd.Ac) (E : Int) (e : Ending) (w' : World) : Prop :=
  (∃ er : Int, er ≠ 0 ∧ e = .returned (.int .i64 er) ∧ Pu S w' p pb pj A op C L ∧ Only S w w' ∧ (er = E ∨ (E = 0 ∧ PoNo C kind m gr path er))) ∨
  (E = 0 ∧ e = .returned (.int .i64 0) ∧ ∃ (ls : List entm.Lg) (x : jnw.Ps), PoYes C kind m gr path ls ∧ x.ls = ls ∧ x.kd = kind ∧ x.per = op ∧ Pu (fun q => S q ∨ w.heap.size ≤ q) w' p pb pj A' op (jnw.addC C op ls) (L ++ [x]) ∧ Only S w w')
end Go.Proofs.Ytkbaafgaaiekpaa.puw

