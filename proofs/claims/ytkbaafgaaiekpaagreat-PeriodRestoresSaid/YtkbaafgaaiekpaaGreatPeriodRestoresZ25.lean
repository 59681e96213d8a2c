/- Several texts together: PuB, PuC. -/
import Derived.Test.YtkbaafgaaiekpaaGreatPeriodRestoresZ1
import Derived.Test.YtkbaafgaaiekpaaGreatPeriodRestoresZ23
open List (getElem_toArray getElem_cons_zero getElem_cons_succ setIfInBounds_toArray set_cons_zero set_cons_succ)
open Go.Lib (hid)
namespace Go.Proofs.YtkbaafgaaiekpaaGreat.puw
open Go.RowKit mem
set_option linter.unusedVariables false
def PoYes (C : AcC → Option (List Int)) (kind m gr : Int) (path : List Int) (ls : List entm.Lg) : Prop := entw.mkNo kind m path = 0 ∧ ls.Perm (entm.rawL kind m gr path) ∧ entw.Sorted ls ∧ entm.chk kind ls = 0 ∧ jnw.pErr C kind ls = 0
def PoNo (C : AcC → Option (List Int)) (kind m gr : Int) (path : List Int) (er : Int) : Prop := er = entw.mkNo kind m path ∨ (entw.mkNo kind m path = 0 ∧ ∃ ls : List entm.Lg, ls.Perm (entm.rawL kind m gr path) ∧ entw.Sorted ls ∧ ((entm.chk kind ls ≠ 0 ∧ er = entm.chk kind ls) ∨ (entm.chk kind ls = 0 ∧ er = jnw.pErr C kind ls)))
def PoR (S : Nat → Prop) (w : World) (p pb pj : Nat) (A : List fnd.Ac) (op : Nat) (C : AcC → Option (List Int)) (L : List jnw.Ps) (kind m gr : Int) (path : List Int) (e : Ending) (w' : World) : Prop :=
  (∃ er : Int, er ≠ 0 ∧ e = .returned (.int .i64 er) ∧ Only (fun _ => False) w w' ∧ PoNo C kind m gr path er) ∨
  (e = .returned (.int .i64 0) ∧ ∃ (ls : List entm.Lg) (x : jnw.Ps), PoYes C kind m gr path ls ∧ x.ls = ls ∧ x.kd = kind ∧ x.per = op ∧ Pu (fun q => S q ∨ w.heap.size ≤ q) w' p pb pj A op (jnw.addC C op ls) (L ++ [x]) ∧ Only (fun q => S q ∧ q ≠ p ∧ q ≠ pb) w w')
theorem mkd_any (kind m gr : Int) (hg : entw.InI gr) (a : Option Addr) (len cap : Nat) (path : List Int) (w : World) (h : ReadsI w a len path) (hlc : len ≤ cap) (hcm : cap ≤ 9223372036854775807) :
    Calls Tryz.prog 70 #[.int .i64 kind, .int .i64 m, .slice a len cap, .int .i64 gr] w fun e w' => Only (fun _ => False) w w' ∧
      ((∃ er : Int, er ≠ 0 ∧ e = .returned (.tuple #[.agg #[.int .i64 0, .slice none 0 0], .int .i64 er]) ∧ ∀ C, PoNo C kind m gr path er) ∨
       (∃ b cp ls, entw.mkNo kind m path = 0 ∧ ls.Perm (entm.rawL kind m gr path) ∧ entw.Sorted ls ∧ entm.chk kind ls = 0 ∧ w.heap.size ≤ b ∧ entw.ReadsL w' (some ⟨b, 0, none⟩) ls.length ls ∧ e = .returned (.tuple #[.agg #[.int .i64 kind, .slice (some ⟨b, 0, none⟩) ls.length cp], .int .i64 0]))) := by
  by_cases hno : entw.mkNo kind m path = 0
  · have hk : entm.kindB kind = true := by
      unfold entw.mkNo at hno; by_cases e : entm.kindB kind = false
      · rw [if_pos e] at hno; exact absurd hno (by decide)
      · simpa using e
    have h2 : ¬ (¬ entw.amB m ∨ entw.pathB path = false) := by
      unfold entw.mkNo at hno; rw [if_neg (by rw [hk]; simp)] at hno; intro e; rw [if_pos e] at hno; exact absurd hno (by decide)
    have ha : entw.amB m := by
      by_cases e : entw.amB m
      · exact e
      · exact absurd (.inl e) h2
    have hp : entw.pathB path = true := by
      by_cases e : entw.pathB path = true
      · exact e
      · exact absurd (.inr (by simpa using e)) h2
    refine (entw.make_yes kind m gr hk ha hg a len cap path hp w h hlc hcm).mono ?_; rintro e w' ⟨g, cp, ls, h1, h2, h3, h4, h5, ⟨hc, rfl⟩ | ⟨hc, rfl⟩⟩
    · exact ⟨h4, .inr ⟨g, cp, ls, hno, h1, h2, hc, h3, h5, rfl⟩⟩
    · exact ⟨h4, .inl ⟨_, hc, rfl, fun C => .inr ⟨hno, ls, h1, h2, .inl ⟨hc, rfl⟩⟩⟩⟩
  · refine (entw.make_no kind m gr a len cap path w h hlc hcm hno).mono ?_; rintro e w' ⟨rfl, ho⟩; exact ⟨ho, .inl ⟨_, hno, rfl, fun C => .inl rfl⟩⟩
set_option maxRecDepth 100000 in
set_option maxHeartbeats 9000000 in
theorem ppost_any {S : Nat → Prop} {p pb pj : Nat} {A : List fnd.Ac} {op : Nat} {C : AcC → Option (List Int)} {L : List jnw.Ps} (kind m gr : Int) (hg : entw.InI gr) (a : Option Addr) (len cap : Nat) (path : List Int) (w : World) (h : Pu S w p pb pj A op C L) (hS : ∀ q, S q → q < w.heap.size) (hL : L.length < 16384) (hr : ReadsI w a len path) (hlc : len ≤ cap) (hcm : cap ≤ 9223372036854775807) :
    Calls Tryz.prog 78 #[.pointer (some ⟨p, 0, none⟩), .int .i64 kind, .int .i64 m, .slice a len cap, .int .i64 gr] w (PoR S w p pb pj A op C L kind m gr path) := by
  have HMD := hid (mkd_any kind m gr hg a len cap path w hr hlc hcm); have HPU := hid h; have HSS := hid hS; clear h hr hS hlc; go_enter Tryz.func78, Tryz.ntmps78
  (go_wp2_with fail); refine HMD.out.mono ?_; rintro _ w1 ⟨ho1, ⟨er, hne, rfl, hno⟩ | ⟨b, cp, ls, hmk, hpm, hso, hch, hb, hrl, rfl⟩⟩
  · have heb : (er == 0) = false := (by rw [beq_eq_false_iff_ne]; exact hne); have hen : (er != 0) = true := (by rw [bne_iff_ne]; exact hne); have HEND : Hid (∀ w', Only (fun _ => False) w1 w' → PoR S w p pb pj A op C L kind m gr path (.returned (.int .i64 er)) w') := hid (fun w' ho => .inl ⟨er, hne, rfl, ho1.trans ho, hno C⟩); clear ho1 hno hne HMD; (go_wp2_with fail); go_ret
    exact HEND.out _ ((Only.refl _ _).alloc _)
  · obtain ⟨w2, hw2⟩ : ∃ x, x = w1.alloc (.cells #[.int .i64 kind, .slice (some ⟨b, 0, none⟩) ls.length cp] 67) := ⟨_, rfl⟩; obtain ⟨q, hq⟩ : ∃ x, x = w1.heap.size := ⟨_, rfl⟩; have ho2 : Only (fun _ => False) w1 w2 := (by rw [hw2]; exact (Only.refl _ _).alloc _); have HO2 : Hid (Only (fun _ => False) w w2) := hid (ho1.trans ho2); have HQW : Hid (w.heap.size ≤ q) := hid (by have := ho1.size; omega); have HMK := hid hmk; have HPM := hid hpm; have HSO := hid hso; have HCH := hid hch; have HSL : Hid (∀ w', Only (fun _ => False) w2 w' → w'.cell? ⟨p, 1, none⟩ = some (.pointer (some ⟨pj, 0, none⟩)) ∧ w'.cell? ⟨q, 0, none⟩ = some (.int .i64 kind) ∧ w'.cell? ⟨q, 1, none⟩ = some (.slice (some ⟨b, 0, none⟩) ls.length cp)) := hid (fun w' ho => ⟨(HO2.out.trans ho).cell' HPU.out.c1 (fun f => f), ho.cell' (by rw [hw2]; exact tre.alloc_cell hq rfl) (fun f => f), ho.cell' (by rw [hw2]; exact tre.alloc_cell hq rfl) (fun f => f)⟩); obtain ⟨v, mm, nn, hj⟩ := HPU.out.jn; have HPO0 := hid (fun w' (ho : Only (fun _ => False) w2 w') => jnw.post_any pj op v mm nn C L kind (some ⟨b, 0, none⟩) ls.length cp ls w' (hj.quiet (HO2.out.trans ho)) ((hrl.only ho2 (fun _ _ f => f)).only ho (fun _ _ f => f)) hL (fun x e s => by
      injection e with e; have h1 := HSS.out _ s.1; rw [← e] at h1; have h1 : b < w.heap.size := h1; omega))
    clear ho1 ho2 hmk hpm hso hrl hb hch hj HMD; obtain ⟨nl, hnl⟩ : ∃ x, ls.length = x := ⟨_, rfl⟩; rw [hnl] at hw2 HSL HPO0; by_cases he : jnw.pErr C kind ls = 0
    · have HER := hid he; have HPO : Hid (∀ w', Only (fun _ => False) w2 w' → Calls Tryz.prog 31 #[.pointer (some ⟨pj, 0, none⟩), .agg #[.int .i64 kind, .slice (some ⟨b, 0, none⟩) nl cp]] w' fun e w1 => e = .returned (.tuple #[.int .i64 (L.length : Int), .int .i64 0]) ∧ (∃ v' m' nn' g cp, jnw.JnAt (fun q => (S q ∧ q ≠ p ∧ q ≠ pb) ∨ w'.heap.size ≤ q) w1 pj v' op m' nn' (jnw.addC C op ls) (L ++ [⟨kind, g, nl, cp, op, ls⟩])) ∧ Only (fun q => S q ∧ q ≠ p ∧ q ≠ pb) w' w1) := hid (fun w' ho => (HPO0.out w' ho).mono (fun e w1 hp => by
        rcases hp with ⟨hne, _⟩ | ⟨_, _, h1, h2, h3⟩
        · exact absurd HER.out hne
        · exact ⟨h1, h2, h3⟩))
      clear HPO0 he; (go_upto_region 2 with fail); (try rw [hnl]); simp only [← hw2, ← hq]; clear hw2 hq hnl; (go_upto_region 4 with fail); refine wp_region_noPanic ?_; refine late.region (fun w' => w'.cell? ⟨p, 1, none⟩ = some (.pointer (some ⟨pj, 0, none⟩)) ∧ w'.cell? ⟨q, 0, none⟩ = some (.int .i64 kind) ∧ w'.cell? ⟨q, 1, none⟩ = some (.slice (some ⟨b, 0, none⟩) nl cp)) (fun j => [].contains j) (by kernel_rfl) (HSL.out _ (Only.refl _ _).drew) (fun hHeld => ?_); obtain ⟨z0, hz0'⟩ : ∃ x, x = w2.drew := ⟨_, rfl⟩; rw [← hz0'] at hHeld ⊢; have hot : Hid (Only (fun _ => False) w2 z0) := hid (by rw [hz0']; exact (Only.refl _ _).drew); clear hz0'; refine sho.lt 0 [1, 2, 3, 5, 6, 7, 8, 9] ?_; refine sho.lt 1 [2, 3, 5, 6, 7, 8, 9] ?_; refine sho.lt 2 [3, 5, 6, 7, 8, 9] ?_; refine sho.lt 3 [5, 6, 7, 8, 9] ?_; refine sho.lt 4 [5, 6, 7, 8, 9] ?_; refine late.ready (rs := [5]) (by kernel_rfl) (by simp) ?_; refine late.Each.cons rfl (fun K hK => ?_) late.Each.nil; (try simp only [getElem_toArray, getElem_cons_zero, getElem_cons_succ]); (go_simp); (go_at_call 31); (with_reducible refine (HPO.out _ hot.out).mono ?_); rintro _ z1 ⟨rfl, ⟨v', m', nn', g', cp', hj'⟩, ho⟩; have HEND : Hid (PoR S w p pb pj A op C L kind m gr path (.returned (.int .i64 0)) z1) := hid (.inr ⟨rfl, ls, _, ⟨HMK.out, HPM.out, HSO.out, HCH.out, HER.out⟩, rfl, rfl, rfl, (HPU.out.jour ⟨v', m', nn', hj'.mono (fun k hk hs => hs.imp (fun x => x) (fun s => by have h1 := hot.out.size; have h2 := HO2.out.size; omega))⟩ (((HO2.out.trans hot.out).mono (fun _ _ f => f.elim)).trans ho)), ((HO2.out.trans hot.out).mono (fun _ _ f => f.elim)).trans ho⟩); have HSZ : Hid (z1.cell? ⟨p, 1, none⟩ = some (.pointer (some ⟨pj, 0, none⟩)) ∧ z1.cell? ⟨q, 0, none⟩ = some (.int .i64 kind) ∧ z1.cell? ⟨q, 1, none⟩ = some (.slice (some ⟨b, 0, none⟩) nl cp)) := hid (by
        obtain ⟨k1, k2, k3⟩ := HSL.out _ hot.out; have hqn : ¬ (S q ∧ q ≠ p ∧ q ≠ pb) := fun s => (by have h1 := HSS.out _ s.1; have h2 := HQW.out; omega); exact ⟨ho.cell' k1 (fun s => s.2.1 rfl), ho.cell' k2 hqn, ho.cell' k3 hqn⟩)
      clear hj' hot ho HPO; (try dsimp only); refine hK.out _ _ (fun _ => HSZ.out) (fun hHeld1 => ?_); replace hHeld1 := hHeld1 rfl; clear hK K; (try simp only [getElem_toArray, getElem_cons_zero, getElem_cons_succ, Act.put, setIfInBounds_toArray, set_cons_zero, set_cons_succ]); refine sho.lt 6 [7, 8, 9] ?_; refine sho.lt 7 [9] ?_; refine sho.lt 8 [9] ?_; refine sho.lt 9 [] ?_; refine late.done (by kernel_rfl) ?_ _; refine NoPanic.normal ?_; clear hHeld; (go_wp2_with fail); go_ret
      exact HEND.out
    · obtain ⟨er, her⟩ : ∃ x, x = jnw.pErr C kind ls := ⟨_, rfl⟩; have HER := hid her; have HNE : Hid (er ≠ 0) := hid (by rw [her]; exact he); have HPO : Hid (∀ w', Only (fun _ => False) w2 w' → Calls Tryz.prog 31 #[.pointer (some ⟨pj, 0, none⟩), .agg #[.int .i64 kind, .slice (some ⟨b, 0, none⟩) nl cp]] w' fun e w1 => e = .returned (.tuple #[.int .i64 0, .int .i64 er]) ∧ Only (fun _ => False) w' w1) := hid (fun w' ho => (HPO0.out w' ho).mono (fun e w1 hp => by
        rcases hp with ⟨_, h1, h2⟩ | ⟨h0, _⟩
        · rw [← HER.out] at h1; exact ⟨h1, h2⟩
        · exact absurd (HER.out.trans h0) HNE.out))
      clear HPO0 he her; (go_upto_region 2 with fail); (try rw [hnl]); simp only [← hw2, ← hq]; clear hw2 hq hnl; (go_upto_region 4 with fail); refine wp_region_noPanic ?_; refine late.region (fun w' => w'.cell? ⟨p, 1, none⟩ = some (.pointer (some ⟨pj, 0, none⟩)) ∧ w'.cell? ⟨q, 0, none⟩ = some (.int .i64 kind) ∧ w'.cell? ⟨q, 1, none⟩ = some (.slice (some ⟨b, 0, none⟩) nl cp)) (fun j => [].contains j) (by kernel_rfl) (HSL.out _ (Only.refl _ _).drew) (fun hHeld => ?_); obtain ⟨z0, hz0'⟩ : ∃ x, x = w2.drew := ⟨_, rfl⟩; rw [← hz0'] at hHeld ⊢; have hot : Hid (Only (fun _ => False) w2 z0) := hid (by rw [hz0']; exact (Only.refl _ _).drew); clear hz0'; refine sho.lt 0 [1, 2, 3, 5, 6, 7, 8, 9] ?_; refine sho.lt 1 [2, 3, 5, 6, 7, 8, 9] ?_; refine sho.lt 2 [3, 5, 6, 7, 8, 9] ?_; refine sho.lt 3 [5, 6, 7, 8, 9] ?_; refine sho.lt 4 [5, 6, 7, 8, 9] ?_; refine late.ready (rs := [5]) (by kernel_rfl) (by simp) ?_; refine late.Each.cons rfl (fun K hK => ?_) late.Each.nil; (try simp only [getElem_toArray, getElem_cons_zero, getElem_cons_succ]); (go_simp); (go_at_call 31); (with_reducible refine (HPO.out _ hot.out).mono ?_); rintro _ z1 ⟨rfl, ho⟩; have HEND : Hid (PoR S w p pb pj A op C L kind m gr path (.returned (.int .i64 er)) z1) := hid (.inl ⟨_, HNE.out, rfl, HO2.out.trans (hot.out.trans ho), .inr ⟨HMK.out, ls, HPM.out, HSO.out, .inr ⟨HCH.out, HER.out⟩⟩⟩); replace hot := hid (hot.out.trans ho); clear ho HPO; (try dsimp only); refine hK.out _ _ (fun _ => HSL.out _ hot.out) (fun hHeld1 => ?_); replace hHeld1 := hHeld1 rfl; clear hK K; (try simp only [getElem_toArray, getElem_cons_zero, getElem_cons_succ, Act.put, setIfInBounds_toArray, set_cons_zero, set_cons_succ]); refine sho.lt 6 [7, 8, 9] ?_; refine sho.lt 7 [9] ?_; refine sho.lt 8 [9] ?_; refine sho.lt 9 [] ?_; refine late.done (by kernel_rfl) ?_ _; refine NoPanic.normal ?_; clear hHeld; (go_wp2_with fail); go_ret
      exact HEND.out
def AhAt (w : World) (g : Nat) (A : List fnd.Ac) (path : List Int) (k : Nat) : Prop := (∀ t, t < k → fnd.AcAt w g (t * 5) (fnd.acG A (path.getD t 0))) ∧ ∀ j, j < 15 → (∃ u, w.cell? ⟨g, j, none⟩ = some u) ∧ w.frozen? ⟨g, j, none⟩ = false
theorem AhAt.lt {w : World} {g : Nat} {A : List fnd.Ac} {path : List Int} {k : Nat} (h : AhAt w g A path k) : g < w.heap.size := by
  obtain ⟨⟨u, hu⟩, -⟩ := h.2 0 (by omega); exact World.block_lt_of_cell? w _ hu
theorem AhAt.only {S : Nat → Prop} {w w' : World} {g : Nat} {A : List fnd.Ac} {path : List Int} {k : Nat} (h : AhAt w g A path k) (ho : Only S w w') (hs : ¬ S g) : AhAt w' g A path k :=
  ⟨fun t ht => (h.1 t ht).only ho hs, fun j hj => by
    obtain ⟨⟨u, hu⟩, hf⟩ := h.2 j hj; exact ⟨⟨u, ho.cell' hu hs⟩, (ho.frozen (p := ⟨g, j, none⟩) h.lt hs).trans hf⟩⟩
theorem AhAt.new {cs : Array Value} (hc : cs.size = 15) (w : World) (t : TypeId) (A : List fnd.Ac) (path : List Int) : AhAt (w.alloc (.cells cs t)) w.heap.size A path 0 :=
  ⟨fun t ht => by omega, fun j hj => ⟨⟨cs[j]'(by omega), by
    rw [Go.Joins.cell_of_block (cs := cs) (t := t) (fr := (0, 0)) (by rw [heap_alloc, if_pos rfl])]; exact Array.getElem?_eq_getElem (by omega)⟩, tre.alloc_froz _ _ _ _ _ rfl⟩⟩
theorem AhAt.put {w : World} {g : Nat} {A : List fnd.Ac} {path : List Int} {k : Nat} (h : AhAt w g A path k) (hk : k < 3) {t c e u x : Int} (ha : fnd.acG A (path.getD k 0) = ⟨t, c, e, u, x⟩) : AhAt (tre.put5 w g (k * 5) (.int .i64 t) (.int .i64 c) (.int .i64 e) (.int .i64 u) (.int .i64 x)) g A path (k + 1) := by
  obtain ⟨⟨u0, h0⟩, f0⟩ := h.2 (k * 5) (by omega); obtain ⟨⟨u1, h1⟩, f1⟩ := h.2 (k * 5 + 1) (by omega); obtain ⟨⟨u2, h2⟩, f2⟩ := h.2 (k * 5 + 2) (by omega); obtain ⟨⟨u3, h3⟩, f3⟩ := h.2 (k * 5 + 3) (by omega); obtain ⟨⟨u4, h4⟩, f4⟩ := h.2 (k * 5 + 4) (by omega); have hc := tre.put5_cells (.int .i64 t) (.int .i64 c) (.int .i64 e) (.int .i64 u) (.int .i64 x) (b := g) (o := k * 5) h0 h1 h2 h3 h4; refine ⟨fun s hs => ?_, fun j hj => ⟨?_, by rw [tre.put5_froz]; exact (h.2 j hj).2⟩⟩
  · by_cases e2 : s = k
    · rw [e2, ha]; exact hc
    · obtain ⟨a0, a1, a2, a3, a4⟩ := h.1 s (by omega); exact ⟨by rw [tre.put5_far _ _ _ _ _ _ _ _ _ (by omega)]; exact a0, by rw [tre.put5_far _ _ _ _ _ _ _ _ _ (by omega)]; exact a1, by rw [tre.put5_far _ _ _ _ _ _ _ _ _ (by omega)]; exact a2, by rw [tre.put5_far _ _ _ _ _ _ _ _ _ (by omega)]; exact a3, by rw [tre.put5_far _ _ _ _ _ _ _ _ _ (by omega)]; exact a4⟩
  · by_cases e2 : j < k * 5 ∨ k * 5 + 5 ≤ j
    · rw [tre.put5_far _ _ _ _ _ _ _ _ _ e2]; exact (h.2 j hj).1
    · have e3 : j = k * 5 ∨ j = k * 5 + 1 ∨ j = k * 5 + 2 ∨ j = k * 5 + 3 ∨ j = k * 5 + 4 := (by omega); obtain ⟨c0, c1, c2, c3, c4⟩ := hc; rcases e3 with rfl | rfl | rfl | rfl | rfl
      · exact ⟨_, c0⟩
      · exact ⟨_, c1⟩
      · exact ⟨_, c2⟩
      · exact ⟨_, c3⟩
      · exact ⟨_, c4⟩
def resT (A B : List fnd.Ac) (l : List Int) : List fnd.Ac := l.foldl (fun B n => B.set n.toNat (A.getD n.toNat fnd.zA)) B
theorem resT_snoc (A B : List fnd.Ac) (l : List Int) (n : Int) : resT A B (l ++ [n]) = (resT A B l).set n.toNat (A.getD n.toNat fnd.zA) := by unfold resT; rw [List.foldl_append]; rfl
theorem resT_len (A : List fnd.Ac) : ∀ (l : List Int) (B : List fnd.Ac), (resT A B l).length = B.length
  | [], B => rfl
  | n :: r, B => by
    show (resT A (B.set n.toNat (A.getD n.toNat fnd.zA)) r).length = _; rw [resT_len A r, List.length_set]
theorem resT_get (A : List fnd.Ac) (k : Nat) : ∀ (l : List Int) (B : List fnd.Ac), B.length = 33 → (∀ n ∈ l, n.toNat < 33) → ((∃ n ∈ l, n.toNat = k) → (resT A B l).getD k fnd.zA = A.getD k fnd.zA) ∧ ((∀ n ∈ l, n.toNat ≠ k) → (resT A B l).getD k fnd.zA = B.getD k fnd.zA)
  | [], B, _, _ => ⟨fun ⟨n, hn, _⟩ => (by cases hn), fun _ => rfl⟩
  | n :: r, B, hB, hl => by
    have ih := resT_get A k r (B.set n.toNat (A.getD n.toNat fnd.zA)) (by rw [List.length_set]; exact hB) (fun x hx => hl x (by simp [hx])); have hn := hl n (by simp); refine ⟨fun ⟨x, hx, he⟩ => ?_, fun h => ?_⟩
    · by_cases e : ∃ y ∈ r, y.toNat = k
      · exact ih.1 e
      · have h2 := ih.2 (fun y hy e2 => e ⟨y, hy, e2⟩); have hxn : x = n := by
          rcases List.mem_cons.1 hx with e2 | e2
          · exact e2
          · exact absurd ⟨x, e2, he⟩ e
        subst hxn; show (resT A (B.set x.toNat (A.getD x.toNat fnd.zA)) r).getD k fnd.zA = _; rw [h2, fnd.getA_set _ _ _ _ (by omega), if_pos he.symm, he]
    · have h2 := ih.2 (fun y hy => h y (by simp [hy])); show (resT A (B.set n.toNat (A.getD n.toNat fnd.zA)) r).getD k fnd.zA = _; rw [h2, fnd.getA_set _ _ _ _ (by omega), if_neg (fun e => h n (by simp) e.symm)]
theorem getA_ext {A B : List fnd.Ac} (hl : A.length = B.length) (h : ∀ k, A.getD k fnd.zA = B.getD k fnd.zA) : A = B := by
  apply List.ext_getElem hl; intro k h1 h2; have := h k; rw [List.getD_eq_getElem?_getD, List.getD_eq_getElem?_getD, List.getElem?_eq_getElem h1, List.getElem?_eq_getElem h2] at this; exact this
structure ChOk (path : List Int) (A A' : List fnd.Ac) : Prop where
  n3 : path.length ≤ 3
  nd : ∀ n ∈ path, fnd.NodeOk n
  far : ∀ k, (∀ n ∈ path, n.toNat ≠ k) → A'.getD k fnd.zA = A.getD k fnd.zA
theorem ChOk.back {path : List Int} {A A' : List fnd.Ac} (h : ChOk path A A') (hA : A.length = 33) (hA' : A'.length = 33) : resT A A' path = A := by
  have hl : ∀ n ∈ path, n.toNat < 33 := fun n hn => (by obtain ⟨h1, h2⟩ := h.nd n hn; omega); refine getA_ext (by rw [resT_len, hA, hA']) (fun k => ?_); have hg := resT_get A k path A' hA' hl; by_cases e : ∃ n ∈ path, n.toNat = k
  · exact hg.1 e
  · rw [hg.2 (fun n hn e2 => e ⟨n, hn, e2⟩)]; exact h.far k (fun n hn e2 => e ⟨n, hn, e2⟩)
def MvR (S : Nat → Prop) (w : World) (p pb pj : Nat) (A : List fnd.Ac) (op : Nat) (C : AcC → Option (List Int)) (L : List jnw.Ps) (kind m gr : Int) (path : List Int) (A' : List fnd.Ac) (E : Int) (e : Ending) (w' : World) : Prop :=
  (∃ er : Int, er ≠ 0 ∧ e = .returned (.int .i64 er) ∧ Pu S w' p pb pj A op C L ∧ Only S w w' ∧ (er = E ∨ (E = 0 ∧ PoNo C kind m gr path er))) ∨
  (E = 0 ∧ e = .returned (.int .i64 0) ∧ ∃ (ls : List entm.Lg) (x : jnw.Ps), PoYes C kind m gr path ls ∧ x.ls = ls ∧ x.kd = kind ∧ x.per = op ∧ Pu (fun q => S q ∨ w.heap.size ≤ q) w' p pb pj A' op (jnw.addC C op ls) (L ++ [x]) ∧ Only S w w')
end Go.Proofs.YtkbaafgaaiekpaaGreat.puw
