/- Several texts together: PdA. -/
import Derived.Test.YtkbaafgaaiekpaaGreatPeriodActsZ1
import Derived.Test.YtkbaafgaaiekpaaGreatPeriodActsZ14
import Derived.Test.YtkbaafgaaiekpaaGreatPeriodActsZ30
import Derived.Test.YtkbaafgaaiekpaaGreatPeriodActsZ31
import Derived.Test.YtkbaafgaaiekpaaGreatPeriodActsZ32
namespace Go.Proofs.YtkbaafgaaiekpaaGreat.pdw
open Go.RowKit mem entm puw
set_option linter.unusedVariables false

def tl (vL vW : Value) (op : Nat) : dbk.Tl := ⟨vL, vW, .int .i64 (op : Int)⟩
section
variable {S : Nat → Prop} {w w' : World} {q : Nat} {vL vW : Value} {op : Nat} {D : List jnw.Es} {A A' : List fnd.Ac}
theorem toJ (h : dkw.DkAt A S w q vL vW op D) : dbk.BkJ (tl vL vW op) w q A :=
  ⟨h.bk.1, fun j hj => by
    by_cases e : j < 165
    · exact h.bk.2 j e
    · have e2 : j = 165 ∨ j = 166 ∨ j = 167 := by omega
      rcases e2 with rfl | rfl | rfl
      · exact h.f0
      · exact h.f1
      · exact h.f2, h.c0, h.c1, h.c2⟩
theorem ofJ (h : dkw.DkAt A S w q vL vW op D) (hb : dbk.BkJ (tl vL vW op) w' q A') (ho : Only (fun k => k = q) w w') : dkw.DkAt A' S w' q vL vW op D :=
  ⟨hb.2.2.1, hb.2.2.2.1, hb.2.2.2.2, hb.fz _ (by omega), hb.fz _ (by omega), hb.fz _ (by omega), h.le, owns_only ho h.oL (fun k e f => (h.sL k e).2 f), owns_only ho h.oW (fun k e f => (h.sW k e).2.1 f), h.sp, h.sL, h.sW, fun x hx => ⟨(h.ls x hx).1.only ho (fun y e f => ((h.ls x hx).2.2.2 y e).2.1 f), (h.ls x hx).2⟩, h.len, hb.bk⟩
theorem cells_only {S : Nat → Prop} {b : Nat} (h : S b) : ∀ (vs : List Value) (o : Nat) (w : World), Only S w (w.setCells b o vs)
  | [], o, w => by rw [World.setCells]; exact Only.refl _ _
  | v :: r, o, w => by rw [World.setCells]; exact (Only.set S w b o v h).trans (cells_only h r (o + 1) _)
theorem BkJ_there {T : dbk.Tl} (h : dbk.BkJ T w q A) (hl : A.length = 33) : w.there q 0 165 := fun j hj => by
  refine ⟨?_, by rw [Nat.zero_add]; exact h.fz j (by omega)⟩
  have hr := (fnd.BkAt.range hl h.bk) j
  have hj2 : j < (fnd.av A).length := by rw [fnd.av_length, hl]; omega
  rw [hr _ (List.getElem?_eq_getElem hj2)]
  rfl
theorem BkJ_put {T : dbk.Tl} (h : dbk.BkJ T w q A) (hl : A.length = 33) (hl' : A'.length = 33) : dbk.BkJ T (w.setCells q 0 (fnd.av A')) q A' := by
  have hlen : (fnd.av A').length = 165 := by rw [fnd.av_length, hl']
  have hth : w.there q 0 (fnd.av A').length := by rw [hlen]; exact BkJ_there h hl
  have hr := World.rangeAt_setCells_same w q 0 (fnd.av A') hth
  have far : ∀ j, 165 ≤ j → (w.setCells q 0 (fnd.av A')).cell? ⟨q, j, none⟩ = w.cell? ⟨q, j, none⟩ := fun j hj => by
    rw [World.cell?_setCells_out q (fnd.av A') 0 w ⟨q, j, none⟩ (fun _ _ => .inr (by rw [hlen]; show 0 + 165 ≤ j; omega))]
  refine ⟨fun k hk => fnd.AcAt.iff.2 fun c hc => ?_, fun j hj => by rw [World.frozen?_setCells]; exact h.fz j hj, by rw [far 165 (by omega)]; exact h.2.2.1, by rw [far 166 (by omega)]; exact h.2.2.2.1, by rw [far 167 (by omega)]; exact h.2.2.2.2⟩
  have e := fnd.av_get A' k c (by rw [hl']; exact hk) hc
  have hj2 : k * 5 + c < (fnd.av A').length := by rw [hlen]; omega
  have := hr (k * 5 + c) _ (List.getElem?_eq_getElem hj2)
  rw [Nat.zero_add] at this
  rw [this, ← e, List.getElem?_eq_getElem hj2]
theorem put_book (h : dkw.DkAt A S w q vL vW op D) (hl : A.length = 33) (hl' : A'.length = 33) : dkw.DkAt A' S (w.setCells q 0 (fnd.av A')) q vL vW op D :=
  ofJ h (BkJ_put (toJ h) hl hl') (cells_only (S := fun k => k = q) rfl _ _ _)
end
theorem av_one (l : List fnd.Ac) : ∀ u ∈ fnd.av l, u.oneCell' = true := by
  intro u hu
  simp only [fnd.av, List.mem_flatMap] at hu
  obtain ⟨x, _, hx⟩ := hu
  simp [fnd.encA] at hx
  rcases hx with rfl | rfl | rfl | rfl | rfl <;> rfl
theorem info_rbook : (Tryz.prog.info? 44).map (·.size) = some 165 := by kernel_rfl
def RNo (D : List jnw.Es) (kind m gr : Int) (path : List Int) (er : Int) : Prop := er = entw.mkNo kind m path ∨ (entw.mkNo kind m path = 0 ∧ ∃ ls : List Lg, ls.Perm (rawL kind m gr path) ∧ entw.Sorted ls ∧ ((chk kind ls ≠ 0 ∧ er = chk kind ls) ∨ (chk kind ls = 0 ∧ er = jnw.dErr D kind ls)))
def RYes (D : List jnw.Es) (kind m gr : Int) (path : List Int) (ls : List Lg) : Prop := entw.mkNo kind m path = 0 ∧ ls.Perm (rawL kind m gr path) ∧ entw.Sorted ls ∧ chk kind ls = 0 ∧ jnw.dErr D kind ls = 0
def RMv (S : Nat → Prop) (w : World) (q : Nat) (A0 A : List fnd.Ac) (op : Nat) (D : List jnw.Es) (kind m gr : Int) (path : List Int) (E : Int) (e : Ending) (w' : World) : Prop :=
  (∃ er : Int, er ≠ 0 ∧ e = .returned (.int .i64 er) ∧ (∃ vL vW, dkw.DkAt A0 S w' q vL vW op D) ∧ Only S w w' ∧ (er = E ∨ (E = 0 ∧ RNo D kind m gr path er))) ∨
  (E = 0 ∧ e = .returned (.int .i64 0) ∧ ∃ (ls : List Lg) (x : jnw.Es), RYes D kind m gr path ls ∧ x.ls = ls ∧ x.kd = kind ∧ x.per = op ∧ (∃ vL vW, dkw.DkAt A (fun k => S k ∨ w.heap.size ≤ k) w' q vL vW op (D ++ [x])) ∧ Only S w w')
def RMk (D : List jnw.Es) (kind m gr : Int) (path : List Int) (w : World) (e : Ending) (w' : World) : Prop := Only (fun _ => False) w w' ∧
  ((∃ er : Int, er ≠ 0 ∧ e = .returned (.tuple #[.agg #[.int .i64 0, .slice none 0 0], .int .i64 er]) ∧ RNo D kind m gr path er) ∨
   (∃ a cp ls, entw.mkNo kind m path = 0 ∧ ls.Perm (rawL kind m gr path) ∧ entw.Sorted ls ∧ chk kind ls = 0 ∧ (∀ y, a = some y → w.heap.size ≤ y.block) ∧ entw.ReadsL w' a ls.length ls ∧ e = .returned (.tuple #[.agg #[.int .i64 kind, .slice a ls.length cp], .int .i64 0])))
theorem rmk_any (D : List jnw.Es) (kind m gr : Int) (hg : entw.InI gr) (a : Option Addr) (len cap : Nat) (path : List Int) (w : World) (h : ReadsI w a len path) :
    Calls Tryz.prog 28 #[.int .i64 kind, .int .i64 m, .slice a len cap, .int .i64 gr] w (RMk D kind m gr path w) := by
  refine (entw.rmakef_any kind m gr hg a len cap path w h).mono ?_
  rintro e w' (⟨h1, rfl, ho⟩ | ⟨h1, a2, cp, ls, h2, h3, ho, ⟨h4, h5⟩, ⟨h6, rfl⟩ | ⟨h6, rfl⟩⟩)
  · exact ⟨ho, .inl ⟨_, h1, rfl, .inl rfl⟩⟩
  · exact ⟨ho, .inr ⟨a2, cp, ls, h1, h2, h3, h6, h5, h4, rfl⟩⟩
  · exact ⟨ho, .inl ⟨_, h6, rfl, .inr ⟨h1, ls, h2, h3, .inl ⟨h6, rfl⟩⟩⟩⟩
set_option maxRecDepth 100000 in
set_option maxHeartbeats 8000000 in
theorem post_any {S : Nat → Prop} {q op : Nat} {vL vW : Value} {A A0 : List fnd.Ac} {D : List jnw.Es} (E kind m gr : Int) (hg : entw.InI gr) (a : Option Addr) (len cap : Nat) (path : List Int) (w : World) (h : dkw.DkAt A S w q vL vW op D) (hl : A.length = 33) (hl0 : A0.length = 33) (hn : D.length < 16384) (hS : ∀ k, S k → k < w.heap.size) (hr : ReadsI w a len path) :
    Calls Tryz.prog 81 #[.pointer (some ⟨q, 0, none⟩), .agg (fnd.av A0).toArray, .int .i64 E, .int .i64 kind, .int .i64 m, .slice a len cap, .int .i64 gr] w (RMv S w q A0 A op D kind m gr path E) := by
  obtain ⟨w1, hw1⟩ : ∃ x, x = w.alloc (.cells (fnd.av A0).toArray 44) := ⟨_, rfl⟩
  obtain ⟨g, hg1⟩ : ∃ x, x = w.heap.size := ⟨_, rfl⟩
  have ho1 : Only (fun _ => False) w w1 := by rw [hw1]; exact (Only.refl _ w).alloc _
  have HO1 := Lib.hid ho1
  have HRG : Hid (∀ w' (T : Nat → Prop), Only T w1 w' → ¬ T g → w'.rangeAt g 0 (fnd.av A0)) := Lib.hid (fun w' T ho hT j v hv => by
    refine ho.cell' ?_ hT
    rw [hw1, Nat.zero_add, Go.Joins.cell_of_block (cs := (fnd.av A0).toArray) (t := 44) (fr := (0, 0)) (by rw [heap_alloc, if_pos hg1])]
    simpa using hv)
  have HGQ : Hid (g ≠ q ∧ ¬ S g ∧ w.heap.size ≤ g) := Lib.hid ⟨by have := h.lt; omega, fun e => by have := hS _ e; omega, by omega⟩
  have HD := Lib.hid h
  have HL := Lib.hid hl
  have HL0 := Lib.hid hl0
  have HSB : Hid (∀ w' vL vW, dkw.DkAt A S w' q vL vW op D → dkw.DkAt A0 S (w'.setCells q 0 (fnd.av A0)) q vL vW op D ∧ w'.there q 0 165 ∧ Only (fun k => k = q) w' (w'.setCells q 0 (fnd.av A0))) := Lib.hid (fun w' vL vW hd => ⟨put_book hd hl hl0, BkJ_there (toJ hd) hl, cells_only (S := fun k => k = q) rfl _ _ _⟩)
  have HSQ : Hid (S q) := Lib.hid h.sp
  have HSH := Lib.hid hS
  have HNN := Lib.hid hn
  have HMK := Lib.hid (fun w' (ho : Only (fun _ => False) w w') => rmk_any D kind m gr hg a len cap path w' (hr.only ho (fun _ _ f => f)))
  clear h hl hl0 hr hg hS hn
  by_cases hE : E = 0
  · subst hE
    obtain ⟨w2, hw2⟩ : ∃ x, x = w1.alloc (.cells #[.int .i64 0, .slice none 0 0] 75) := ⟨_, rfl⟩
    obtain ⟨g2, hg2⟩ : ∃ x, x = w1.heap.size := ⟨_, rfl⟩
    have ho2 : Only (fun _ => False) w1 w2 := by rw [hw2]; exact (Only.refl _ w1).alloc _
    have HO2 := Lib.hid (ho1.trans ho2)
    have HO12 := Lib.hid ho2
    have HB2 := Lib.hid (jnw.Box2.new w1 (.int .i64 0) (.slice none 0 0) 75)
    rw [← hw2, ← hg2] at HB2
    have HG2 : Hid (w.heap.size ≤ g2 ∧ g2 ≠ g ∧ g2 ≠ q ∧ ¬ S g2) := Lib.hid (by
      have e1 := ho1.size
      have e2 : g < w1.heap.size := by rw [hw1, hg1]; simp
      have e3 := HD.out.lt
      exact ⟨by omega, by omega, by omega, fun e => by have := HSH.out _ e; omega⟩)
    clear ho1 ho2
    go_enter Tryz.func81, Tryz.ntmps81
    go_upto_region 1 with fail
    simp only [← hw1, ← hg1]
    clear hw1 hg1
    go_upto_region 3 with fail
    simp only [← hw2, ← hg2]
    clear hw2 hg2
    go_wp2_with fail
    refine (HMK.out _ HO2.out).mono ?_
    rintro _ w3 ⟨ho3, ⟨er, hne, rfl, hno⟩ | ⟨a3, c3, ls, hmz, hpm, hst, hck, ha3, hrl, rfl⟩⟩
    · have hE1 : (er == 0) = false := by simpa using hne
      have hE2 : (er != 0) = true := by simpa using hne
      have HNE := Lib.hid hne
      have HNO := Lib.hid hno
      obtain ⟨b0, b1, f0, f1⟩ := (HB2.out.only ho3 (fun f => f)).cells
      have HO3 := Lib.hid ho3
      clear hne hno ho3
      go_upto_region 4 with fail
      obtain ⟨w4, hw4⟩ : ∃ x, x = (w3.setCell ⟨g2, 0, none⟩ (.int .i64 0)).setCell ⟨g2, 1, none⟩ (.slice none 0 0) := ⟨_, rfl⟩
      simp only [← hw4]
      have ho4 : Only (fun k => k = g2) w3 w4 := by rw [hw4]; exact jnw.set2_only _ _ _ _
      have HDX := Lib.hid ((HD.out.quiet (HO2.out.trans HO3.out)).only ho4 (fun k hk e => HG2.out.2.2.2 (by have e : k = g2 := e; rw [← e]; exact hk)))
      have HOX : Hid (Only S w w4) := Lib.hid ((Only.refl S w).then ((((HO2.out.trans HO3.out)).mono (fun _ _ f => f.elim : ∀ k, k < w.heap.size → False → k = g2)).trans ho4) (fun k hk e => by have e : k = g2 := e; have := HG2.out.1; omega))
      have HSX := Lib.hid (HSB.out _ _ _ HDX.out)
      have HRX := Lib.hid (HRG.out w4 _ (((HO12.out.trans HO3.out).mono (fun _ _ f => f.elim : ∀ k, k < w1.heap.size → False → k = g2)).trans ho4) (fun e => HG2.out.2.1 e.symm))
      clear hw4 ho4 b0 b1 f0 f1 HO3
      go_upto_region 7 with fail
      go_wp2_with (first | (refine wpList_load_mid rfl 44 (Operand.tmp 8) rfl g 0 rfl (fnd.av A0) _ HRX.out Tryz.underlying44 rfl (by rw [info_rbook, fnd.av_length, HL0.out]) ?_) | (refine wpList_store_mid rfl 44 (Operand.tmp 41) (Operand.tmp 39) rfl q 0 (fnd.av A0).toArray rfl rfl (by rw [List.size_toArray, fnd.av_length, HL0.out]; exact HSX.out.2.1) (by rw [info_rbook, List.size_toArray, fnd.av_length, HL0.out]) (all_oneCell_toArray (av_one A0)) ?_))
      try rw [List.toList_toArray]
      have HW5 := Lib.hid HSX.out
      generalize World.setCells w4 q 0 (fnd.av A0) = w5 at *
      have HEND : Hid (RMv S w q A0 A op D kind m gr path 0 (.returned (.int .i64 er)) w5) := Lib.hid (.inl ⟨_, HNE.out, rfl, ⟨_, _, HW5.out.1⟩, HOX.out.trans (HW5.out.2.2.mono (fun k _ e => by have e : k = q := e; rw [e]; exact HSQ.out)), .inr ⟨rfl, HNO.out⟩⟩)
      clear HDX HOX HSX HRX HW5
      go_wp2_with fail
      go_ret
      exact HEND.out
    · obtain ⟨b0, b1, f0, f1⟩ := (HB2.out.only ho3 (fun f => f)).cells
      have HO3 := Lib.hid ho3
      have hB4 := (HB2.out.only ho3 (fun f => f)).set2 (.int .i64 kind) (.slice a3 ls.length c3)
      have HY := Lib.hid (show entw.mkNo kind m path = 0 ∧ ls.Perm (rawL kind m gr path) ∧ entw.Sorted ls ∧ chk kind ls = 0 from ⟨hmz, hpm, hst, hck⟩)
      have HA3 := Lib.hid ha3
      have HRL := Lib.hid hrl
      clear ho3 hmz hpm hst hck ha3 hrl
      go_upto_region 4 with fail
      obtain ⟨w4, hw4⟩ : ∃ x, x = (w3.setCell ⟨g2, 0, none⟩ (.int .i64 kind)).setCell ⟨g2, 1, none⟩ (.slice a3 ls.length c3) := ⟨_, rfl⟩
      simp only [← hw4]
      have ho4 : Only (fun k => k = g2) w3 w4 := by rw [hw4]; exact jnw.set2_only _ _ _ _
      rw [← hw4] at hB4
      have HB4 := Lib.hid hB4
      have HO4 := Lib.hid ho4
      have hw24 : w2.heap.size ≤ w4.heap.size := by have := HO3.out.size; have := ho4.size; omega
      have HW24 := Lib.hid hw24
      -- the legs' block is apart from all others
      have HRL4 : Hid (entw.ReadsL w4 a3 ls.length ls) := Lib.hid (HRL.out.only ho4 (fun y hy e => by
        have h1 := HA3.out y hy
        have e : y.block = g2 := e
        have h2 := HB2.out.lt
        omega))
      have HDX := Lib.hid (((HD.out.quiet (HO2.out.trans HO3.out)).only ho4 (fun k hk e => HG2.out.2.2.2 (by have e : k = g2 := e; rw [← e]; exact hk))).monoS (T := fun k => S k ∨ (w2.heap.size ≤ k ∧ k ≠ g2)) (fun k _ s => .inl s))
      have HOX : Hid (Only S w w4) := Lib.hid ((Only.refl S w).then ((((HO2.out.trans HO3.out)).mono (fun _ _ f => f.elim : ∀ k, k < w.heap.size → False → k = g2)).trans ho4) (fun k hk e => by have e : k = g2 := e; have := HG2.out.1; omega))
      have HRX := Lib.hid (fun w' T (ho : Only T w4 w') (h1 : ¬ T g) => HRG.out w' (fun k => k = g2 ∨ (k < w4.heap.size ∧ T k)) ((((HO12.out.trans HO3.out).mono (fun _ _ f => f.elim : ∀ k, k < w1.heap.size → False → (k = g2 ∨ (k < w4.heap.size ∧ T k)))).trans (ho4.mono (fun k _ e => .inl e))).trans (ho.mono (fun k hk e => .inr ⟨hk, e⟩))) (fun e => e.elim (fun e => HG2.out.2.1 e.symm) (fun e => h1 e.2)))
      have HPO := Lib.hid (fun w' (ho : Only (fun _ => False) w4 w') => dkw.rpost_any q op vL vW D kind a3 ls.length c3 ls w' (HDX.out.quiet ho) (HRL4.out.only ho (fun _ _ f => f)) HNN.out (fun y hy => by
        have h1 := HA3.out y hy
        have h2 := HO2.out.size
        have h3 := HD.out.lt
        refine ⟨.inr ⟨h1, fun e => ?_⟩, by omega, fun e => ?_, fun e => ?_⟩
        · have := HB2.out.lt; omega
        · have := HSH.out _ (HD.out.sL _ e).1; omega
        · have := HSH.out _ (HD.out.sW _ e).1; omega))
      have HGS : Hid (¬ (g = q ∨ vL.ownBlock = some g ∨ vW.ownBlock = some g) ∧ ¬ (g2 = q ∨ vL.ownBlock = some g2 ∨ vW.ownBlock = some g2)) := Lib.hid ⟨fun e => HGQ.out.2.1 (by
        rcases e with e | e | e
        · rw [e]; exact HSQ.out
        · exact (HD.out.sL _ e).1
        · exact (HD.out.sW _ e).1), fun e => HG2.out.2.2.2 (by
        rcases e with e | e | e
        · rw [e]; exact HSQ.out
        · exact (HD.out.sL _ e).1
        · exact (HD.out.sW _ e).1)⟩
      -- what DocPost answers, as two numbers
      have HPS : Hid (∀ z0 e z1, Only (fun _ => False) w4 z0 → dkw.RPostAt A (fun k => S k ∨ (w2.heap.size ≤ k ∧ k ≠ g2)) q op vL vW D kind a3 ls.length c3 ls z0 e z1 → ∃ i1 e1 : Int, e = .returned (.tuple #[.int .i64 i1, .int .i64 e1]) ∧ Only (fun k => k = q ∨ vL.ownBlock = some k ∨ vW.ownBlock = some k) w4 z1 ∧
        ((e1 ≠ 0 ∧ e1 = jnw.dErr D kind ls ∧ Only (fun _ => False) w4 z1) ∨ (e1 = 0 ∧ jnw.dErr D kind ls = 0 ∧ ∃ vL' vW', dkw.DkAt A (fun k => (S k ∨ (w2.heap.size ≤ k ∧ k ≠ g2)) ∨ z0.heap.size ≤ k) z1 q vL' vW' op (D ++ [⟨kind, a3, ls.length, c3, op, ls⟩])))) := Lib.hid (fun z0 e z1 ho hp => by
        rcases hp with ⟨h1, rfl, h2⟩ | ⟨h1, h2, rfl, ⟨vL', vW', h3⟩, h4⟩
        · exact ⟨_, _, rfl, (ho.trans h2).mono (fun _ _ f => f.elim), .inl ⟨h1, rfl, ho.trans h2⟩⟩
        · exact ⟨_, _, rfl, (ho.mono (fun _ _ f => f.elim)).trans h4, .inr ⟨rfl, h1, vL', vW', h3⟩⟩)
      have HS5 : Hid (∀ w', Only (fun k => k = q ∨ vL.ownBlock = some k ∨ vW.ownBlock = some k) w4 w' → w'.cell? ⟨g2, 0, none⟩ = some (.int .i64 kind) ∧ w'.cell? ⟨g2, 1, none⟩ = some (.slice a3 ls.length c3)) := Lib.hid (fun w' ho => by
        obtain ⟨k0, k1, -⟩ := (HB4.out.only ho (HGS.out.2)).cells
        exact ⟨k0, k1⟩)
      clear hw4 ho4 b0 b1 f0 f1 hB4 hw24
      go_upto_region 5 with fail
      refine wp_region_noPanic ?_
      refine late.region (fun w' => w'.cell? ⟨g2, 0, none⟩ = some (.int .i64 kind) ∧ w'.cell? ⟨g2, 1, none⟩ = some (.slice a3 ls.length c3)) (fun j => [].contains j) (by kernel_rfl) (HS5.out _ ((Only.refl _ _).drew)) (fun hHeld => ?_)
      obtain ⟨z0, hz0⟩ : ∃ x, x = w4.drew := ⟨_, rfl⟩
      rw [← hz0] at hHeld ⊢
      have hot : Hid (Only (fun _ => False) w4 z0) := Lib.hid (by rw [hz0]; exact (Only.refl _ _).drew)
      clear hz0
      refine sho.lt 0 [1, 2, 4, 5, 6, 7, 8] ?_
      refine sho.lt 1 [2, 4, 5, 6, 7, 8] ?_
      refine sho.lt 2 [4, 5, 6, 7, 8] ?_
      refine sho.lt 3 [4, 5, 6, 7, 8] ?_
      refine late.ready (rs := [4]) (by kernel_rfl) (by simp) ?_
      refine late.Each.cons rfl (fun K hK => ?_) late.Each.nil
      try simp only [List.getElem_toArray, List.getElem_cons_zero, List.getElem_cons_succ]
      go_simp
      go_at_call 87
      with_reducible refine (HPO.out _ hot.out).mono ?_
      rintro _ z1 hpo
      obtain ⟨i1, e1, rfl, hz1, hpz⟩ := HPS.out _ _ _ hot.out hpo
      have hz1' := hz1
      have HZ0 : Hid (w4.heap.size ≤ z0.heap.size) := Lib.hid hot.out.size
      clear hpo
      try dsimp only
      refine hK.out _ _ (fun _ => HS5.out _ hz1') (fun hHeld1 => ?_)
      replace hHeld1 := hHeld1 rfl
      clear hK K
      try simp only [List.getElem_toArray, List.getElem_cons_zero, List.getElem_cons_succ, Act.put, List.setIfInBounds_toArray, List.set_cons_zero, List.set_cons_succ]
      refine sho.lt 5 [6, 7, 8] ?_
      refine sho.lt 6 [8] ?_
      refine sho.lt 7 [8] ?_
      refine sho.lt 8 [] ?_
      refine late.done (by kernel_rfl) ?_ _
      refine NoPanic.normal ?_
      clear hHeld HS5 HPO HPS HMK
      have hz := hpz
      rcases hz with ⟨hne, hde, hoz⟩ | ⟨rfl, hde, vL', vW', hdz⟩
      · have hE2 : (e1 != 0) = true := by simpa using hne
        have HNE := Lib.hid hne
        have HDE := Lib.hid hde
        have HOZ := Lib.hid hoz
        have hdx9 := (((HD.out.quiet (HO2.out.trans HO3.out)).only HO4.out (fun k hk e => HG2.out.2.2.2 (by have e : k = g2 := e; rw [← e]; exact hk))).quiet hoz)
        clear HDX
        have HDX := Lib.hid hdx9
        have HSX := Lib.hid (HSB.out _ _ _ HDX.out)
        have hrx9 := HRX.out _ _ hoz (fun f => f)
        clear HRX
        have HRX := Lib.hid hrx9
        have hox9 := HOX.out.trans (hoz.mono (fun _ _ f => f.elim : ∀ k, k < w4.heap.size → False → S k))
        clear HOX
        have HOX := Lib.hid hox9
        clear hne hde hoz hdx9 hrx9 hox9 hpz
        go_upto_region 7 with fail
        go_wp2_with (first | (refine wpList_load_mid rfl 44 (Operand.tmp 8) rfl g 0 rfl (fnd.av A0) _ HRX.out Tryz.underlying44 rfl (by rw [info_rbook, fnd.av_length, HL0.out]) ?_) | (refine wpList_store_mid rfl 44 (Operand.tmp 41) (Operand.tmp 39) rfl q 0 (fnd.av A0).toArray rfl rfl (by rw [List.size_toArray, fnd.av_length, HL0.out]; exact HSX.out.2.1) (by rw [info_rbook, List.size_toArray, fnd.av_length, HL0.out]) (all_oneCell_toArray (av_one A0)) ?_))
        try rw [List.toList_toArray]
        have HW5 := Lib.hid HSX.out
        generalize World.setCells z1 q 0 (fnd.av A0) = w5 at *
        have HEND : Hid (RMv S w q A0 A op D kind m gr path 0 (.returned (.int .i64 e1)) w5) := Lib.hid (.inl ⟨_, HNE.out, rfl, ⟨_, _, HW5.out.1⟩, HOX.out.trans (HW5.out.2.2.mono (fun k _ e => by have e : k = q := e; rw [e]; exact HSQ.out)), .inr ⟨rfl, .inr ⟨HY.out.1, ls, HY.out.2.1, HY.out.2.2.1, .inr ⟨HY.out.2.2.2, HDE.out⟩⟩⟩⟩)
        clear HDX HOX HSX HRX HW5
        go_wp2_with fail
        go_ret
        exact HEND.out
      · have HEND : Hid (RMv S w q A0 A op D kind m gr path 0 (.returned (.int .i64 0)) z1) := Lib.hid (.inr ⟨rfl, rfl, ls, _, ⟨HY.out.1, HY.out.2.1, HY.out.2.2.1, HY.out.2.2.2, hde⟩, rfl, rfl, rfl, ⟨vL', vW', hdz.monoS (fun k hk s => by
          have h2 := HO2.out.size
          have h4 := HOX.out.size
          have h5 := HZ0.out
          rcases s with (s | s) | s
          · exact .inl s
          · exact .inr (by omega)
          · exact .inr (by omega))⟩, HOX.out.trans (hz1'.mono (fun k hk e => by
            rcases e with e | e | e
            · rw [e]; exact HSQ.out
            · exact (HD.out.sL _ e).1
            · exact (HD.out.sW _ e).1))⟩)
        clear hde hdz hpz
        go_wp2_with fail
        go_ret
        exact HEND.out
  · have hE1 : (E == 0) = false := by simpa using hE
    have hE2 : (E != 0) = true := by simpa using hE
    have HNE := Lib.hid hE
    clear hE ho1
    go_enter Tryz.func81, Tryz.ntmps81
    go_upto_region 1 with fail
    simp only [← hw1, ← hg1]
    clear hw1 hg1
    go_upto_region 7 with fail
    have HDX := Lib.hid (HD.out.quiet HO1.out)
    have HOX : Hid (Only S w w1) := Lib.hid (HO1.out.mono (fun _ _ f => f.elim))
    have HSX := Lib.hid (HSB.out _ _ _ HDX.out)
    have HRX := Lib.hid (HRG.out w1 _ (Only.refl (fun _ => False) w1) (fun f => f))
    go_wp2_with (first | (refine wpList_load_mid rfl 44 (Operand.tmp 8) rfl g 0 rfl (fnd.av A0) _ HRX.out Tryz.underlying44 rfl (by rw [info_rbook, fnd.av_length, HL0.out]) ?_) | (refine wpList_store_mid rfl 44 (Operand.tmp 41) (Operand.tmp 39) rfl q 0 (fnd.av A0).toArray rfl rfl (by rw [List.size_toArray, fnd.av_length, HL0.out]; exact HSX.out.2.1) (by rw [info_rbook, List.size_toArray, fnd.av_length, HL0.out]) (all_oneCell_toArray (av_one A0)) ?_))
    try rw [List.toList_toArray]
    have HW5 := Lib.hid HSX.out
    generalize World.setCells w1 q 0 (fnd.av A0) = w5 at *
    have HEND : Hid (RMv S w q A0 A op D kind m gr path E (.returned (.int .i64 E)) w5) := Lib.hid (.inl ⟨_, HNE.out, rfl, ⟨_, _, HW5.out.1⟩, HOX.out.trans (HW5.out.2.2.mono (fun k _ e => by have e : k = q := e; rw [e]; exact HSQ.out)), .inl rfl⟩)
    clear HDX HOX HSX HRX HW5
    go_wp2_with fail
    go_ret
    exact HEND.out
theorem zeroB_size : Tryz.zeroCells44.size = 165 := by kernel_rfl
theorem zero_there (w : World) : (w.alloc (.cells Tryz.zeroCells44 44)).there w.heap.size 0 165 := fun j hj => by
  rw [Nat.zero_add]
  refine ⟨?_, tre.alloc_froz _ _ _ _ _ rfl⟩
  rw [Go.Joins.cell_of_block (cs := Tryz.zeroCells44) (t := 44) (fr := (0, 0)) (by rw [heap_alloc, if_pos rfl])]
  show (Tryz.zeroCells44[j]?).isSome = true
  rw [Array.getElem?_eq_getElem (by rw [zeroB_size]; exact hj)]
  rfl
section
variable {S : Nat → Prop} {w w2 w' : World} {q op : Nat} {A0 A : List fnd.Ac} {D : List jnw.Es} {kind m gr E : Int} {path : List Int} {e : Ending}
theorem RMv.only (h : RMv S w q A0 A op D kind m gr path E e w') : Only S w w' := by
  rcases h with ⟨_, _, _, _, h, _⟩ | ⟨_, _, _, _, _, _, _, _, _, h⟩
  · exact h
  · exact h
theorem RMv.val (h : RMv S w q A0 A op D kind m gr path E e w') : ∃ er : Int, e = .returned (.int .i64 er) := by
  rcases h with ⟨er, _, h, _⟩ | ⟨_, h, _⟩
  · exact ⟨er, h⟩
  · exact ⟨0, h⟩
theorem RMv.back (h : RMv S w2 q A0 A op D kind m gr path E e w') (ho : Only S w w2) : RMv S w q A0 A op D kind m gr path E e w' := by
  rcases h with ⟨er, h1, h2, h3, h4, h5⟩ | ⟨h1, h2, ls, x, h3, h4, h5, h6, ⟨vL, vW, h7⟩, h8⟩
  · exact .inl ⟨er, h1, h2, h3, ho.trans h4, h5⟩
  · exact .inr ⟨h1, h2, ls, x, h3, h4, h5, h6, ⟨vL, vW, h7.mono (fun k s => s.imp id (fun s => Nat.le_trans ho.size s))⟩, ho.trans h8⟩
end
set_option maxRecDepth 100000 in
set_option maxHeartbeats 8000000 in
theorem top_any {S : Nat → Prop} {q op : Nat} {vL vW : Value} {A : List fnd.Ac} {D : List jnw.Es} (k x : Int) (hk : entw.InI k) (w : World) (h : dkw.DkAt A S w q vL vW op D) (hA : fnd.Bok A) (hn : D.length < 16384) (hS : ∀ k, S k → k < w.heap.size)  :
    Calls Tryz.prog 52 #[.pointer (some ⟨q, 0, none⟩), .int .i64 k, .int .i64 x] w (RMv S w q A (fnd.topA A k x) op D 1 x 0 [k] (fnd.topE A k x)) := by
  have hl := hA.len
  have hl1 : (fnd.topA A k x).length = 33 := (hA.topA k x).len
  have hZT : (w.alloc (.cells Tryz.zeroCells44 44)).there w.heap.size 0 165 := zero_there w
  have HSZ : Hid ((fnd.av A).toArray.size = 165) := Lib.hid (by rw [List.size_toArray, fnd.av_length, hl])
  have HZT := Lib.hid hZT
  have HON := Lib.hid (all_oneCell_toArray (av_one A))
  have HRQ := Lib.hid (fnd.BkAt.range hl h.bk)
  have HW : Hid (∀ x, (w.alloc (.cells Tryz.zeroCells44 44)).setCells w.heap.size 0 (fnd.av A).toArray.toList = x → Only (fun _ => False) w x ∧ x.rangeAt w.heap.size 0 (fnd.av A)) := Lib.hid (fun x hx => by
    rw [List.toList_toArray] at hx
    rw [← hx]
    exact ⟨((Only.refl (fun _ => False) w).alloc _).then (cells_only (S := fun k => k = w.heap.size) rfl _ _ _) (fun k hk e => by have e : k = w.heap.size := e; omega), World.rangeAt_setCells_same _ _ _ _ (by rw [fnd.av_length, hl]; exact hZT)⟩)
  have HL := Lib.hid hl
  have HL1 := Lib.hid hl1
  have HD := Lib.hid h
  have HSH := Lib.hid hS
  have HNN := Lib.hid hn
  have HGW : Hid (¬ S w.heap.size ∧ w.heap.size ≠ q) := Lib.hid ⟨fun e => by have := hS _ e; omega, by have := h.lt; omega⟩
  have HBC : Hid (∀ w', Only (fun _ => False) w w' → Calls Tryz.prog 82 #[.pointer (some ⟨q, 0, none⟩), .int .i64 k, .int .i64 x] w' (dbk.JDid (tl vL vW op) q (fnd.topA A k x) (fnd.topE A k x) w')) := Lib.hid (fun w' ho => dbk.rtop_any _ q A k x w' (toJ (h.quiet ho)) hA)
  have HK := Lib.hid hk
  clear hl hl1 hZT h hS hn hA
  go_enter Tryz.func52, Tryz.ntmps52
  go_upto_region 2 with (first | (refine wpList_load_mid rfl 44 (Operand.tmp 10) rfl q 0 rfl (fnd.av A) _ HRQ.out Tryz.underlying44 rfl (by rw [info_rbook, fnd.av_length, HL.out]) ?_) | (refine wpList_store_mid rfl 44 (Operand.tmp 7) (Operand.tmp 11) rfl w.heap.size 0 (fnd.av A).toArray rfl rfl (by rw [HSZ.out]; exact HZT.out) (by rw [info_rbook, HSZ.out]) HON.out ?_))
  generalize hw1 : World.setCells _ _ _ _ = w1
  obtain ⟨ho1, hrg1⟩ := HW.out w1 hw1
  generalize hgg : w.heap.size = g at *
  have HO1 := Lib.hid ho1
  have HR1 := Lib.hid hrg1
  have HGE : Hid (w.heap.size = g) := Lib.hid hgg
  clear hw1 ho1 hrg1 hgg HW HZT HRQ
  refine wp_region_noPanic ?_
  refine wp_region_held_drew (S := (fun w' => w'.rangeAt g 0 (fnd.av A))) (by kernel_rfl) ((fun j v hv => ((Only.refl (fun _ => False) w1).drew).cell' (HR1.out j v hv) (fun f => f))) (fun hHeld => ?_)
  obtain ⟨z0, hz0⟩ : ∃ x, x = w1.drew := ⟨_, rfl⟩
  rw [← hz0] at hHeld ⊢
  have hot : Hid (Only (fun _ => False) w1 z0) := Lib.hid (by rw [hz0]; exact (Only.refl _ _).drew)
  clear hz0
  refine sho.tk 0 ?_
  refine wpAnyH_take (i := 1) (v := .agg (fnd.av A).toArray) rfl (by kernel_rfl) (by kernel_rfl) (by kernel_rfl) (fun _ _ _ h => h) (yieldsIf_load_mid (by rfl) 44 (Operand.tmp 7) rfl g 0 rfl (fnd.av A) _ (fun w' hS => hS) Tryz.underlying44 rfl (by rw [info_rbook, fnd.av_length, HL.out])) (by assumption) ?_
  try simp only [List.getElem_toArray, List.getElem_cons_zero, List.getElem_cons_succ, Act.put, List.setIfInBounds_toArray, List.set_cons_zero, List.set_cons_succ]
  refine sho.tk 2 ?_
  refine sho.tk 3 ?_
  refine sho.tk 4 ?_
  refine sho.tk 5 ?_
  refine sho.tk 6 ?_
  refine sho.tk 8 ?_
  refine sho.tk 9 ?_
  refine wpAnyH_ready (rs := [7, 10]) (by kernel_rfl) (by simp) ?_
  refine AllReadyH.cons rfl (fun K hK => ?_) (AllReadyH.cons rfl (fun K hK => ?_) AllReadyH.nil)
  · try simp only [List.getElem_toArray, List.getElem_cons_zero, List.getElem_cons_succ]
    go_simp
    go_at_call 82
    with_reducible refine (HBC.out _ (HO1.out.trans hot.out)).mono ?_
    rintro _ zb ⟨rfl, hb, ho⟩
    have HDT : Hid (dkw.DkAt (fnd.topA A k x) S zb q vL vW op D) := Lib.hid (ofJ (HD.out.quiet (HO1.out.trans hot.out)) hb ho)
    have hoq : Hid (Only (fun k => k = q) w1 zb) := Lib.hid ((hot.out.mono (fun _ _ f => f.elim)).trans ho)
    clear ho hb hot
    try dsimp only
    refine hK.out _ _ ((fun j v hv => hoq.out.cell' (HR1.out j v hv) HGW.out.2)) (fun hHeld1 => ?_)
    clear hK K
    try simp only [List.getElem_toArray, List.getElem_cons_zero, List.getElem_cons_succ, Act.put, List.setIfInBounds_toArray, List.set_cons_zero, List.set_cons_succ]
    refine wpAnyH_ready (rs := [10]) (by kernel_rfl) (by simp) ?_
    refine AllReadyH.cons rfl (fun K hK => ?_) AllReadyH.nil
    try simp only [List.getElem_toArray, List.getElem_cons_zero, List.getElem_cons_succ]
    go_simp
    obtain ⟨zx, hzx⟩ : ∃ x, x = zb := ⟨_, rfl⟩
    rw [← hzx] at hoq HDT ⊢
    clear hzx
    obtain ⟨zs, hzs⟩ : ∃ x, x = zx.alloc (.cells #[.int .i64 k] 3) := ⟨_, rfl⟩
    obtain ⟨gs, hgs⟩ : ∃ x, x = zx.heap.size := ⟨_, rfl⟩
    rw [← hzs, ← hgs]
    have hal : Only (fun _ => False) zx zs := by rw [hzs]; exact (Only.refl _ _).alloc _
    have HRS : Hid (ReadsI zs (some ⟨gs, 0, none⟩) 1 [k]) := Lib.hid (read1 zx _ k HK.out hzs hgs)
    replace HDT := Lib.hid (HDT.out.quiet hal)
    replace hoq := Lib.hid (hoq.out.trans (hal.mono (fun _ _ f => f.elim)))
    clear hal hzs hgs
    refine hK.out _ _ ((fun j v hv => hoq.out.cell' (HR1.out j v hv) HGW.out.2)) (fun hHeld2 => ?_)
    clear hK K
    try simp only [List.getElem_toArray, List.getElem_cons_zero, List.getElem_cons_succ, Act.put, List.setIfInBounds_toArray, List.set_cons_zero, List.set_cons_succ]
    refine wpAnyH_ready (rs := [11]) (by kernel_rfl) (by simp) ?_
    refine AllReadyH.cons rfl (fun K hK => ?_) AllReadyH.nil
    try simp only [List.getElem_toArray, List.getElem_cons_zero, List.getElem_cons_succ]
    go_simp
    go_at_call 81
    with_reducible refine (post_any (fnd.topE A k x) 1 x 0 (by unfold entw.InI; omega) (some ⟨gs, 0, none⟩) 1 1 [k] _ HDT.out HL1.out HL.out HNN.out (fun k hk => by have h0 := HGE.out; have h1 := HSH.out k hk; have h2 := HO1.out.size; have h3 := hoq.out.size; omega) HRS.out).mono ?_
    rintro _ zp hp
    have HOQ : Hid (Only S w _) := Lib.hid ((HO1.out.mono (fun _ _ f => f.elim)).trans (hoq.out.mono (fun k _ e => by have e : k = q := e; rw [e]; exact HD.out.sp)))
    have HPP := Lib.hid (hp.back HOQ.out)
    have hzz := hp.only
    obtain ⟨er, rfl⟩ := hp.val
    clear hp
    try dsimp only
    refine hK.out _ _ ((fun j v hv => hzz.cell' (hoq.out.cell' (HR1.out j v hv) HGW.out.2) HGW.out.1)) (fun hHeld3 => ?_)
    clear hK K
    try simp only [List.getElem_toArray, List.getElem_cons_zero, List.getElem_cons_succ, Act.put, List.setIfInBounds_toArray, List.set_cons_zero, List.set_cons_succ]
    refine sho.tk 12 ?_
    refine wpAnyH_done (by kernel_rfl) ?_ _
    refine NoPanic.normal ?_
    clear hHeld hzz hoq
    go_wp2_with fail
    go_ret
    exact HPP.out

  · try simp only [List.getElem_toArray, List.getElem_cons_zero, List.getElem_cons_succ]
    go_simp
    obtain ⟨zs, hzs⟩ : ∃ x, x = z0.alloc (.cells #[.int .i64 k] 3) := ⟨_, rfl⟩
    obtain ⟨gs, hgs⟩ : ∃ x, x = z0.heap.size := ⟨_, rfl⟩
    rw [← hzs, ← hgs]
    have hal : Only (fun _ => False) z0 zs := by rw [hzs]; exact (Only.refl _ _).alloc _
    have HRS : Hid (ReadsI zs (some ⟨gs, 0, none⟩) 1 [k]) := Lib.hid (read1 z0 _ k HK.out hzs hgs)
    have HGS : Hid (∀ y : Addr, (some ⟨gs, 0, none⟩ : Option Addr) = some y → z0.heap.size ≤ y.block) := Lib.hid (fun y hy => by cases hy; show z0.heap.size ≤ gs; omega)
    have hotz := hot
    replace hot := Lib.hid (hot.out.trans hal)
    clear hal hzs hgs
    refine hK.out _ _ ((fun j v hv => hot.out.cell' (HR1.out j v hv) (fun f => f))) (fun hHeld4 => ?_)
    clear hK K
    try simp only [List.getElem_toArray, List.getElem_cons_zero, List.getElem_cons_succ, Act.put, List.setIfInBounds_toArray, List.set_cons_zero, List.set_cons_succ]
    refine wpAnyH_ready (rs := [7]) (by kernel_rfl) (by simp) ?_
    refine AllReadyH.cons rfl (fun K hK => ?_) AllReadyH.nil
    try simp only [List.getElem_toArray, List.getElem_cons_zero, List.getElem_cons_succ]
    go_simp
    go_at_call 82
    with_reducible refine (HBC.out _ (HO1.out.trans hot.out)).mono ?_
    rintro _ zb ⟨rfl, hb, ho⟩
    have HDT : Hid (dkw.DkAt (fnd.topA A k x) S zb q vL vW op D) := Lib.hid (ofJ (HD.out.quiet (HO1.out.trans hot.out)) hb ho)
    have hoq : Hid (Only (fun k => k = q) w1 zb) := Lib.hid ((hot.out.mono (fun _ _ f => f.elim)).trans ho)
    replace HRS := Lib.hid (HRS.out.only ho (fun y hy e => by
      have e : y.block = q := e
      have h2 := HGS.out y hy
      have h3 := HD.out.lt
      have h4 := HO1.out.size
      have h5 := hotz.out.size
      omega))
    clear ho hb hot
    try dsimp only
    refine hK.out _ _ ((fun j v hv => hoq.out.cell' (HR1.out j v hv) HGW.out.2)) (fun hHeld5 => ?_)
    clear hK K
    try simp only [List.getElem_toArray, List.getElem_cons_zero, List.getElem_cons_succ, Act.put, List.setIfInBounds_toArray, List.set_cons_zero, List.set_cons_succ]
    refine wpAnyH_ready (rs := [11]) (by kernel_rfl) (by simp) ?_
    refine AllReadyH.cons rfl (fun K hK => ?_) AllReadyH.nil
    try simp only [List.getElem_toArray, List.getElem_cons_zero, List.getElem_cons_succ]
    go_simp
    go_at_call 81
    with_reducible refine (post_any (fnd.topE A k x) 1 x 0 (by unfold entw.InI; omega) (some ⟨gs, 0, none⟩) 1 1 [k] _ HDT.out HL1.out HL.out HNN.out (fun k hk => by have h0 := HGE.out; have h1 := HSH.out k hk; have h2 := HO1.out.size; have h3 := hoq.out.size; omega) HRS.out).mono ?_
    rintro _ zp hp
    have HOQ : Hid (Only S w _) := Lib.hid ((HO1.out.mono (fun _ _ f => f.elim)).trans (hoq.out.mono (fun k _ e => by have e : k = q := e; rw [e]; exact HD.out.sp)))
    have HPP := Lib.hid (hp.back HOQ.out)
    have hzz := hp.only
    obtain ⟨er, rfl⟩ := hp.val
    clear hp
    try dsimp only
    refine hK.out _ _ ((fun j v hv => hzz.cell' (hoq.out.cell' (HR1.out j v hv) HGW.out.2) HGW.out.1)) (fun hHeld6 => ?_)
    clear hK K
    try simp only [List.getElem_toArray, List.getElem_cons_zero, List.getElem_cons_succ, Act.put, List.setIfInBounds_toArray, List.set_cons_zero, List.set_cons_succ]
    refine sho.tk 12 ?_
    refine wpAnyH_done (by kernel_rfl) ?_ _
    refine NoPanic.normal ?_
    clear hHeld hzz hoq
    go_wp2_with fail
    go_ret
    exact HPP.out
set_option maxRecDepth 100000 in
set_option maxHeartbeats 8000000 in
theorem hol_any {S : Nat → Prop} {q op : Nat} {vL vW : Value} {A : List fnd.Ac} {D : List jnw.Es} (a : Option Addr) (len cap : Nat) (l : List Int) (a2 : Option Addr) (m2 c2 : Nat) (ls : List Int) (x : Int) (w : World) (h : dkw.DkAt A S w q vL vW op D) (hA : fnd.Bok A) (hn : D.length < 16384) (hS : ∀ k, S k → k < w.heap.size) (hr : ReadsI w a len l) (hlc : len ≤ cap) (hq : ∀ y, a = some y → y.block ≠ q) (hr2 : ReadsI w a2 m2 ls) :
    Calls Tryz.prog 53 #[.pointer (some ⟨q, 0, none⟩), .slice a len cap, .slice a2 m2 c2, .int .i64 x] w (RMv S w q A (fnd.holdA A l ls x) op D 2 x 0 l (fnd.holdE A l ls x)) := by
  have hl := hA.len
  have hl1 : (fnd.holdA A l ls x).length = 33 := (hA.holdA l ls x).len
  have hZT : (w.alloc (.cells Tryz.zeroCells44 44)).there w.heap.size 0 165 := zero_there w
  have HSZ : Hid ((fnd.av A).toArray.size = 165) := Lib.hid (by rw [List.size_toArray, fnd.av_length, hl])
  have HZT := Lib.hid hZT
  have HON := Lib.hid (all_oneCell_toArray (av_one A))
  have HRQ := Lib.hid (fnd.BkAt.range hl h.bk)
  have HW : Hid (∀ x, (w.alloc (.cells Tryz.zeroCells44 44)).setCells w.heap.size 0 (fnd.av A).toArray.toList = x → Only (fun _ => False) w x ∧ x.rangeAt w.heap.size 0 (fnd.av A)) := Lib.hid (fun x hx => by
    rw [List.toList_toArray] at hx
    rw [← hx]
    exact ⟨((Only.refl (fun _ => False) w).alloc _).then (cells_only (S := fun k => k = w.heap.size) rfl _ _ _) (fun k hk e => by have e : k = w.heap.size := e; omega), World.rangeAt_setCells_same _ _ _ _ (by rw [fnd.av_length, hl]; exact hZT)⟩)
  have HL := Lib.hid hl
  have HL1 := Lib.hid hl1
  have HD := Lib.hid h
  have HSH := Lib.hid hS
  have HNN := Lib.hid hn
  have HGW : Hid (¬ S w.heap.size ∧ w.heap.size ≠ q) := Lib.hid ⟨fun e => by have := hS _ e; omega, by have := h.lt; omega⟩
  have HBC : Hid (∀ w', Only (fun _ => False) w w' → Calls Tryz.prog 83 #[.pointer (some ⟨q, 0, none⟩), .slice a len cap, .slice a2 m2 c2, .int .i64 x] w' (dbk.JDid (tl vL vW op) q (fnd.holdA A l ls x) (fnd.holdE A l ls x) w')) := Lib.hid (fun w' ho => dbk.rhold_any _ q A a len cap l a2 m2 c2 ls x w' (toJ (h.quiet ho)) hA (hr.only ho (fun _ _ f => f)) hlc (hr2.only ho (fun _ _ f => f)) hq)
  have HRD : Hid (∀ w1, Only (fun _ => False) w w1 → ∀ w', Only (fun k => k = q) w1 w' → ReadsI w' a len l) := Lib.hid (fun w1 ho w' ho2 => (hr.only ho (fun _ _ f => f)).only ho2 (fun y hy e => hq y hy e))
  clear hl hl1 hZT h hS hn hA
  go_enter Tryz.func53, Tryz.ntmps53
  go_upto_region 2 with (first | (refine wpList_load_mid rfl 44 (Operand.tmp 12) rfl q 0 rfl (fnd.av A) _ HRQ.out Tryz.underlying44 rfl (by rw [info_rbook, fnd.av_length, HL.out]) ?_) | (refine wpList_store_mid rfl 44 (Operand.tmp 9) (Operand.tmp 13) rfl w.heap.size 0 (fnd.av A).toArray rfl rfl (by rw [HSZ.out]; exact HZT.out) (by rw [info_rbook, HSZ.out]) HON.out ?_))
  generalize hw1 : World.setCells _ _ _ _ = w1
  obtain ⟨ho1, hrg1⟩ := HW.out w1 hw1
  generalize hgg : w.heap.size = g at *
  have HO1 := Lib.hid ho1
  have HR1 := Lib.hid hrg1
  have HGE : Hid (w.heap.size = g) := Lib.hid hgg
  clear hw1 ho1 hrg1 hgg HW HZT HRQ
  refine wp_region_noPanic ?_
  refine wp_region_held_drew (S := (fun w' => w'.rangeAt g 0 (fnd.av A))) (by kernel_rfl) ((fun j v hv => ((Only.refl (fun _ => False) w1).drew).cell' (HR1.out j v hv) (fun f => f))) (fun hHeld => ?_)
  obtain ⟨z0, hz0⟩ : ∃ x, x = w1.drew := ⟨_, rfl⟩
  rw [← hz0] at hHeld ⊢
  have hot : Hid (Only (fun _ => False) w1 z0) := Lib.hid (by rw [hz0]; exact (Only.refl _ _).drew)
  clear hz0
  refine sho.tk 0 ?_
  refine wpAnyH_take (i := 1) (v := .agg (fnd.av A).toArray) rfl (by kernel_rfl) (by kernel_rfl) (by kernel_rfl) (fun _ _ _ h => h) (yieldsIf_load_mid (by rfl) 44 (Operand.tmp 9) rfl g 0 rfl (fnd.av A) _ (fun w' hS => hS) Tryz.underlying44 rfl (by rw [info_rbook, fnd.av_length, HL.out])) (by assumption) ?_
  try simp only [List.getElem_toArray, List.getElem_cons_zero, List.getElem_cons_succ, Act.put, List.setIfInBounds_toArray, List.set_cons_zero, List.set_cons_succ]
  refine sho.tk 2 ?_
  refine sho.tk 3 ?_
  refine sho.tk 4 ?_
  refine sho.tk 5 ?_
  refine sho.tk 6 ?_
  refine sho.tk 7 ?_
  refine sho.tk 9 ?_
  refine sho.tk 10 ?_
  refine wpAnyH_ready (rs := [8]) (by kernel_rfl) (by simp) ?_
  refine AllReadyH.cons rfl (fun K hK => ?_) AllReadyH.nil
  try simp only [List.getElem_toArray, List.getElem_cons_zero, List.getElem_cons_succ]
  go_simp
  go_at_call 83
  with_reducible refine (HBC.out _ (HO1.out.trans hot.out)).mono ?_
  rintro _ zb ⟨rfl, hb, ho⟩
  have HDT : Hid (dkw.DkAt (fnd.holdA A l ls x) S zb q vL vW op D) := Lib.hid (ofJ (HD.out.quiet (HO1.out.trans hot.out)) hb ho)
  have hoq : Hid (Only (fun k => k = q) w1 zb) := Lib.hid ((hot.out.mono (fun _ _ f => f.elim)).trans ho)
  clear ho hb hot
  try dsimp only
  refine hK.out _ _ ((fun j v hv => hoq.out.cell' (HR1.out j v hv) HGW.out.2)) (fun hHeld1 => ?_)
  clear hK K
  try simp only [List.getElem_toArray, List.getElem_cons_zero, List.getElem_cons_succ, Act.put, List.setIfInBounds_toArray, List.set_cons_zero, List.set_cons_succ]
  refine wpAnyH_ready (rs := [11]) (by kernel_rfl) (by simp) ?_
  refine AllReadyH.cons rfl (fun K hK => ?_) AllReadyH.nil
  try simp only [List.getElem_toArray, List.getElem_cons_zero, List.getElem_cons_succ]
  go_simp
  go_at_call 81
  with_reducible refine (post_any (fnd.holdE A l ls x) 2 x 0 (by unfold entw.InI; omega) a len cap l _ HDT.out HL1.out HL.out HNN.out (fun k hk => by have h0 := HGE.out; have h1 := HSH.out k hk; have h2 := HO1.out.size; have h3 := hoq.out.size; omega) (HRD.out _ HO1.out _ hoq.out)).mono ?_
  rintro _ zp hp
  have HOQ : Hid (Only S w _) := Lib.hid ((HO1.out.mono (fun _ _ f => f.elim)).trans (hoq.out.mono (fun k _ e => by have e : k = q := e; rw [e]; exact HD.out.sp)))
  have HPP := Lib.hid (hp.back HOQ.out)
  have hzz := hp.only
  obtain ⟨er, rfl⟩ := hp.val
  clear hp
  try dsimp only
  refine hK.out _ _ ((fun j v hv => hzz.cell' (hoq.out.cell' (HR1.out j v hv) HGW.out.2) HGW.out.1)) (fun hHeld2 => ?_)
  clear hK K
  try simp only [List.getElem_toArray, List.getElem_cons_zero, List.getElem_cons_succ, Act.put, List.setIfInBounds_toArray, List.set_cons_zero, List.set_cons_succ]
  refine sho.tk 12 ?_
  refine wpAnyH_done (by kernel_rfl) ?_ _
  refine NoPanic.normal ?_
  clear hHeld hzz hoq
  go_wp2_with fail
  go_ret
  exact HPP.out
set_option maxRecDepth 100000 in
set_option maxHeartbeats 8000000 in
theorem rel_any {S : Nat → Prop} {q op : Nat} {vL vW : Value} {A : List fnd.Ac} {D : List jnw.Es} (a : Option Addr) (len cap : Nat) (l : List Int) (x : Int) (w : World) (h : dkw.DkAt A S w q vL vW op D) (hA : fnd.Bok A) (hn : D.length < 16384) (hS : ∀ k, S k → k < w.heap.size) (hr : ReadsI w a len l) (hlc : len ≤ cap) (hq : ∀ y, a = some y → y.block ≠ q) :
    Calls Tryz.prog 54 #[.pointer (some ⟨q, 0, none⟩), .slice a len cap, .int .i64 x] w (RMv S w q A (fnd.shA A l x (-x) (0)) op D 3 x 0 l (fnd.shE A l x (-x) (0))) := by
  have hl := hA.len
  have hl1 : (fnd.shA A l x (-x) (0)).length = 33 := (hA.shA l x (dh := -x) (du := 0) (fun e => by unfold fnd.AmtOk at e; omega)).len
  have hZT : (w.alloc (.cells Tryz.zeroCells44 44)).there w.heap.size 0 165 := zero_there w
  have HSZ : Hid ((fnd.av A).toArray.size = 165) := Lib.hid (by rw [List.size_toArray, fnd.av_length, hl])
  have HZT := Lib.hid hZT
  have HON := Lib.hid (all_oneCell_toArray (av_one A))
  have HRQ := Lib.hid (fnd.BkAt.range hl h.bk)
  have HW : Hid (∀ x, (w.alloc (.cells Tryz.zeroCells44 44)).setCells w.heap.size 0 (fnd.av A).toArray.toList = x → Only (fun _ => False) w x ∧ x.rangeAt w.heap.size 0 (fnd.av A)) := Lib.hid (fun x hx => by
    rw [List.toList_toArray] at hx
    rw [← hx]
    exact ⟨((Only.refl (fun _ => False) w).alloc _).then (cells_only (S := fun k => k = w.heap.size) rfl _ _ _) (fun k hk e => by have e : k = w.heap.size := e; omega), World.rangeAt_setCells_same _ _ _ _ (by rw [fnd.av_length, hl]; exact hZT)⟩)
  have HL := Lib.hid hl
  have HL1 := Lib.hid hl1
  have HD := Lib.hid h
  have HSH := Lib.hid hS
  have HNN := Lib.hid hn
  have HGW : Hid (¬ S w.heap.size ∧ w.heap.size ≠ q) := Lib.hid ⟨fun e => by have := hS _ e; omega, by have := h.lt; omega⟩
  have HBC : Hid (∀ w', Only (fun _ => False) w w' → Calls Tryz.prog 84 #[.pointer (some ⟨q, 0, none⟩), .int .i64 0, .slice a len cap, .int .i64 x] w' (dbk.JDid (tl vL vW op) q (fnd.shA A l x (-x) (0)) (fnd.shE A l x (-x) (0)) w')) := Lib.hid (fun w' ho => dbk.rmove0_any _ q A a len cap l x w' (toJ (h.quiet ho)) hA (hr.only ho (fun _ _ f => f)) hlc hq)
  have HRD : Hid (∀ w1, Only (fun _ => False) w w1 → ∀ w', Only (fun k => k = q) w1 w' → ReadsI w' a len l) := Lib.hid (fun w1 ho w' ho2 => (hr.only ho (fun _ _ f => f)).only ho2 (fun y hy e => hq y hy e))
  clear hl hl1 hZT h hS hn hA
  go_enter Tryz.func54, Tryz.ntmps54
  go_upto_region 2 with (first | (refine wpList_load_mid rfl 44 (Operand.tmp 10) rfl q 0 rfl (fnd.av A) _ HRQ.out Tryz.underlying44 rfl (by rw [info_rbook, fnd.av_length, HL.out]) ?_) | (refine wpList_store_mid rfl 44 (Operand.tmp 7) (Operand.tmp 11) rfl w.heap.size 0 (fnd.av A).toArray rfl rfl (by rw [HSZ.out]; exact HZT.out) (by rw [info_rbook, HSZ.out]) HON.out ?_))
  generalize hw1 : World.setCells _ _ _ _ = w1
  obtain ⟨ho1, hrg1⟩ := HW.out w1 hw1
  generalize hgg : w.heap.size = g at *
  have HO1 := Lib.hid ho1
  have HR1 := Lib.hid hrg1
  have HGE : Hid (w.heap.size = g) := Lib.hid hgg
  clear hw1 ho1 hrg1 hgg HW HZT HRQ
  refine wp_region_noPanic ?_
  refine wp_region_held_drew (S := (fun w' => w'.rangeAt g 0 (fnd.av A))) (by kernel_rfl) ((fun j v hv => ((Only.refl (fun _ => False) w1).drew).cell' (HR1.out j v hv) (fun f => f))) (fun hHeld => ?_)
  obtain ⟨z0, hz0⟩ : ∃ x, x = w1.drew := ⟨_, rfl⟩
  rw [← hz0] at hHeld ⊢
  have hot : Hid (Only (fun _ => False) w1 z0) := Lib.hid (by rw [hz0]; exact (Only.refl _ _).drew)
  clear hz0
  refine sho.tk 0 ?_
  refine wpAnyH_take (i := 1) (v := .agg (fnd.av A).toArray) rfl (by kernel_rfl) (by kernel_rfl) (by kernel_rfl) (fun _ _ _ h => h) (yieldsIf_load_mid (by rfl) 44 (Operand.tmp 7) rfl g 0 rfl (fnd.av A) _ (fun w' hS => hS) Tryz.underlying44 rfl (by rw [info_rbook, fnd.av_length, HL.out])) (by assumption) ?_
  try simp only [List.getElem_toArray, List.getElem_cons_zero, List.getElem_cons_succ, Act.put, List.setIfInBounds_toArray, List.set_cons_zero, List.set_cons_succ]
  refine sho.tk 2 ?_
  refine sho.tk 3 ?_
  refine sho.tk 4 ?_
  refine sho.tk 5 ?_
  refine sho.tk 6 ?_
  refine sho.tk 8 ?_
  refine sho.tk 9 ?_
  refine wpAnyH_ready (rs := [7]) (by kernel_rfl) (by simp) ?_
  refine AllReadyH.cons rfl (fun K hK => ?_) AllReadyH.nil
  try simp only [List.getElem_toArray, List.getElem_cons_zero, List.getElem_cons_succ]
  go_simp
  go_at_call 84
  with_reducible refine (HBC.out _ (HO1.out.trans hot.out)).mono ?_
  rintro _ zb ⟨rfl, hb, ho⟩
  have HDT : Hid (dkw.DkAt (fnd.shA A l x (-x) (0)) S zb q vL vW op D) := Lib.hid (ofJ (HD.out.quiet (HO1.out.trans hot.out)) hb ho)
  have hoq : Hid (Only (fun k => k = q) w1 zb) := Lib.hid ((hot.out.mono (fun _ _ f => f.elim)).trans ho)
  clear ho hb hot
  try dsimp only
  refine hK.out _ _ ((fun j v hv => hoq.out.cell' (HR1.out j v hv) HGW.out.2)) (fun hHeld1 => ?_)
  clear hK K
  try simp only [List.getElem_toArray, List.getElem_cons_zero, List.getElem_cons_succ, Act.put, List.setIfInBounds_toArray, List.set_cons_zero, List.set_cons_succ]
  refine wpAnyH_ready (rs := [10]) (by kernel_rfl) (by simp) ?_
  refine AllReadyH.cons rfl (fun K hK => ?_) AllReadyH.nil
  try simp only [List.getElem_toArray, List.getElem_cons_zero, List.getElem_cons_succ]
  go_simp
  go_at_call 81
  with_reducible refine (post_any (fnd.shE A l x (-x) (0)) 3 x 0 (by unfold entw.InI; omega) a len cap l _ HDT.out HL1.out HL.out HNN.out (fun k hk => by have h0 := HGE.out; have h1 := HSH.out k hk; have h2 := HO1.out.size; have h3 := hoq.out.size; omega) (HRD.out _ HO1.out _ hoq.out)).mono ?_
  rintro _ zp hp
  have HOQ : Hid (Only S w _) := Lib.hid ((HO1.out.mono (fun _ _ f => f.elim)).trans (hoq.out.mono (fun k _ e => by have e : k = q := e; rw [e]; exact HD.out.sp)))
  have HPP := Lib.hid (hp.back HOQ.out)
  have hzz := hp.only
  obtain ⟨er, rfl⟩ := hp.val
  clear hp
  try dsimp only
  refine hK.out _ _ ((fun j v hv => hzz.cell' (hoq.out.cell' (HR1.out j v hv) HGW.out.2) HGW.out.1)) (fun hHeld2 => ?_)
  clear hK K
  try simp only [List.getElem_toArray, List.getElem_cons_zero, List.getElem_cons_succ, Act.put, List.setIfInBounds_toArray, List.set_cons_zero, List.set_cons_succ]
  refine sho.tk 11 ?_
  refine wpAnyH_done (by kernel_rfl) ?_ _
  refine NoPanic.normal ?_
  clear hHeld hzz hoq
  go_wp2_with fail
  go_ret
  exact HPP.out
set_option maxRecDepth 100000 in
set_option maxHeartbeats 8000000 in
theorem com_any {S : Nat → Prop} {q op : Nat} {vL vW : Value} {A : List fnd.Ac} {D : List jnw.Es} (a : Option Addr) (len cap : Nat) (l : List Int) (x : Int) (gr : Int) (hg : entw.InI gr) (w : World) (h : dkw.DkAt A S w q vL vW op D) (hA : fnd.Bok A) (hn : D.length < 16384) (hS : ∀ k, S k → k < w.heap.size) (hr : ReadsI w a len l) (hlc : len ≤ cap) (hq : ∀ y, a = some y → y.block ≠ q) :
    Calls Tryz.prog 55 #[.pointer (some ⟨q, 0, none⟩), .slice a len cap, .int .i64 x, .int .i64 gr] w (RMv S w q A (fnd.shA A l x (-x) (x)) op D 4 x gr l (fnd.shE A l x (-x) (x))) := by
  have hl := hA.len
  have hl1 : (fnd.shA A l x (-x) (x)).length = 33 := (hA.shA l x (dh := -x) (du := x) (fun e => by unfold fnd.AmtOk at e; omega)).len
  have hZT : (w.alloc (.cells Tryz.zeroCells44 44)).there w.heap.size 0 165 := zero_there w
  have HSZ : Hid ((fnd.av A).toArray.size = 165) := Lib.hid (by rw [List.size_toArray, fnd.av_length, hl])
  have HZT := Lib.hid hZT
  have HON := Lib.hid (all_oneCell_toArray (av_one A))
  have HRQ := Lib.hid (fnd.BkAt.range hl h.bk)
  have HW : Hid (∀ x, (w.alloc (.cells Tryz.zeroCells44 44)).setCells w.heap.size 0 (fnd.av A).toArray.toList = x → Only (fun _ => False) w x ∧ x.rangeAt w.heap.size 0 (fnd.av A)) := Lib.hid (fun x hx => by
    rw [List.toList_toArray] at hx
    rw [← hx]
    exact ⟨((Only.refl (fun _ => False) w).alloc _).then (cells_only (S := fun k => k = w.heap.size) rfl _ _ _) (fun k hk e => by have e : k = w.heap.size := e; omega), World.rangeAt_setCells_same _ _ _ _ (by rw [fnd.av_length, hl]; exact hZT)⟩)
  have HL := Lib.hid hl
  have HL1 := Lib.hid hl1
  have HD := Lib.hid h
  have HSH := Lib.hid hS
  have HNN := Lib.hid hn
  have HGW : Hid (¬ S w.heap.size ∧ w.heap.size ≠ q) := Lib.hid ⟨fun e => by have := hS _ e; omega, by have := h.lt; omega⟩
  have HBC : Hid (∀ w', Only (fun _ => False) w w' → Calls Tryz.prog 84 #[.pointer (some ⟨q, 0, none⟩), .int .i64 1, .slice a len cap, .int .i64 x] w' (dbk.JDid (tl vL vW op) q (fnd.shA A l x (-x) (x)) (fnd.shE A l x (-x) (x)) w')) := Lib.hid (fun w' ho => dbk.rmove1_any _ q A a len cap l x w' (toJ (h.quiet ho)) hA (hr.only ho (fun _ _ f => f)) hlc hq)
  have HRD : Hid (∀ w1, Only (fun _ => False) w w1 → ∀ w', Only (fun k => k = q) w1 w' → ReadsI w' a len l) := Lib.hid (fun w1 ho w' ho2 => (hr.only ho (fun _ _ f => f)).only ho2 (fun y hy e => hq y hy e))
  have HGR := Lib.hid hg
  clear hl hl1 hZT h hS hn hA
  go_enter Tryz.func55, Tryz.ntmps55
  go_upto_region 2 with (first | (refine wpList_load_mid rfl 44 (Operand.tmp 12) rfl q 0 rfl (fnd.av A) _ HRQ.out Tryz.underlying44 rfl (by rw [info_rbook, fnd.av_length, HL.out]) ?_) | (refine wpList_store_mid rfl 44 (Operand.tmp 9) (Operand.tmp 13) rfl w.heap.size 0 (fnd.av A).toArray rfl rfl (by rw [HSZ.out]; exact HZT.out) (by rw [info_rbook, HSZ.out]) HON.out ?_))
  generalize hw1 : World.setCells _ _ _ _ = w1
  obtain ⟨ho1, hrg1⟩ := HW.out w1 hw1
  generalize hgg : w.heap.size = g at *
  have HO1 := Lib.hid ho1
  have HR1 := Lib.hid hrg1
  have HGE : Hid (w.heap.size = g) := Lib.hid hgg
  clear hw1 ho1 hrg1 hgg HW HZT HRQ
  refine wp_region_noPanic ?_
  refine wp_region_held_drew (S := (fun w' => w'.rangeAt g 0 (fnd.av A))) (by kernel_rfl) ((fun j v hv => ((Only.refl (fun _ => False) w1).drew).cell' (HR1.out j v hv) (fun f => f))) (fun hHeld => ?_)
  obtain ⟨z0, hz0⟩ : ∃ x, x = w1.drew := ⟨_, rfl⟩
  rw [← hz0] at hHeld ⊢
  have hot : Hid (Only (fun _ => False) w1 z0) := Lib.hid (by rw [hz0]; exact (Only.refl _ _).drew)
  clear hz0
  refine sho.tk 0 ?_
  refine wpAnyH_take (i := 1) (v := .agg (fnd.av A).toArray) rfl (by kernel_rfl) (by kernel_rfl) (by kernel_rfl) (fun _ _ _ h => h) (yieldsIf_load_mid (by rfl) 44 (Operand.tmp 9) rfl g 0 rfl (fnd.av A) _ (fun w' hS => hS) Tryz.underlying44 rfl (by rw [info_rbook, fnd.av_length, HL.out])) (by assumption) ?_
  try simp only [List.getElem_toArray, List.getElem_cons_zero, List.getElem_cons_succ, Act.put, List.setIfInBounds_toArray, List.set_cons_zero, List.set_cons_succ]
  refine sho.tk 2 ?_
  refine sho.tk 3 ?_
  refine sho.tk 4 ?_
  refine sho.tk 5 ?_
  refine sho.tk 6 ?_
  refine sho.tk 8 ?_
  refine sho.tk 9 ?_
  refine sho.tk 10 ?_
  refine wpAnyH_ready (rs := [7]) (by kernel_rfl) (by simp) ?_
  refine AllReadyH.cons rfl (fun K hK => ?_) AllReadyH.nil
  try simp only [List.getElem_toArray, List.getElem_cons_zero, List.getElem_cons_succ]
  go_simp
  go_at_call 84
  with_reducible refine (HBC.out _ (HO1.out.trans hot.out)).mono ?_
  rintro _ zb ⟨rfl, hb, ho⟩
  have HDT : Hid (dkw.DkAt (fnd.shA A l x (-x) (x)) S zb q vL vW op D) := Lib.hid (ofJ (HD.out.quiet (HO1.out.trans hot.out)) hb ho)
  have hoq : Hid (Only (fun k => k = q) w1 zb) := Lib.hid ((hot.out.mono (fun _ _ f => f.elim)).trans ho)
  clear ho hb hot
  try dsimp only
  refine hK.out _ _ ((fun j v hv => hoq.out.cell' (HR1.out j v hv) HGW.out.2)) (fun hHeld1 => ?_)
  clear hK K
  try simp only [List.getElem_toArray, List.getElem_cons_zero, List.getElem_cons_succ, Act.put, List.setIfInBounds_toArray, List.set_cons_zero, List.set_cons_succ]
  refine wpAnyH_ready (rs := [11]) (by kernel_rfl) (by simp) ?_
  refine AllReadyH.cons rfl (fun K hK => ?_) AllReadyH.nil
  try simp only [List.getElem_toArray, List.getElem_cons_zero, List.getElem_cons_succ]
  go_simp
  go_at_call 81
  with_reducible refine (post_any (fnd.shE A l x (-x) (x)) 4 x gr HGR.out a len cap l _ HDT.out HL1.out HL.out HNN.out (fun k hk => by have h0 := HGE.out; have h1 := HSH.out k hk; have h2 := HO1.out.size; have h3 := hoq.out.size; omega) (HRD.out _ HO1.out _ hoq.out)).mono ?_
  rintro _ zp hp
  have HOQ : Hid (Only S w _) := Lib.hid ((HO1.out.mono (fun _ _ f => f.elim)).trans (hoq.out.mono (fun k _ e => by have e : k = q := e; rw [e]; exact HD.out.sp)))
  have HPP := Lib.hid (hp.back HOQ.out)
  have hzz := hp.only
  obtain ⟨er, rfl⟩ := hp.val
  clear hp
  try dsimp only
  refine hK.out _ _ ((fun j v hv => hzz.cell' (hoq.out.cell' (HR1.out j v hv) HGW.out.2) HGW.out.1)) (fun hHeld2 => ?_)
  clear hK K
  try simp only [List.getElem_toArray, List.getElem_cons_zero, List.getElem_cons_succ, Act.put, List.setIfInBounds_toArray, List.set_cons_zero, List.set_cons_succ]
  refine sho.tk 12 ?_
  refine wpAnyH_done (by kernel_rfl) ?_ _
  refine NoPanic.normal ?_
  clear hHeld hzz hoq
  go_wp2_with fail
  go_ret
  exact HPP.out
set_option maxRecDepth 100000 in
set_option maxHeartbeats 8000000 in
theorem ref_any {S : Nat → Prop} {q op : Nat} {vL vW : Value} {A : List fnd.Ac} {D : List jnw.Es} (a : Option Addr) (len cap : Nat) (l : List Int) (x : Int) (gr : Int) (hg : entw.InI gr) (w : World) (h : dkw.DkAt A S w q vL vW op D) (hA : fnd.Bok A) (hn : D.length < 16384) (hS : ∀ k, S k → k < w.heap.size) (hr : ReadsI w a len l) (hlc : len ≤ cap) (hq : ∀ y, a = some y → y.block ≠ q) :
    Calls Tryz.prog 56 #[.pointer (some ⟨q, 0, none⟩), .slice a len cap, .int .i64 x, .int .i64 gr] w (RMv S w q A (fnd.shA A l x (0) (-x)) op D 6 x gr l (fnd.shE A l x (0) (-x))) := by
  have hl := hA.len
  have hl1 : (fnd.shA A l x (0) (-x)).length = 33 := (hA.shA l x (dh := 0) (du := -x) (fun e => by unfold fnd.AmtOk at e; omega)).len
  have hZT : (w.alloc (.cells Tryz.zeroCells44 44)).there w.heap.size 0 165 := zero_there w
  have HSZ : Hid ((fnd.av A).toArray.size = 165) := Lib.hid (by rw [List.size_toArray, fnd.av_length, hl])
  have HZT := Lib.hid hZT
  have HON := Lib.hid (all_oneCell_toArray (av_one A))
  have HRQ := Lib.hid (fnd.BkAt.range hl h.bk)
  have HW : Hid (∀ x, (w.alloc (.cells Tryz.zeroCells44 44)).setCells w.heap.size 0 (fnd.av A).toArray.toList = x → Only (fun _ => False) w x ∧ x.rangeAt w.heap.size 0 (fnd.av A)) := Lib.hid (fun x hx => by
    rw [List.toList_toArray] at hx
    rw [← hx]
    exact ⟨((Only.refl (fun _ => False) w).alloc _).then (cells_only (S := fun k => k = w.heap.size) rfl _ _ _) (fun k hk e => by have e : k = w.heap.size := e; omega), World.rangeAt_setCells_same _ _ _ _ (by rw [fnd.av_length, hl]; exact hZT)⟩)
  have HL := Lib.hid hl
  have HL1 := Lib.hid hl1
  have HD := Lib.hid h
  have HSH := Lib.hid hS
  have HNN := Lib.hid hn
  have HGW : Hid (¬ S w.heap.size ∧ w.heap.size ≠ q) := Lib.hid ⟨fun e => by have := hS _ e; omega, by have := h.lt; omega⟩
  have HBC : Hid (∀ w', Only (fun _ => False) w w' → Calls Tryz.prog 84 #[.pointer (some ⟨q, 0, none⟩), .int .i64 2, .slice a len cap, .int .i64 x] w' (dbk.JDid (tl vL vW op) q (fnd.shA A l x (0) (-x)) (fnd.shE A l x (0) (-x)) w')) := Lib.hid (fun w' ho => dbk.rmove2_any _ q A a len cap l x w' (toJ (h.quiet ho)) hA (hr.only ho (fun _ _ f => f)) hlc hq)
  have HRD : Hid (∀ w1, Only (fun _ => False) w w1 → ∀ w', Only (fun k => k = q) w1 w' → ReadsI w' a len l) := Lib.hid (fun w1 ho w' ho2 => (hr.only ho (fun _ _ f => f)).only ho2 (fun y hy e => hq y hy e))
  have HGR := Lib.hid hg
  clear hl hl1 hZT h hS hn hA
  go_enter Tryz.func56, Tryz.ntmps56
  go_upto_region 2 with (first | (refine wpList_load_mid rfl 44 (Operand.tmp 12) rfl q 0 rfl (fnd.av A) _ HRQ.out Tryz.underlying44 rfl (by rw [info_rbook, fnd.av_length, HL.out]) ?_) | (refine wpList_store_mid rfl 44 (Operand.tmp 9) (Operand.tmp 13) rfl w.heap.size 0 (fnd.av A).toArray rfl rfl (by rw [HSZ.out]; exact HZT.out) (by rw [info_rbook, HSZ.out]) HON.out ?_))
  generalize hw1 : World.setCells _ _ _ _ = w1
  obtain ⟨ho1, hrg1⟩ := HW.out w1 hw1
  generalize hgg : w.heap.size = g at *
  have HO1 := Lib.hid ho1
  have HR1 := Lib.hid hrg1
  have HGE : Hid (w.heap.size = g) := Lib.hid hgg
  clear hw1 ho1 hrg1 hgg HW HZT HRQ
  refine wp_region_noPanic ?_
  refine wp_region_held_drew (S := (fun w' => w'.rangeAt g 0 (fnd.av A))) (by kernel_rfl) ((fun j v hv => ((Only.refl (fun _ => False) w1).drew).cell' (HR1.out j v hv) (fun f => f))) (fun hHeld => ?_)
  obtain ⟨z0, hz0⟩ : ∃ x, x = w1.drew := ⟨_, rfl⟩
  rw [← hz0] at hHeld ⊢
  have hot : Hid (Only (fun _ => False) w1 z0) := Lib.hid (by rw [hz0]; exact (Only.refl _ _).drew)
  clear hz0
  refine sho.tk 0 ?_
  refine wpAnyH_take (i := 1) (v := .agg (fnd.av A).toArray) rfl (by kernel_rfl) (by kernel_rfl) (by kernel_rfl) (fun _ _ _ h => h) (yieldsIf_load_mid (by rfl) 44 (Operand.tmp 9) rfl g 0 rfl (fnd.av A) _ (fun w' hS => hS) Tryz.underlying44 rfl (by rw [info_rbook, fnd.av_length, HL.out])) (by assumption) ?_
  try simp only [List.getElem_toArray, List.getElem_cons_zero, List.getElem_cons_succ, Act.put, List.setIfInBounds_toArray, List.set_cons_zero, List.set_cons_succ]
  refine sho.tk 2 ?_
  refine sho.tk 3 ?_
  refine sho.tk 4 ?_
  refine sho.tk 5 ?_
  refine sho.tk 6 ?_
  refine sho.tk 8 ?_
  refine sho.tk 9 ?_
  refine sho.tk 10 ?_
  refine wpAnyH_ready (rs := [7]) (by kernel_rfl) (by simp) ?_
  refine AllReadyH.cons rfl (fun K hK => ?_) AllReadyH.nil
  try simp only [List.getElem_toArray, List.getElem_cons_zero, List.getElem_cons_succ]
  go_simp
  go_at_call 84
  with_reducible refine (HBC.out _ (HO1.out.trans hot.out)).mono ?_
  rintro _ zb ⟨rfl, hb, ho⟩
  have HDT : Hid (dkw.DkAt (fnd.shA A l x (0) (-x)) S zb q vL vW op D) := Lib.hid (ofJ (HD.out.quiet (HO1.out.trans hot.out)) hb ho)
  have hoq : Hid (Only (fun k => k = q) w1 zb) := Lib.hid ((hot.out.mono (fun _ _ f => f.elim)).trans ho)
  clear ho hb hot
  try dsimp only
  refine hK.out _ _ ((fun j v hv => hoq.out.cell' (HR1.out j v hv) HGW.out.2)) (fun hHeld1 => ?_)
  clear hK K
  try simp only [List.getElem_toArray, List.getElem_cons_zero, List.getElem_cons_succ, Act.put, List.setIfInBounds_toArray, List.set_cons_zero, List.set_cons_succ]
  refine wpAnyH_ready (rs := [11]) (by kernel_rfl) (by simp) ?_
  refine AllReadyH.cons rfl (fun K hK => ?_) AllReadyH.nil
  try simp only [List.getElem_toArray, List.getElem_cons_zero, List.getElem_cons_succ]
  go_simp
  go_at_call 81
  with_reducible refine (post_any (fnd.shE A l x (0) (-x)) 6 x gr HGR.out a len cap l _ HDT.out HL1.out HL.out HNN.out (fun k hk => by have h0 := HGE.out; have h1 := HSH.out k hk; have h2 := HO1.out.size; have h3 := hoq.out.size; omega) (HRD.out _ HO1.out _ hoq.out)).mono ?_
  rintro _ zp hp
  have HOQ : Hid (Only S w _) := Lib.hid ((HO1.out.mono (fun _ _ f => f.elim)).trans (hoq.out.mono (fun k _ e => by have e : k = q := e; rw [e]; exact HD.out.sp)))
  have HPP := Lib.hid (hp.back HOQ.out)
  have hzz := hp.only
  obtain ⟨er, rfl⟩ := hp.val
  clear hp
  try dsimp only
  refine hK.out _ _ ((fun j v hv => hzz.cell' (hoq.out.cell' (HR1.out j v hv) HGW.out.2) HGW.out.1)) (fun hHeld2 => ?_)
  clear hK K
  try simp only [List.getElem_toArray, List.getElem_cons_zero, List.getElem_cons_succ, Act.put, List.setIfInBounds_toArray, List.set_cons_zero, List.set_cons_succ]
  refine sho.tk 12 ?_
  refine wpAnyH_done (by kernel_rfl) ?_ _
  refine NoPanic.normal ?_
  clear hHeld hzz hoq
  go_wp2_with fail
  go_ret
  exact HPP.out
end Go.Proofs.YtkbaafgaaiekpaaGreat.pdw
