/- Grants: rows of plans; has each a group of its own? Grants: what the groups of several plans are granted: the program's Many. -/
import Derived.Test.YtghajamcjcflaaaGrB
import Derived.Test.YtghajamcjcflaaaGrE
import Derived.Test.YtghajamcjcflaaaGrG
namespace Go.Proofs.Ytghajamcjcflaaa.tirw
open Go.RowKit mem tirm intm bigm bigw
set_option linter.unusedVariables false

/-- a plan in a row -/
structure Pl where
  D : Int
  F : Int
  T : Int
  G1 : Int
  M1 : Int
  B1 : Int
  G2 : Int
  M2 : Int
  B2 : Int
  a1 : Option Addr
  a2 : Option Addr
  n1 : Nat
  n2 : Nat
  c1 : Nat
  c2 : Nat
  t1 : List Tr
  t2 : List Tr
instance : Inhabited Pl := ⟨⟨0, 0, 0, 0, 0, 0, 0, 0, 0, none, none, 0, 0, 0, 0, [], []⟩⟩
def PlanO (w : World) (b o : Nat) (p : Pl) : Prop := w.cell? ⟨b, o, none⟩ = some (.int .i64 p.D) ∧ w.cell? ⟨b, o + 1, none⟩ = some (.int .i64 p.F) ∧ w.cell? ⟨b, o + 2, none⟩ = some (.int .i64 p.T) ∧ w.cell? ⟨b, o + 3, none⟩ = some (.int .i64 p.G1) ∧ w.cell? ⟨b, o + 4, none⟩ = some (.int .i64 p.M1) ∧ w.cell? ⟨b, o + 5, none⟩ = some (.int .i64 p.B1) ∧ w.cell? ⟨b, o + 6, none⟩ = some (.slice p.a1 p.n1 p.c1) ∧ w.cell? ⟨b, o + 7, none⟩ = some (.int .i64 p.G2) ∧ w.cell? ⟨b, o + 8, none⟩ = some (.int .i64 p.M2) ∧ w.cell? ⟨b, o + 9, none⟩ = some (.int .i64 p.B2) ∧ w.cell? ⟨b, o + 10, none⟩ = some (.slice p.a2 p.n2 p.c2)
theorem PlanO.only {S : Nat → Prop} {w w' : World} {b o : Nat} {p : Pl} (h : PlanO w b o p) (ho : Only S w w') (hs : ¬ S b) : PlanO w' b o p := by
  obtain ⟨c0, c1, c2, c3, c4, c5, c6, c7, c8, c9, c10⟩ := h
  exact ⟨ho.cell' c0 hs, ho.cell' c1 hs, ho.cell' c2 hs, ho.cell' c3 hs, ho.cell' c4 hs, ho.cell' c5 hs, ho.cell' c6 hs, ho.cell' c7 hs, ho.cell' c8 hs, ho.cell' c9 hs, ho.cell' c10 hs⟩
def ReadsP (w : World) (a : Option Addr) (len : Nat) (ps : List Pl) : Prop := ps.length = len ∧ len ≤ 1000 ∧ (len = 0 ∨ ∃ b off, a = some ⟨b, off, none⟩ ∧ ∀ i, i < len → PlanO w b (off + i * 11) (ps.getD i default))
theorem ReadsP.only {S : Nat → Prop} {w w' : World} {a : Option Addr} {len : Nat} {ps : List Pl} (h : ReadsP w a len ps) (ho : Only S w w') (hs : ∀ x, a = some x → ¬ S x.block) : ReadsP w' a len ps := by
  obtain ⟨hl, hm, hc⟩ := h
  refine ⟨hl, hm, ?_⟩
  rcases hc with h0 | ⟨b, off, ha, hcell⟩
  · exact .inl h0
  · exact .inr ⟨b, off, ha, fun i hi => (hcell i hi).only ho (hs _ ha)⟩
theorem ReadsP.take {w : World} {a : Option Addr} {len : Nat} {ps : List Pl} (h : ReadsP w a len ps) (n : Nat) (hn : n ≤ len) : ReadsP w a n (ps.take n) := by
  obtain ⟨hl, hm, hc⟩ := h
  refine ⟨by rw [List.length_take]; omega, by omega, ?_⟩
  rcases hc with h0 | ⟨b, off, ha, hcell⟩
  · exact .inl (by omega)
  · refine .inr ⟨b, off, ha, fun i hi => ?_⟩
    have e : (ps.take n).getD i default = ps.getD i default := by simp [List.getD, hi]
    rw [e]
    exact hcell i (by omega)
/-- the first of a group -/
def gIdx (g : Int) : Int → List Pl → Int
  | _, [] => -1
  | i, p :: r => if p.G1 = g then i else gIdx g (i + 1) r
theorem gIdx_in (g : Int) : ∀ (ps : List Pl) (i : Int), 0 ≤ i → (0 ≤ gIdx g i ps ↔ ∃ p ∈ ps, p.G1 = g) := by
  intro ps
  induction ps with
  | nil => intro i _; unfold gIdx; simp
  | cons x r ih =>
    intro i hi
    unfold gIdx
    by_cases h : x.G1 = g
    · rw [if_pos h]; exact ⟨fun _ => ⟨x, by simp, h⟩, fun _ => hi⟩
    · rw [if_neg h, ih (i + 1) (by omega)]
      constructor
      · rintro ⟨p, hp, e⟩; exact ⟨p, by simp [hp], e⟩
      · rintro ⟨p, hp, e⟩
        rcases List.mem_cons.1 hp with rfl | hp
        · exact absurd e h
        · exact ⟨p, hp, e⟩
theorem drop_getP (ps : List Pl) (k : Nat) (h : k < ps.length) : ps.drop k = ps.getD k default :: ps.drop (k + 1) := by
  rw [List.drop_eq_getElem_cons h]; simp [List.getD, h]
theorem gIdx_step {ps : List Pl} {k : Nat} (g : Int) (h : k < ps.length) : gIdx g k (ps.drop k) = if (ps.getD k default).G1 = g then (k : Int) else gIdx g ((k + 1 : Nat) : Int) (ps.drop (k + 1)) := by
  rw [drop_getP ps k h]
  rfl
set_option maxRecDepth 100000 in
theorem unl_lit (p : Pl) (g : Int) (x : Nat) (w : World) (hq : w.cell? ⟨x, 3, none⟩ = some (.int .i64 g)) :
    Calls Try.prog 65 #[.agg #[.int .i64 p.D, .int .i64 p.F, .int .i64 p.T, .int .i64 p.G1, .int .i64 p.M1, .int .i64 p.B1, .slice p.a1 p.n1 p.c1, .int .i64 p.G2, .int .i64 p.M2, .int .i64 p.B2, .slice p.a2 p.n2 p.c2], .pointer (some ⟨x, 0, none⟩)] w fun e w' => e = .returned (.bool (decide (p.G1 = g))) ∧ Only (fun _ => False) w w' := by
  have HO : Hid (∀ o, Only (fun _ => False) w (w.alloc o)) := Lib.hid (fun o => (Only.refl _ w).alloc o)
  have hq2 : ∀ o, (w.alloc o).cell? ⟨x, 3, none⟩ = some (.int .i64 g) := fun o => (HO.out o).cell' hq (fun f => f)
  obtain ⟨D, F, T, G1, M1, B1, G2, M2, B2, a1, a2, n1, n2, c1, c2, t1, t2⟩ := p
  dsimp only
  by_cases h0 : G1 = g
  · have e : (G1 == g) = true := by simpa using h0
    rw [decide_eq_true h0]
    subst h0
    go_enter Try.func65, Try.ntmps65
    go_wp2_with fail
    go_ret
    exact ⟨by simp, HO.out _⟩
  · have e : (G1 == g) = false := by simpa using h0
    rw [decide_eq_false h0]
    go_enter Try.func65, Try.ntmps65
    go_wp2_with fail
    go_ret
    exact ⟨by simp, HO.out _⟩
set_option maxRecDepth 100000 in
set_option maxHeartbeats 1000000 in
theorem pidx_any (a : Option Addr) (len cap : Nat) (ps : List Pl) (g : Int) (x : Nat) (w : World) (h : ReadsP w a len ps) (hq : w.cell? ⟨x, 3, none⟩ = some (.int .i64 g)) :
    Calls Try.prog 91 #[.slice a len cap, .func (.func 65) #[] #[.pointer (some ⟨x, 0, none⟩)]] w fun e w' => e = .returned (.int .i64 (gIdx g 0 ps)) ∧ Only (fun _ => False) w w' := by
  have hm := h.2.1
  have H := Lib.hid h
  have HL : Hid (ps.length = len) := Lib.hid h.1
  have HQ := Lib.hid hq
  clear h hq
  go_enter Try.func91, Try.ntmps91
  go_wp2_with fail
  go_loopw [8] (fun i wr => ∃ k : Nat, k ≤ len ∧ i = .int .i64 k ∧ Hid (gIdx g k (ps.drop k) = gIdx g 0 ps) ∧ Hid (Only (fun _ => False) w wr)) (fun i _ => len - (intOf i).toNat)
  case atStart => exact ⟨0, by omega, rfl, Lib.hid rfl, Lib.hid (Only.refl _ _)⟩
  case round =>
    obtain ⟨k, hk, rfl, HP, HW⟩ := hrel
    by_cases h8 : k < len
    · obtain ⟨b, off, rfl, hcell⟩ := H.out.2.2.resolve_left (by omega)
      obtain ⟨c0, c1, c2, c3, c4, c5, c6, c7, c8, c9, c10⟩ := (hcell k h8).only HW.out (fun f => f)
      have hst := HP.out
      rw [gIdx_step g (by rw [HL.out]; exact h8)] at hst
      have HUL := Lib.hid (fun w' hq' => unl_lit (ps.getD k default) g x w' hq')
      generalize ps.getD k default = p at *
      obtain ⟨D, F, T, G1, M1, B1, G2, M2, B2, a1, a2, n1, n2, c1', c2', t1, t2⟩ := p
      dsimp only at c0 c1 c2 c3 c4 c5 c6 c7 c8 c9 c10 hst HUL
      have HST := Lib.hid hst
      clear hcell hst
      go_wp2_with fail
      refine (HUL.out wr (HW.out.cell' HQ.out (fun f => f))).mono ?_
      rintro _ w1 ⟨rfl, h1⟩
      have HW1 := Lib.hid (HW.out.trans h1)
      clear h1 c0 c1 c2 c3 c4 c5 c6 c7 c8 c9 c10
      by_cases h2 : G1 = g
      · rw [decide_eq_true h2]
        have HR : Hid (gIdx g 0 ps = k) := Lib.hid (by rw [← HST.out, if_pos h2])
        clear h2
        go_wp2_with fail
        go_ret
        exact ⟨by rw [HR.out]; rfl, HW1.out⟩
      · rw [decide_eq_false h2]
        have HR := HST.out
        rw [if_neg h2] at HR
        replace HR := Lib.hid HR
        clear h2
        go_wp2_with fail
        go_round
        case rel => exact ⟨k + 1, by omega, by go_num, HR, HW1⟩
        case measure => simp [intOf]; omega
    · obtain rfl : k = len := by omega
      have HR : Hid (gIdx g 0 ps = -1) := Lib.hid (by rw [← HP.out, List.drop_eq_nil_of_le (by rw [HL.out]; omega)]; rfl)
      go_wp2_with fail
      go_ret
      exact ⟨by rw [HR.out]; rfl, HW.out⟩
set_option maxRecDepth 100000 in
theorem pcont_any (a : Option Addr) (len cap : Nat) (ps : List Pl) (g : Int) (x : Nat) (w : World) (h : ReadsP w a len ps) (hq : w.cell? ⟨x, 3, none⟩ = some (.int .i64 g)) :
    Calls Try.prog 64 #[.slice a len cap, .func (.func 65) #[] #[.pointer (some ⟨x, 0, none⟩)]] w fun e w' => e = .returned (.bool (decide (∃ p ∈ ps, p.G1 = g))) ∧ Only (fun _ => False) w w' := by
  have HC := Lib.hid (pidx_any a len cap ps g x w h hq)
  have hg := gIdx_in g ps 0 (Int.le_refl _)
  have e : decide (∃ p ∈ ps, p.G1 = g) = decide (0 ≤ gIdx g 0 ps) := by
    by_cases k : ∃ p ∈ ps, p.G1 = g
    · rw [decide_eq_true k, decide_eq_true (hg.2 k)]
    · rw [decide_eq_false k, decide_eq_false (fun e => k (hg.1 e))]
  rw [e]
  clear hg e h hq
  obtain ⟨i, hi⟩ : ∃ i, gIdx g 0 ps = i := ⟨_, rfl⟩
  rw [hi] at HC ⊢
  clear hi
  go_enter Try.func64, Try.ntmps64
  go_wp2_with fail
  refine HC.out.mono ?_
  rintro _ w1 ⟨rfl, h1⟩
  have H1 := Lib.hid h1
  clear h1
  go_wp2_with fail
  go_ret
  exact ⟨by simp, H1.out⟩
/-- each has a group of its own -/
def Unl (ps : List Pl) : Prop := ∀ i, i < ps.length → ∀ j, j < i → (ps.getD j default).G1 ≠ (ps.getD i default).G1
instance (ps : List Pl) : Decidable (Unl ps) := inferInstanceAs (Decidable (∀ i, i < ps.length → ∀ j, j < i → _))
theorem has_take (ps : List Pl) (k : Nat) (h : k ≤ ps.length) (g : Int) : (∃ p ∈ ps.take k, p.G1 = g) ↔ ∃ j, j < k ∧ (ps.getD j default).G1 = g := by
  constructor
  · rintro ⟨p, hp, e⟩
    obtain ⟨j, hj, hpj⟩ := List.getElem_of_mem hp
    rw [List.length_take] at hj
    refine ⟨j, by omega, ?_⟩
    rw [List.getElem_take] at hpj
    have : ps.getD j default = p := by rw [← hpj]; simp [List.getD, show j < ps.length by omega]
    rw [this]; exact e
  · rintro ⟨j, hj, e⟩
    refine ⟨ps.getD j default, ?_, e⟩
    have hjl : j < ps.length := by omega
    have : ps.getD j default = (ps.take k)[j]'(by rw [List.length_take]; omega) := by rw [List.getElem_take]; simp [List.getD, hjl]
    rw [this]; exact List.getElem_mem _
set_option maxRecDepth 100000 in
set_option maxHeartbeats 1000000 in
theorem unlike_any (a : Option Addr) (len cap : Nat) (ps : List Pl) (w : World) (h : ReadsP w a len ps) (hcap : len ≤ cap) :
    Calls Try.prog 38 #[.slice a len cap] w fun e w' => e = .returned (.bool (decide (Unl ps))) ∧ Only (fun _ => False) w w' := by
  have hm := h.2.1
  have H := Lib.hid h
  have HL : Hid (ps.length = len) := Lib.hid h.1
  clear h
  obtain ⟨P, hP⟩ : ∃ P, decide (Unl ps) = P := ⟨_, rfl⟩
  rw [hP]
  have HPP := Lib.hid hP
  clear hP
  go_enter Try.func38, Try.ntmps38
  go_wp2_with fail
  go_loopw [7] (fun i wr => ∃ k : Nat, k ≤ len ∧ i = .int .i64 k ∧ Hid (∀ i, i < k → ∀ j, j < i → (ps.getD j default).G1 ≠ (ps.getD i default).G1) ∧ Hid (Only (fun _ => False) w wr)) (fun i _ => len - (intOf i).toNat)
  case atStart => exact ⟨0, by omega, rfl, Lib.hid (fun i hi => by omega), Lib.hid (Only.refl _ _)⟩
  case round =>
    obtain ⟨k, hk, rfl, HP, HW⟩ := hrel
    by_cases h8 : k < len
    · obtain ⟨b, off, rfl, hcell⟩ := H.out.2.2.resolve_left (by omega)
      obtain ⟨c0, c1, c2, c3, c4, c5, c6, c7, c8, c9, c10⟩ := (hcell k h8).only HW.out (fun f => f)
      have HTK := Lib.hid ((H.out.take k (by omega)).only HW.out (fun _ _ f => f))
      have HHT := Lib.hid (has_take ps k (by rw [HL.out]; omega))
      have HYES : Hid ((∃ j, j < k ∧ (ps.getD j default).G1 = (ps.getD k default).G1) → P = false) := Lib.hid (fun ⟨j, hj, e⟩ => by
        rw [← HPP.out]
        exact decide_eq_false (fun u => u k (by rw [HL.out]; exact h8) j hj e))
      have HNX : Hid (¬ (∃ j, j < k ∧ (ps.getD j default).G1 = (ps.getD k default).G1) → ∀ i, i < k + 1 → ∀ j, j < i → (ps.getD j default).G1 ≠ (ps.getD i default).G1) := Lib.hid (fun hn i hi j hj => by
        by_cases e : i = k
        · subst e; exact fun e => hn ⟨j, hj, e⟩
        · exact HP.out i (by omega) j hj)
      have hk0 : (0 : Int) ≤ k := by omega
      have hkl : (k : Int) ≤ cap := by omega
      have hkl2 : (k : Int) ≤ len := by omega
      generalize ps.getD k default = p at *
      obtain ⟨D, F, T, G1, M1, B1, G2, M2, B2, a1, a2, n1, n2, c1', c2', t1, t2⟩ := p
      dsimp only at c0 c1 c2 c3 c4 c5 c6 c7 c8 c9 c10 HYES HNX
      obtain ⟨W1, hW1⟩ : ∃ W, W = wr.alloc (.cells #[.int .i64 D, .int .i64 F, .int .i64 T, .int .i64 G1, .int .i64 M1, .int .i64 B1, .slice a1 n1 c1', .int .i64 G2, .int .i64 M2, .int .i64 B2, .slice a2 n2 c2'] 39) := ⟨_, rfl⟩
      have HO1 : Hid (Only (fun _ => False) wr W1) := Lib.hid (by rw [hW1]; exact (Only.refl _ _).alloc _)
      have HC := Lib.hid (pcont_any (some ⟨b, off, none⟩) k cap (ps.take k) G1 wr.heap.size W1 (HTK.out.only HO1.out (fun _ _ f => f)) (by rw [hW1]; exact alloc_new _ _ _ _ _ _ rfl rfl))
      clear hcell
      go_wp2_with fail
      rw [← hW1]
      clear hW1 c0 c1 c2 c3 c4 c5 c6 c7 c8 c9 c10
      refine HC.out.mono ?_
      rintro _ w2 ⟨rfl, h2⟩
      have HW2 := Lib.hid (HW.out.trans (HO1.out.trans h2))
      clear h2 HC
      by_cases hx : ∃ p ∈ ps.take k, p.G1 = G1
      · rw [decide_eq_true hx]
        have HR := Lib.hid (HYES.out ((HHT.out G1).1 hx))
        clear hx
        go_wp2_with fail
        go_ret
        exact ⟨by rw [HR.out]; rfl, HW2.out⟩
      · rw [decide_eq_false hx]
        have HR := Lib.hid (HNX.out (fun e => hx ((HHT.out G1).2 e)))
        clear hx
        go_wp2_with fail
        go_round
        case rel => exact ⟨k + 1, by omega, by go_num, HR, HW2⟩
        case measure => simp [intOf]; omega
    · obtain rfl : k = len := by omega
      have HR : Hid (P = true) := Lib.hid (by rw [← HPP.out]; exact decide_eq_true (fun i hi => HP.out i (by rw [HL.out] at hi; exact hi)))
      go_wp2_with fail
      go_ret
      exact ⟨by rw [HR.out]; rfl, HW.out⟩
end Go.Proofs.Ytghajamcjcflaaa.tirw

namespace Go.Proofs.Ytghajamcjcflaaa.tirw
open Go.RowKit mem tirm intm bigm bigw
set_option linter.unusedVariables false

/-- a row of grants of the call's own -/
def RowG (w : World) (b n : Nat) (f : Nat → Gr) : Prop := ∀ j, j < n → (w.cell? ⟨b, j * 4, none⟩ = some (.int .i64 (f j).g) ∧ w.cell? ⟨b, j * 4 + 1, none⟩ = some (.int .i64 (f j).u) ∧ w.cell? ⟨b, j * 4 + 2, none⟩ = some (.int .i64 (f j).a) ∧ w.cell? ⟨b, j * 4 + 3, none⟩ = some (.bool (f j).f)) ∧ (w.frozen? ⟨b, j * 4, none⟩ = false ∧ w.frozen? ⟨b, j * 4 + 1, none⟩ = false ∧ w.frozen? ⟨b, j * 4 + 2, none⟩ = false ∧ w.frozen? ⟨b, j * 4 + 3, none⟩ = false)
theorem RowG.only {S : Nat → Prop} {w w' : World} {b n : Nat} {f : Nat → Gr} (h : RowG w b n f) (ho : Only S w w') (hs : ¬ S b) : RowG w' b n f := fun j hj => by
  obtain ⟨⟨c0, c1, c2, c3⟩, d0, d1, d2, d3⟩ := h j hj
  have hlt : b < w.heap.size := World.block_lt_of_cell? w _ c0
  exact ⟨⟨ho.cell' c0 hs, ho.cell' c1 hs, ho.cell' c2 hs, ho.cell' c3 hs⟩, (ho.frozen (p := ⟨b, _, none⟩) hlt hs).trans d0, (ho.frozen (p := ⟨b, _, none⟩) hlt hs).trans d1, (ho.frozen (p := ⟨b, _, none⟩) hlt hs).trans d2, (ho.frozen (p := ⟨b, _, none⟩) hlt hs).trans d3⟩
theorem RowG.reads {w : World} {b n : Nat} {f : Nat → Gr} (h : RowG w b n f) : ReadsG w (some ⟨b, 0, none⟩) n ((List.range n).map f) := by
  refine ⟨by simp, .inr ⟨b, 0, rfl, fun i hi => ?_⟩⟩
  have e : ((List.range n).map f).getD i default = f i := by simp [List.getD, hi]
  rw [e, Nat.zero_add]
  exact (h i hi).1
theorem RowG.set {w : World} {b n : Nat} {f f' : Nat → Gr} (h : RowG w b n f) (k : Nat) (hk : k < n) (hf : ∀ j, j < n → j ≠ k → f' j = f j) : RowG ((((w.setCell ⟨b, k * 4, none⟩ (.int .i64 (f' k).g)).setCell ⟨b, k * 4 + 1, none⟩ (.int .i64 (f' k).u)).setCell ⟨b, k * 4 + 2, none⟩ (.int .i64 (f' k).a)).setCell ⟨b, k * 4 + 3, none⟩ (.bool (f' k).f)) b n f' := by
  intro j hj
  simp only [frozen_set]
  obtain ⟨⟨c0, c1, c2, c3⟩, hd⟩ := h j hj
  refine ⟨?_, hd⟩
  by_cases e : j = k
  · subst e
    refine ⟨?_, ?_, ?_, ?_⟩
    · rw [cell_other (off_ne (by omega)), cell_other (off_ne (by omega)), cell_other (off_ne (by omega)), cell_same c0]
    · rw [cell_other (off_ne (by omega)), cell_other (off_ne (by omega))]
      exact cell_same (by rw [cell_other (off_ne (by omega))]; exact c1)
    · rw [cell_other (off_ne (by omega))]
      exact cell_same (by rw [cell_other (off_ne (by omega)), cell_other (off_ne (by omega))]; exact c2)
    · exact cell_same (by rw [cell_other (off_ne (by omega)), cell_other (off_ne (by omega)), cell_other (off_ne (by omega))]; exact c3)
  · rw [hf j hj e]
    refine ⟨?_, ?_, ?_, ?_⟩
    all_goals rw [cell_other (off_ne (by omega)), cell_other (off_ne (by omega)), cell_other (off_ne (by omega)), cell_other (off_ne (by omega))]
    all_goals assumption
theorem info_gr : (Try.prog.info? 50).map (fun i => (i.zero, i.size, i.bytes)) = some (some (.agg #[.int .i64 0, .int .i64 0, .int .i64 0, .bool false]), 4, 32) := by kernel_rfl
theorem make_grants (n : Nat) (hn : n ≤ 1000) (w : World) : (Instr.makeSlice 41 (.int .i64 (n : Int)) (.int .i64 (n : Int))).run Try.prog w = .ok (.slice (some ⟨w.heap.size, 0, none⟩) n n) (w.alloc (.cells (madeCells #[.int .i64 0, .int .i64 0, .int .i64 0, .bool false] (n * 4)) 50)) := by
  obtain ⟨i0, hi, hz0, hz1, hz2⟩ := info_parts info_gr
  have hr := run_make (P := Try.prog) w 41 50 i0 _ Try.underlying41 hi hz0 .i64 .i64 n n (by omega) (Int.le_refl _) (by rw [hz2]; omega) (by omega)
  simp only [Int.toNat_natCast, hz1] at hr
  exact hr
theorem made_rowG (w : World) (n : Nat) : RowG (w.alloc (.cells (madeCells #[.int .i64 0, .int .i64 0, .int .i64 0, .bool false] (n * 4)) 50)) w.heap.size n (fun _ => Gr0) := by
  intro j hj
  have hc : ∀ d, d < 4 → (w.alloc (.cells (madeCells #[.int .i64 0, .int .i64 0, .int .i64 0, .bool false] (n * 4)) 50)).cell? ⟨w.heap.size, j * 4 + d, none⟩ = (#[.int .i64 0, .int .i64 0, .int .i64 0, .bool false] : Array Value)[d]? := by
    intro d hd
    rw [Go.Joins.cell_of_block (cs := madeCells #[.int .i64 0, .int .i64 0, .int .i64 0, .bool false] (n * 4)) (t := 50) (fr := (0, 0)) (by rw [heap_alloc, if_pos rfl])]
    have h1 : j * 4 + d < n * 4 := by omega
    have h2 : (j * 4 + d) % 4 = d := by omega
    simp only [madeCells, Array.getElem?_map, Array.getElem?_range, h1, if_true, Option.map_some]
    show some ((#[.int .i64 0, .int .i64 0, .int .i64 0, .bool false] : Array Value)[(j * 4 + d) % 4]!) = _
    rw [h2]
    match d, hd with
    | 0, _ => rfl
    | 1, _ => rfl
    | 2, _ => rfl
    | 3, _ => rfl
  exact ⟨⟨hc 0 (by omega), hc 1 (by omega), hc 2 (by omega), hc 3 (by omega)⟩, by simp, by simp, by simp, by simp⟩
def mixG (f g : Nat → Gr) (k j : Nat) : Gr := if j < k then f j else g j
/-- of one plan -/
def pE (p : Pl) (c u : Int) : Int := mkE p.D p.F p.T p.G1 p.M1 p.B1 p.G2 p.M2 p.B2 p.t1 p.t2 c u
def gr1 (p : Pl) (c u : Int) : Gr := if pE p c u = 9 then ⟨p.G1, 0, 0, true⟩ else mkG p.D p.F p.T p.G1 p.M1 p.B1 p.G2 p.M2 p.B2 p.t1 p.t2 c u
def mCr (ps : List Pl) (ws : List Int) (cr : Int) : Nat → Int
  | 0 => cr
  | k + 1 => mCr ps ws cr k - (gr1 (ps.getD k default) (mCr ps ws cr k) (ws.getD k 0)).a
def mGr (ps : List Pl) (ws : List Int) (cr : Int) (k : Nat) : Gr := gr1 (ps.getD k default) (mCr ps ws cr k) (ws.getD k 0)
def mEr (ps : List Pl) (ws : List Int) (cr : Int) (k : Nat) : Int := pE (ps.getD k default) (mCr ps ws cr k) (ws.getD k 0)
theorem pE_cases (p : Pl) (c u : Int) : pE p c u = 0 ∨ pE p c u = 1 ∨ pE p c u = 9 := by
  unfold pE mkE
  split
  · exact .inr (.inl rfl)
  · split
    · exact .inr (.inr rfl)
    · exact .inl rfl
theorem gr1_a (p : Pl) (c u : Int) : (gr1 p c u).a = 0 ∨ 0 ≤ (gr1 p c u).a ∧ (gr1 p c u).a ≤ c := by
  unfold gr1
  by_cases h : pE p c u = 9
  · rw [if_pos h]; exact .inl rfl
  · rw [if_neg h]
    rcases mk_cases p.D p.F p.T p.G1 p.M1 p.B1 p.G2 p.M2 p.B2 p.t1 p.t2 c u with ⟨_, e⟩ | ⟨_, n, d, e, _, _, _, h1, h2, _⟩
    · rw [e]; exact .inl rfl
    · rw [e]; exact .inr ⟨h1, h2⟩
theorem mCr_in (ps : List Pl) (ws : List Int) (cr : Int) (h : InI cr) : ∀ k, InI (mCr ps ws cr k) ∧ mCr ps ws cr k ≤ cr := by
  intro k
  induction k with
  | zero => exact ⟨h, Int.le_refl _⟩
  | succ k ih =>
    have := gr1_a (ps.getD k default) (mCr ps ws cr k) (ws.getD k 0)
    unfold InI at *
    show (_ ≤ mCr ps ws cr k - _ ∧ mCr ps ws cr k - _ ≤ _) ∧ mCr ps ws cr k - _ ≤ cr
    omega
end Go.Proofs.Ytghajamcjcflaaa.tirw

