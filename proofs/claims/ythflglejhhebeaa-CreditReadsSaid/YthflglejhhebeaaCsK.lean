/- Sessions with grants: the law's tame; the document's Same. -/
import Derived.Test.YthflglejhhebeaaCsJ
namespace Go.Proofs.Ythflglejhhebeaa.cs
open Go.RowKit mem rwg
set_option linter.unusedVariables false

/-- grants in memory of the call's own -/
def GT (w : World) (n : Nat) (gs : List Gr) (a : Option Addr) (c : Nat) (w' : World) : Prop := ReadsG w' a n gs ∧ Cp a n c ∧ (∀ y, a = some y → w.heap.size ≤ y.block ∧ y.block < w'.heap.size) ∧ Only (fun _ => False) w w'
def Tamed (i nd num dl : Int) (n : Nat) (gs : List Gr) (w : World) (e : Ending) (w' : World) : Prop := ∃ xa xc, e = .returned (.agg #[.int .i64 i, .int .i64 nd, .int .i64 num, .int .i64 dl, .slice xa (min n 6) xc]) ∧ GT w (min n 6) (gs.take 6) xa xc w'
theorem min_i (n : Nat) : min (n : Int) 6 = ((min n 6 : Nat) : Int) := by omega
set_option maxRecDepth 100000 in
set_option maxHeartbeats 8000000 in
theorem tame_any (i nd num dl : Int) (a : Option Addr) (n c : Nat) (gs : List Gr) (w : World) (h : ReadsG w a n gs) (hc : Cp a n c) : Calls Try.prog 32 #[.agg #[.int .i64 i, .int .i64 nd, .int .i64 num, .int .i64 dl, .slice a n c]] w (Tamed i nd num dl n gs w) := by
  obtain ⟨i0, hi, hz0, hz1, hz2⟩ := info_partsS info_rgr
  obtain ⟨w1, hw1⟩ : ∃ x, x = w.alloc (.cells #[.int .i64 i, .int .i64 nd, .int .i64 num, .int .i64 dl, .slice a n c] 50) := ⟨_, rfl⟩
  obtain ⟨w2, hw2⟩ : ∃ x, x = w1.alloc (.cells #[.int .i64 0, .int .i64 0, .int .i64 0, .int .i64 0, .slice none 0 0] 50) := ⟨_, rfl⟩
  obtain ⟨w3, hw3⟩ : ∃ x, x = w2.alloc (.cells #[] 92) := ⟨_, rfl⟩
  obtain ⟨g, hg⟩ : ∃ x, x = w.heap.size := ⟨_, rfl⟩
  have hg2 : g + 1 = w1.heap.size := by rw [hw1, hg]; simp
  obtain ⟨g3, hg3⟩ : ∃ x, x = w2.heap.size := ⟨_, rfl⟩
  have hg32 : g3 = g + 2 := by rw [hg3, hw2, size_alloc]; omega
  have hs3 : w3.heap.size = g + 3 := by rw [hw3, size_alloc]; omega
  obtain ⟨a0, a1, a2, a3, a4, oa⟩ := sbox hw1 hg
  obtain ⟨z0, z1, z2, z3, z4, oz⟩ := sbox hw2 hg2
  have ob : Only (fun _ => False) w2 w3 := by rw [hw3]; exact (Only.refl _ _).alloc _
  have HE0 := Lib.hid (own_empty 92 w2 hw3 hg3 (EG 92) rfl)
  have HA : Hid (w3.cell? ⟨g, 0, none⟩ = some (.int .i64 i) ∧ w3.cell? ⟨g, 1, none⟩ = some (.int .i64 nd) ∧ w3.cell? ⟨g, 2, none⟩ = some (.int .i64 num) ∧ w3.cell? ⟨g, 3, none⟩ = some (.int .i64 dl) ∧ w3.cell? ⟨g, 4, none⟩ = some (.slice a n c)) := Lib.hid ⟨(oz.trans ob).cell' a0 (fun f => f), (oz.trans ob).cell' a1 (fun f => f), (oz.trans ob).cell' a2 (fun f => f), (oz.trans ob).cell' a3 (fun f => f), (oz.trans ob).cell' a4 (fun f => f)⟩
  have HZ : Hid (w3.cell? ⟨g + 1, 0, none⟩ = some (.int .i64 0) ∧ w3.cell? ⟨g + 1, 1, none⟩ = some (.int .i64 0) ∧ w3.cell? ⟨g + 1, 2, none⟩ = some (.int .i64 0) ∧ w3.cell? ⟨g + 1, 3, none⟩ = some (.int .i64 0) ∧ w3.cell? ⟨g + 1, 4, none⟩ = some (.slice none 0 0)) := Lib.hid ⟨ob.cell' z0 (fun f => f), ob.cell' z1 (fun f => f), ob.cell' z2 (fun f => f), ob.cell' z3 (fun f => f), ob.cell' z4 (fun f => f)⟩
  have HF : Hid (w3.frozen? ⟨g, 4, none⟩ = false ∧ ∀ j, w3.frozen? ⟨g + 1, j, none⟩ = false) := Lib.hid ⟨by
    have hf : w1.frozen? ⟨g, 4, none⟩ = false := by rw [hw1]; exact sfrozen hg 4
    exact ((oz.trans ob).frozen (p := ⟨g, 4, none⟩) (by show g < _; omega) (fun f => f)).trans hf, fun j => by
    have hf : w2.frozen? ⟨g + 1, j, none⟩ = false := by rw [hw2]; exact sfrozen hg2 j
    exact (ob.frozen (p := ⟨g + 1, j, none⟩) (by show g + 1 < _; omega) (fun f => f)).trans hf⟩
  have HO3 := Lib.hid ((oa.trans oz).trans ob)
  have HS3 : Hid (w3.heap.size = g + 3 ∧ g = w.heap.size ∧ g3 = g + 2) := Lib.hid ⟨hs3, hg, hg32⟩
  have HRD := Lib.hid h
  have HL : Hid (gs.length = n) := Lib.hid h.1
  have hnc := hc.1
  have hcm := hc.2.1
  have hcn := hc.2.2
  unfold maxLen at hcm
  obtain ⟨m, hm⟩ : ∃ x, x = min n 6 := ⟨_, rfl⟩
  have hmin : min (n : Int) 6 = (m : Int) := by rw [hm]; exact min_i n
  have hmc : m ≤ c := by omega
  have hm6 : m ≤ 6 := by omega
  have hmi : (m : Int) ≤ (c : Int) := by omega
  have HTL : Hid ((gs.take 6).length = m) := Lib.hid (by rw [List.length_take, HL.out, hm]; omega)
  unfold Tamed
  rw [← hm]
  replace a4 := oz.cell' a4 (fun f => f)
  clear h hc oa oz ob a0 a1 a2 a3 z0 z1 z2 z3 z4 hg2 hg32 hs3 hm
  -- behind the append
  have HEND : Hid (∀ (v : Value) (w5 : World), Only (fun _ => False) w3 w5 → OwnR (EG 92) w5 v (gs.take 6) → (∀ q, v.ownBlock = some q → g + 2 ≤ q) → ∃ xa xc, v = .slice xa m xc ∧ ReadsG w5 xa m (gs.take 6) ∧ Cp xa m xc ∧ (∀ y, xa = some y → g + 2 ≤ y.block ∧ y.block < w5.heap.size)) := Lib.hid (fun v w5 ho hw hb => by
    unfold OwnR at hw
    rw [HTL.out] at hw
    obtain ⟨xa, xc, hv, h1, h2, h3⟩ := own_G (t := 92) hw HTL.out
    exact ⟨xa, xc, hv, h2, h1, fun y e => ⟨hb _ (h3 y e).1, (h3 y e).2⟩⟩)
  by_cases ha : a = none
  · subst ha
    obtain rfl : c = 0 := hcn rfl
    obtain rfl : n = 0 := by omega
    obtain rfl : m = 0 := by omega
    have hmin0 : min ((0 : Nat) : Int) 6 = 0 := by decide
    have hg0 : gs = [] := List.eq_nil_of_length_eq_zero HL.out
    subst hg0
    go_enter Try.func32, Try.ntmps32
    go_upto_region 1 with fail
    simp only [← hw1, ← hg, ← hw2]
    clear hw1 hg hw2
    have a4w : (w2.alloc (.cells #[] 92)).cell? ⟨g, 4, none⟩ = some (.slice none 0 0) := by rw [← hw3]; exact HA.out.2.2.2.2
    have f4w : (w2.alloc (.cells #[] 92)).frozen? ⟨g, 4, none⟩ = false := by rw [← hw3]; exact HF.out.1
    go_upto_region 2 with fail
    rw [show (min (0 : Int) 6).toNat = 0 from rfl]
    simp only [← hw3, ← hg3]
    have HRZ : Hid (ReadsG w3 (some (⟨g3, 0, none⟩ : Addr)) 0 (List.take 6 []) ∧ Cp (some (⟨g3, 0, none⟩ : Addr)) 0 0 ∧ ∀ y, (some (⟨g3, 0, none⟩ : Addr)) = some y → g + 2 ≤ y.block ∧ y.block < w3.heap.size) := Lib.hid ⟨⟨rfl, .inl rfl⟩, ⟨Nat.le_refl _, Nat.zero_le _, fun e => (by cases e)⟩, fun y e => (by cases e; have := HS3.out; exact ⟨by show g + 2 ≤ g3; omega, by show g3 < _; omega⟩)⟩
    clear hw3 hg3 a4w f4w a4
    obtain ⟨w5, hw5⟩ : ∃ x, x = w3.setCell ⟨g, 4, none⟩ (.slice (some ⟨g3, 0, none⟩) 0 0) := ⟨_, rfl⟩
    rw [← hw5]
    have ho5 : Only (fun q => q = g) w3 w5 := by rw [hw5]; exact Only.set (fun q => q = g) _ g 4 _ rfl
    have y4 : w5.cell? ⟨g, 4, none⟩ = some (.slice (some ⟨g3, 0, none⟩) 0 0) := by rw [hw5]; exact cell_same ((Only.refl (fun _ => False) w3).cell' HA.out.2.2.2.2 (fun f => f))
    have y0 : w5.cell? ⟨g, 0, none⟩ = some (.int .i64 i) := by rw [hw5, cell_other (addr_ne (by omega))]; exact (Only.refl (fun _ => False) w3).cell' HA.out.1 (fun f => f)
    have y1 : w5.cell? ⟨g, 1, none⟩ = some (.int .i64 nd) := by rw [hw5, cell_other (addr_ne (by omega))]; exact (Only.refl (fun _ => False) w3).cell' HA.out.2.1 (fun f => f)
    have y2 : w5.cell? ⟨g, 2, none⟩ = some (.int .i64 num) := by rw [hw5, cell_other (addr_ne (by omega))]; exact (Only.refl (fun _ => False) w3).cell' HA.out.2.2.1 (fun f => f)
    have y3 : w5.cell? ⟨g, 3, none⟩ = some (.int .i64 dl) := by rw [hw5, cell_other (addr_ne (by omega))]; exact (Only.refl (fun _ => False) w3).cell' HA.out.2.2.2.1 (fun f => f)
    have hne1 : ¬ g + 1 = g := by omega
    have hz0 := ho5.cell' ((Only.refl (fun _ => False) w3).cell' HZ.out.1 (fun f => f)) hne1
    have hz1 := ho5.cell' ((Only.refl (fun _ => False) w3).cell' HZ.out.2.1 (fun f => f)) hne1
    have hz2 := ho5.cell' ((Only.refl (fun _ => False) w3).cell' HZ.out.2.2.1 (fun f => f)) hne1
    have hz3 := ho5.cell' ((Only.refl (fun _ => False) w3).cell' HZ.out.2.2.2.1 (fun f => f)) hne1
    have hz4 := ho5.cell' ((Only.refl (fun _ => False) w3).cell' HZ.out.2.2.2.2 (fun f => f)) hne1
    have hzf : ∀ j, w5.frozen? ⟨g + 1, j, none⟩ = false := fun j => by
      have h1 := HS3.out.1
      have h2 := (Only.refl (fun _ => False) w3).size
      exact (ho5.frozen (p := ⟨g + 1, j, none⟩) (by show g + 1 < _; omega) hne1).trans (((Only.refl (fun _ => False) w3).frozen (p := ⟨g + 1, j, none⟩) (by show g + 1 < _; omega) (fun f => f)).trans (HF.out.2 j))
    have HO35 : Hid (Only (fun q => q = g) w3 w5) := Lib.hid (((Only.refl (fun _ => False) w3).mono (fun _ _ f => f.elim)).trans ho5)
    have HRS : Hid (ReadsG w5 (some (⟨g3, 0, none⟩ : Addr)) 0 (List.take 6 []) ∧ Cp (some (⟨g3, 0, none⟩ : Addr)) 0 0 ∧ (∀ y, (some (⟨g3, 0, none⟩ : Addr)) = some y → g + 2 ≤ y.block ∧ y.block < w5.heap.size)) := Lib.hid ⟨(HRZ.out.1).only ho5 (fun y e e2 => by have h1 := (HRZ.out.2.2 y e).1; have e2 : y.block = g := e2; omega), HRZ.out.2.1, fun y e => ⟨(HRZ.out.2.2 y e).1, Nat.lt_of_lt_of_le (HRZ.out.2.2 y e).2 ho5.size⟩⟩
    clear hw5 ho5 hne1
    go_wp2_with fail
    have z := putsR_cell (g + 1) [.int .i64 i, .int .i64 nd, .int .i64 num, .int .i64 dl, (.slice (some ⟨g3, 0, none⟩) 0 0)] 0 w5 (fun k hk => by
      have hk : k < 5 := hk
      rcases (by omega : k = 0 ∨ k = 1 ∨ k = 2 ∨ k = 3 ∨ k = 4) with rfl | rfl | rfl | rfl | rfl
      · exact ⟨_, hz0⟩
      · exact ⟨_, hz1⟩
      · exact ⟨_, hz2⟩
      · exact ⟨_, hz3⟩
      · exact ⟨_, hz4⟩)
    have x0 := z 0 _ rfl
    have x1 := z 1 _ rfl
    have x2 := z 2 _ rfl
    have x3 := z 3 _ rfl
    have x4 := z 4 _ rfl
    simp only [putsR, Nat.zero_add] at x0 x1 x2 x3 x4
    have hoW := putsR_only (g + 1) [.int .i64 i, .int .i64 nd, .int .i64 num, .int .i64 dl, (.slice (some ⟨g3, 0, none⟩) 0 0)] 0 w5
    refine bodyPost_ret (v := .agg #[.int .i64 i, .int .i64 nd, .int .i64 num, .int .i64 dl, (.slice (some ⟨g3, 0, none⟩) 0 0)]) (by simp [results, Try.results32, go_sem, x0, x1, x2, x3, x4]) rfl ⟨(some (⟨g3, 0, none⟩ : Addr)), 0, rfl, ?_⟩
    have hgw := HS3.out.2.1
    have hoW2 : Only (fun q => q = g + 1) w5 (putsR (g + 1) 0 [.int .i64 i, .int .i64 nd, .int .i64 num, .int .i64 dl, (.slice (some ⟨g3, 0, none⟩) 0 0)] w5) := hoW
    refine ⟨HRS.out.1.only hoW2 (fun y e e2 => ?_), HRS.out.2.1, fun y e => ?_, (HO3.out.then HO35.out (fun q hq e => ?_)).then hoW2 (fun q hq e => ?_)⟩
    · have h1 := (HRS.out.2.2 y e).1
      have e2 : y.block = g + 1 := e2
      omega
    · have h1 := HRS.out.2.2 y e
      exact ⟨by omega, Nat.lt_of_lt_of_le h1.2 hoW2.size⟩
    · have e : q = g := e
      omega
    · have e : q = g + 1 := e
      omega
  · obtain ⟨ad, rfl⟩ := Option.ne_none_iff_exists'.1 ha
    have HNEW : Hid (∀ w', Only (fun _ => False) w3 w' → ∀ j u, (gv (EG 0) (gs.take 6))[j]? = some u → w'.cell? (ad.add j) = some u) := Lib.hid (fun w' ho j u hu => by
      rcases Nat.eq_zero_or_pos n with e | e
      · have : gs = [] := List.eq_nil_of_length_eq_zero (by rw [HL.out]; exact e)
        subst this
        simp [gv] at hu
      · obtain ⟨b, off, e2, -⟩ := HRD.out.cells e
        injection e2 with e2
        subst e2
        have hr := (HRD.out.quiet (HO3.out.trans ho)).take (min n 6) (by omega)
        have e3 : gs.take (min n 6) = gs.take 6 := by
          rcases Nat.le_total n 6 with h | h
          · rw [Nat.min_eq_left h, List.take_of_length_le (by rw [HL.out]; exact Nat.le_refl _), List.take_of_length_le (by rw [HL.out]; exact h)]
          · rw [Nat.min_eq_right h]
        rw [e3] at hr
        exact ReadsR.news (E := EG 0) hr j u hu)
    go_enter Try.func32, Try.ntmps32
    go_upto_region 1 with fail
    simp only [← hw1, ← hg, ← hw2]
    clear hw1 hg hw2
    have a4w : (w2.alloc (.cells #[] 92)).cell? ⟨g, 4, none⟩ = some (.slice (some ad) n c) := by rw [← hw3]; exact HA.out.2.2.2.2
    have HOWN : Hid ((w2.alloc (.cells #[] 92)).ownsRow 0 92 4 (.slice (some ⟨w2.heap.size, 0, none⟩) 0 0) 0 []) := Lib.hid (by rw [← hw3, ← hg3]; exact HE0.out)
    go_wp2_with (at_builtin; refine append_mine rfl _ _ 48 rfl 92 i0 _ 4 32 Try.underlying48 hi hz0 hz1 hz2 rfl (by decide) (.slice (some ⟨w2.heap.size, 0, none⟩) 0 0) 0 [] rfl HOWN.out ad m c (gv (EG 0) (gs.take 6)) rfl ?c1 ?c2 ?c3 ?c4 ?c5 ?_)
    case c1 => rw [gv_length, HTL.out]; rfl
    case c2 => rw [← hw3]; exact HNEW.out w3 (Only.refl _ _)
    case c3 => exact gv_one _ _
    case c4 => (unfold maxLen; omega)
    case c5 => omega
    intro v4 w4 hown hgrow hkk
    rw [← hg3] at hkk
    rw [← hw3, ← hg3] at hgrow
    have hgo := Only.of_grown hgrow
    have HO4 : Hid (Only (fun q => q = g3) w3 w4) := Lib.hid (hgo.mono (fun q _ e => by
      have e3 : g3 = q := by simpa [Value.ownBlock] using e
      exact e3.symm))
    obtain ⟨xa, xc, hv, h2, h1, h3⟩ := own_G (t := 92) hown HTL.out
    have HRR : Hid (ReadsG w4 xa m (gs.take 6) ∧ Cp xa m xc ∧ (∀ y, xa = some y → g + 2 ≤ y.block ∧ y.block < w4.heap.size)) := Lib.hid ⟨h1, h2, fun y e => ⟨by
      have hs := HS3.out
      rcases hkk _ (h3 y e).1 with e2 | e2
      · have e3 : g3 = y.block := by simpa [Value.ownBlock] using e2
        omega
      · omega, (h3 y e).2⟩⟩
    subst hv
    have f4w : w4.frozen? ⟨g, 4, none⟩ = false := (HO4.out.frozen (p := ⟨g, 4, none⟩) (by have := HS3.out.1; show g < _; omega) (fun e => by have e : g = g3 := e; have := HS3.out.2.2; omega)).trans HF.out.1
    have c4w := HO4.out.cell' HA.out.2.2.2.2 (fun e => by have e : g = g3 := e; have := HS3.out.2.2; omega)
    clear hown hgrow hkk hgo h1 h2 h3 a4w HOWN HNEW a4 hw3 hg3
    go_upto_region 2 with fail
    obtain ⟨w5, hw5⟩ : ∃ x, x = w4.setCell ⟨g, 4, none⟩ (.slice xa m xc) := ⟨_, rfl⟩
    rw [← hw5]
    have ho5 : Only (fun q => q = g) w4 w5 := by rw [hw5]; exact Only.set (fun q => q = g) _ g 4 _ rfl
    have y4 : w5.cell? ⟨g, 4, none⟩ = some (.slice xa m xc) := by rw [hw5]; exact cell_same (HO4.out.cell' HA.out.2.2.2.2 (fun e => by have e : g = g3 := e; have := HS3.out.2.2; omega))
    have y0 : w5.cell? ⟨g, 0, none⟩ = some (.int .i64 i) := by rw [hw5, cell_other (addr_ne (by omega))]; exact HO4.out.cell' HA.out.1 (fun e => by have e : g = g3 := e; have := HS3.out.2.2; omega)
    have y1 : w5.cell? ⟨g, 1, none⟩ = some (.int .i64 nd) := by rw [hw5, cell_other (addr_ne (by omega))]; exact HO4.out.cell' HA.out.2.1 (fun e => by have e : g = g3 := e; have := HS3.out.2.2; omega)
    have y2 : w5.cell? ⟨g, 2, none⟩ = some (.int .i64 num) := by rw [hw5, cell_other (addr_ne (by omega))]; exact HO4.out.cell' HA.out.2.2.1 (fun e => by have e : g = g3 := e; have := HS3.out.2.2; omega)
    have y3 : w5.cell? ⟨g, 3, none⟩ = some (.int .i64 dl) := by rw [hw5, cell_other (addr_ne (by omega))]; exact HO4.out.cell' HA.out.2.2.2.1 (fun e => by have e : g = g3 := e; have := HS3.out.2.2; omega)
    have hne1 : ¬ g + 1 = g := by omega
    have hz0 := ho5.cell' (HO4.out.cell' HZ.out.1 (fun e => by have e : g + 1 = g3 := e; have := HS3.out.2.2; omega)) hne1
    have hz1 := ho5.cell' (HO4.out.cell' HZ.out.2.1 (fun e => by have e : g + 1 = g3 := e; have := HS3.out.2.2; omega)) hne1
    have hz2 := ho5.cell' (HO4.out.cell' HZ.out.2.2.1 (fun e => by have e : g + 1 = g3 := e; have := HS3.out.2.2; omega)) hne1
    have hz3 := ho5.cell' (HO4.out.cell' HZ.out.2.2.2.1 (fun e => by have e : g + 1 = g3 := e; have := HS3.out.2.2; omega)) hne1
    have hz4 := ho5.cell' (HO4.out.cell' HZ.out.2.2.2.2 (fun e => by have e : g + 1 = g3 := e; have := HS3.out.2.2; omega)) hne1
    have hzf : ∀ j, w5.frozen? ⟨g + 1, j, none⟩ = false := fun j => by
      have h1 := HS3.out.1
      have h2 := HO4.out.size
      exact (ho5.frozen (p := ⟨g + 1, j, none⟩) (by show g + 1 < _; omega) hne1).trans ((HO4.out.frozen (p := ⟨g + 1, j, none⟩) (by show g + 1 < _; omega) (fun e => by have e : g + 1 = g3 := e; have := HS3.out.2.2; omega)).trans (HF.out.2 j))
    have HO35 : Hid (Only (fun q => q = g ∨ q = g3) w3 w5) := Lib.hid ((HO4.out.mono (fun _ _ e => .inr e)).trans (ho5.mono (fun _ _ e => .inl e)))
    have HRS : Hid (ReadsG w5 xa m (gs.take 6) ∧ Cp xa m xc ∧ (∀ y, xa = some y → g + 2 ≤ y.block ∧ y.block < w5.heap.size)) := Lib.hid ⟨(HRR.out.1).only ho5 (fun y e e2 => by have h1 := (HRR.out.2.2 y e).1; have e2 : y.block = g := e2; omega), HRR.out.2.1, fun y e => ⟨(HRR.out.2.2 y e).1, Nat.lt_of_lt_of_le (HRR.out.2.2 y e).2 ho5.size⟩⟩
    clear hw5 ho5 hne1
    go_wp2_with fail
    have z := putsR_cell (g + 1) [.int .i64 i, .int .i64 nd, .int .i64 num, .int .i64 dl, (.slice xa m xc)] 0 w5 (fun k hk => by
      have hk : k < 5 := hk
      rcases (by omega : k = 0 ∨ k = 1 ∨ k = 2 ∨ k = 3 ∨ k = 4) with rfl | rfl | rfl | rfl | rfl
      · exact ⟨_, hz0⟩
      · exact ⟨_, hz1⟩
      · exact ⟨_, hz2⟩
      · exact ⟨_, hz3⟩
      · exact ⟨_, hz4⟩)
    have x0 := z 0 _ rfl
    have x1 := z 1 _ rfl
    have x2 := z 2 _ rfl
    have x3 := z 3 _ rfl
    have x4 := z 4 _ rfl
    simp only [putsR, Nat.zero_add] at x0 x1 x2 x3 x4
    have hoW := putsR_only (g + 1) [.int .i64 i, .int .i64 nd, .int .i64 num, .int .i64 dl, (.slice xa m xc)] 0 w5
    refine bodyPost_ret (v := .agg #[.int .i64 i, .int .i64 nd, .int .i64 num, .int .i64 dl, (.slice xa m xc)]) (by simp [results, Try.results32, go_sem, x0, x1, x2, x3, x4]) rfl ⟨xa, xc, rfl, ?_⟩
    have hgw := HS3.out.2.1
    have hoW2 : Only (fun q => q = g + 1) w5 (putsR (g + 1) 0 [.int .i64 i, .int .i64 nd, .int .i64 num, .int .i64 dl, (.slice xa m xc)] w5) := hoW
    refine ⟨HRS.out.1.only hoW2 (fun y e e2 => ?_), HRS.out.2.1, fun y e => ?_, (HO3.out.then HO35.out (fun q hq e => ?_)).then hoW2 (fun q hq e => ?_)⟩
    · have h1 := (HRS.out.2.2 y e).1
      have e2 : y.block = g + 1 := e2
      omega
    · have h1 := HRS.out.2.2 y e
      exact ⟨by omega, Nat.lt_of_lt_of_le h1.2 hoW2.size⟩
    · have h32 := HS3.out.2.2
      rcases e with e | e <;> omega
    · have e : q = g + 1 := e
      omega
end Go.Proofs.Ythflglejhhebeaa.cs
