/- Several texts together: JnP. -/
import Derived.Test.YtkbaafgaaiekpaaGreatPeriodActsZ1
import Derived.Test.YtkbaafgaaiekpaaGreatPeriodActsZ11
import Derived.Test.YtkbaafgaaiekpaaGreatPeriodActsZ27
import Derived.Test.YtkbaafgaaiekpaaGreatPeriodActsZ28
namespace Go.Proofs.YtkbaafgaaiekpaaGreat.jnw
open Go.RowKit mem accm accn entw entm
set_option linter.unusedVariables false

theorem imp3q {w w' : World} {p q : Nat} {a b c : Value} (h : w.cell? ⟨p, 0, none⟩ = some a ∧ w.cell? ⟨p, 1, none⟩ = some b ∧ w.cell? ⟨p, 2, none⟩ = some c) (ho : Only (fun x => x = q) w w') (hn : p ≠ q) : w'.cell? ⟨p, 0, none⟩ = some a ∧ w'.cell? ⟨p, 1, none⟩ = some b ∧ w'.cell? ⟨p, 2, none⟩ = some c :=
  ⟨ho.cell' h.1 hn, ho.cell' h.2.1 hn, ho.cell' h.2.2 hn⟩
set_option maxRecDepth 100000 in
set_option maxHeartbeats 2000000 in
theorem copiedo_any (kind : Int) (b off n cap : Nat) (ls : List Lg) (w : World) (h : ReadsL w (some ⟨b, off, none⟩) n ls) (h1 : 1 ≤ n) (hm : n ≤ 1000) :
    Calls Tryz.prog 63 #[.agg #[.int .i64 kind, .slice (some ⟨b, off, none⟩) n cap]] w fun e w' => ∃ g cp, e = .returned (.agg #[.int .i64 kind, .slice (some ⟨g, 0, none⟩) n cp]) ∧ OwnL w' (.slice (some ⟨g, 0, none⟩) n cp) ls ∧ w.heap.size ≤ g ∧ Only (fun _ => False) w w' := by
  obtain ⟨w1, hw1⟩ : ∃ x, x = w.alloc (.cells #[.int .i64 kind, .slice (some ⟨b, off, none⟩) n cap] 67) := ⟨_, rfl⟩
  obtain ⟨w2, hw2⟩ : ∃ x, x = w1.alloc (.cells #[.int .i64 0, .slice none 0 0] 67) := ⟨_, rfl⟩
  obtain ⟨q1, hq1⟩ : ∃ x, x = w.heap.size := ⟨_, rfl⟩
  obtain ⟨q2, hq3⟩ : ∃ x, x = q1 + 1 := ⟨_, rfl⟩
  have hq2 : q2 = w1.heap.size := by rw [hq3, hw1, hq1]; simp
  have ha : Only (fun _ => False) w w1 := by rw [hw1]; exact (Only.refl _ _).alloc _
  have hb : Only (fun _ => False) w1 w2 := by rw [hw2]; exact (Only.refl _ _).alloc _
  have HO2 : Hid (Only (fun _ => False) w w2) := Lib.hid (ha.trans hb)
  have HQW : Hid (w.heap.size ≤ q2) := Lib.hid (by rw [hq2]; exact ha.size)
  have HS : Hid (∀ w', Only (fun _ => False) w2 w' → w'.cell? ⟨q1, 0, none⟩ = some (.int .i64 kind) ∧ w'.cell? ⟨q1, 1, none⟩ = some (.slice (some ⟨b, off, none⟩) n cap)) := Lib.hid (fun w' ho => ⟨(hb.trans ho).cell' (by rw [hw1]; exact alloc_new _ _ _ _ _ _ hq1 rfl) (fun f => f), (hb.trans ho).cell' (by rw [hw1]; exact alloc_new _ _ _ _ _ _ hq1 rfl) (fun f => f)⟩)
  have hn0 : w2.cell? ⟨q2, 0, none⟩ = some (.int .i64 0) := by rw [hw2]; exact alloc_new _ _ _ _ _ _ hq2 rfl
  have hn1 : w2.cell? ⟨q2, 1, none⟩ = some (.slice none 0 0) := by rw [hw2]; exact alloc_new _ _ _ _ _ _ hq2 rfl
  have hf0 : w2.frozen? ⟨q2, 0, none⟩ = false := by rw [hw2]; exact alloc_froz _ _ _ _ _ hq2
  have hf1 : w2.frozen? ⟨q2, 1, none⟩ = false := by rw [hw2]; exact alloc_froz _ _ _ _ _ hq2
  have hlt : q2 < w2.heap.size := World.block_lt_of_cell? w2 _ hn0
  have HQ : Hid (∀ w', Only (fun _ => False) w2 w' → w'.cell? ⟨q2, 0, none⟩ = some (.int .i64 0) ∧ w'.cell? ⟨q2, 1, none⟩ = some (.slice none 0 0) ∧ w'.frozen? ⟨q2, 0, none⟩ = false ∧ w'.frozen? ⟨q2, 1, none⟩ = false) := Lib.hid (fun w' ho =>
    ⟨ho.cell' hn0 (fun f => f), ho.cell' hn1 (fun f => f), (ho.frozen (p := ⟨q2, 0, none⟩) hlt (fun f => f)).trans hf0, (ho.frozen (p := ⟨q2, 1, none⟩) hlt (fun f => f)).trans hf1⟩)
  have HCL : Hid (∀ w', Only (fun _ => False) w2 w' → _) := Lib.hid (fun w' (ho : Only (fun _ => False) w2 w') => clone_legs b off n cap ls w' (h.only (HO2.out.trans ho) (fun _ _ f => f)) hm h1)
  have HLN : Hid (n = ls.length) := Lib.hid h.1.symm
  have HIN : Hid (∀ l ∈ ls, InL l) := Lib.hid h.2.2.1
  have hbp := run_buildP
  clear h ha hb hn0 hn1 hf0 hf1 hlt
  go_enter Tryz.func63, Tryz.ntmps63
  go_upto_region 1 with fail
  simp only [← hw1, ← hq1]
  simp only [← hw2, ← hq3]
  clear hw1 hw2 hq1 hq2 hq3
  refine wp_region_noPanic ?_
  refine late.region (fun w' => w'.cell? ⟨q1, 0, none⟩ = some (.int .i64 kind) ∧ w'.cell? ⟨q1, 1, none⟩ = some (.slice (some ⟨b, off, none⟩) n cap)) (fun j => [6].contains j) (by kernel_rfl) (HS.out _ (Only.refl _ _).drew) (fun hHeld => ?_)
  obtain ⟨z0, hz0⟩ : ∃ x, x = w2.drew := ⟨_, rfl⟩
  rw [← hz0] at hHeld ⊢
  have hot : Hid (Only (fun _ => False) w2 z0) := Lib.hid (by rw [hz0]; exact (Only.refl _ _).drew)
  clear hz0
  refine sho.lt 0 [1, 5, 6] ?_
  refine sho.lt 1 [5, 6] ?_
  refine sho.lt 2 [3, 4, 5, 6] ?_
  refine sho.lt 3 [4, 5, 6] ?_
  refine late.ready (rs := [4]) (by kernel_rfl) (by simp) ?_
  refine late.Each.cons rfl (fun K hK => ?_) late.Each.nil
  try simp only [List.getElem_toArray, List.getElem_cons_zero, List.getElem_cons_succ]
  go_simp
  go_at_call 91
  with_reducible refine (HCL.out _ hot.out).mono ?_
  rintro _ W1 ⟨g, cp, rfl, hown, hg, ho⟩
  have HOW := Lib.hid hown
  have HGQ := Lib.hid (box_lt (HQ.out w2 (Only.refl _ _)).1 hot.out.size hg)
  have HGS : Hid (w.heap.size ≤ g) := Lib.hid (by have := HO2.out.size; have := hot.out.size; omega)
  replace hot := Lib.hid (hot.out.trans ho)
  clear ho hown hg
  try dsimp only
  refine hK.out _ _ (fun _ => HS.out _ hot.out) (fun hHeld1 => ?_)
  replace hHeld1 := hHeld1 rfl
  clear hK K
  try simp only [List.getElem_toArray, List.getElem_cons_zero, List.getElem_cons_succ, Act.put, List.setIfInBounds_toArray, List.set_cons_zero, List.set_cons_succ]
  refine sho.lt 5 [6] ?_
  refine late.ready (rs := [6]) (by kernel_rfl) (by simp) ?_
  refine late.Each.cons rfl (fun K hK => ?_) late.Each.nil
  obtain ⟨e0, e1, f0, f1⟩ := HQ.out _ hot.out
  have HE := Lib.hid (set_two (x := .int .i64 kind) (y := .slice (some ⟨g, 0, none⟩) n cp) e0 e1)
  try simp only [List.getElem_toArray, List.getElem_cons_zero, List.getElem_cons_succ]
  go_simp
  refine hK.out _ _ (fun h => by cases h) (fun _ => ?_)
  clear hK K
  try simp only [List.getElem_toArray, List.getElem_cons_zero, List.getElem_cons_succ, Act.put, List.setIfInBounds_toArray, List.set_cons_zero, List.set_cons_succ]
  refine late.done (by kernel_rfl) ?_ _
  refine NoPanic.normal ?_
  have HS2 : Hid (Only (fun q => q = q2) W1 ((W1.setCell ⟨q2, 0, none⟩ (.int .i64 kind)).setCell ⟨q2, 1, none⟩ (.slice (some ⟨g, 0, none⟩) n cp))) := Lib.hid (((Only.refl (fun q => q = q2) W1).setCell (p := ⟨q2, 0, none⟩) (.inl rfl) _).setCell (p := ⟨q2, 1, none⟩) (.inl rfl) _)
  go_wp2_with fail
  refine bodyPost_ret (v := .agg #[.int .i64 kind, .slice (some ⟨g, 0, none⟩) n cp]) (by simp [results, Tryz.results63, go_sem, HE.out.1, HE.out.2]) rfl ?_
  refine ⟨g, cp, rfl, ?_, HGS.out, (HO2.out.trans hot.out).then HS2.out (fun q hq e => by have := HQW.out; omega)⟩
  refine HOW.out.only HS2.out (fun x hx e => ?_)
  have hx : g = x := by simpa [Value.ownBlock] using hx
  have := HGQ.out
  omega
set_option maxRecDepth 100000 in
set_option maxHeartbeats 4000000 in
theorem at_any {S : Nat → Prop} (p op : Nat) (v : Value) (m : Option Nat) (nn : Nat) (C : Ac → Option (List Int)) (L : List Ps) (i : Nat) (hi : i < L.length) (kd : Int) (g0 n c0 per : Nat) (ls : List Lg) (hx : L.getD i default = ⟨kd, g0, n, c0, per, ls⟩) (w : World) (h : JnAt S w p v op m nn C L) :
    Calls Tryz.prog 26 #[.pointer (some ⟨p, 0, none⟩), .int .i64 (i : Int)] w fun e w' => ∃ g cp, e = .returned (.tuple #[.agg #[.int .i64 kd, .slice (some ⟨g, 0, none⟩) n cp], .int .i64 (per : Int), .int .i64 0]) ∧ OwnL w' (.slice (some ⟨g, 0, none⟩) n cp) ls ∧ w.heap.size ≤ g ∧ Only (fun _ => False) w w' := by
  have hlen := h.len
  have hmem : L.getD i default ∈ L := by rw [List.getD_eq_getElem?_getD, List.getElem?_eq_getElem hi]; exact List.getElem_mem hi
  have hps := h.pl _ hmem
  have hpl := hps.len
  rw [hx] at hps hpl
  have hrd : ReadsL w (some ⟨g0, 0, none⟩) n ls := hps.1
  have hpl : 2 ≤ n ∧ n ≤ 64 := hpl
  obtain ⟨a, cap, rfl, -, -, hr, -⟩ := h.own.reads
  obtain ⟨gr, rfl, hc⟩ := hr.2.resolve_left (by omega)
  obtain ⟨d0, d1, d2⟩ := hc i hi
  rw [hx] at d0 d1 d2
  dsimp only at d0 d1 d2
  obtain ⟨w1, hw1⟩ : ∃ x, x = w.alloc (.cells #[.int .i64 0, .slice none 0 0] 67) := ⟨_, rfl⟩
  obtain ⟨w2, hw2⟩ : ∃ x, x = w1.alloc (.cells #[.int .i64 kd, .slice (some ⟨g0, 0, none⟩) n c0, .int .i64 (per : Int)] 103) := ⟨_, rfl⟩
  obtain ⟨q4, hq4⟩ : ∃ x, x = w.heap.size := ⟨_, rfl⟩
  obtain ⟨q7, hq3⟩ : ∃ x, x = q4 + 1 := ⟨_, rfl⟩
  have hq7 : q7 = w1.heap.size := by rw [hq3, hw1, hq4]; simp
  have ha : Only (fun _ => False) w w1 := by rw [hw1]; exact (Only.refl _ _).alloc _
  have hb : Only (fun _ => False) w1 w2 := by rw [hw2]; exact (Only.refl _ _).alloc _
  have HO2 : Hid (Only (fun _ => False) w w2) := Lib.hid (ha.trans hb)
  have HQW : Hid (w.heap.size ≤ q4) := Lib.hid (by omega)
  have HNE : Hid (q7 ≠ q4) := Lib.hid (by omega)
  have HS : Hid (∀ w', Only (fun _ => False) w2 w' → w'.cell? ⟨q7, 0, none⟩ = some (.int .i64 kd) ∧ w'.cell? ⟨q7, 1, none⟩ = some (.slice (some ⟨g0, 0, none⟩) n c0) ∧ w'.cell? ⟨q7, 2, none⟩ = some (.int .i64 (per : Int))) := Lib.hid (fun w' ho => ⟨ho.cell' (by rw [hw2]; exact alloc_new _ _ _ _ _ _ hq7 rfl) (fun f => f), ho.cell' (by rw [hw2]; exact alloc_new _ _ _ _ _ _ hq7 rfl) (fun f => f), ho.cell' (by rw [hw2]; exact alloc_new _ _ _ _ _ _ hq7 rfl) (fun f => f)⟩)
  have hn0 : w1.cell? ⟨q4, 0, none⟩ = some (.int .i64 0) := by rw [hw1]; exact alloc_new _ _ _ _ _ _ hq4 rfl
  have hn1 : w1.cell? ⟨q4, 1, none⟩ = some (.slice none 0 0) := by rw [hw1]; exact alloc_new _ _ _ _ _ _ hq4 rfl
  have hf0 : w1.frozen? ⟨q4, 0, none⟩ = false := by rw [hw1]; exact alloc_froz _ _ _ _ _ hq4
  have hf1 : w1.frozen? ⟨q4, 1, none⟩ = false := by rw [hw1]; exact alloc_froz _ _ _ _ _ hq4
  have hlt : q4 < w1.heap.size := World.block_lt_of_cell? w1 _ hn0
  have HQ : Hid (∀ w', Only (fun _ => False) w2 w' → w'.cell? ⟨q4, 0, none⟩ = some (.int .i64 0) ∧ w'.cell? ⟨q4, 1, none⟩ = some (.slice none 0 0) ∧ w'.frozen? ⟨q4, 0, none⟩ = false ∧ w'.frozen? ⟨q4, 1, none⟩ = false) := Lib.hid (fun w' ho =>
    ⟨(hb.trans ho).cell' hn0 (fun f => f), (hb.trans ho).cell' hn1 (fun f => f), ((hb.trans ho).frozen (p := ⟨q4, 0, none⟩) hlt (fun f => f)).trans hf0, ((hb.trans ho).frozen (p := ⟨q4, 1, none⟩) hlt (fun f => f)).trans hf1⟩)
  have HCL : Hid (∀ w', Only (fun _ => False) w2 w' → _) := Lib.hid (fun w' (ho : Only (fun _ => False) w2 w') => copiedo_any kd g0 0 n c0 ls w' (hrd.only (HO2.out.trans ho) (fun _ _ f => f)) (by omega) (by omega))
  have e0 : w1.cell? ⟨p, 0, none⟩ = some (.slice (some ⟨gr, 0, none⟩) L.length cap) := ha.cell' h.jc.c0 (fun f => f)
  have e1 : w1.cell? ⟨gr, i * 3, none⟩ = some (.int .i64 kd) := ha.cell' d0 (fun f => f)
  have e2 : w1.cell? ⟨gr, i * 3 + 1, none⟩ = some (.slice (some ⟨g0, 0, none⟩) n c0) := ha.cell' d1 (fun f => f)
  have e3 : w1.cell? ⟨gr, i * 3 + 2, none⟩ = some (.int .i64 (per : Int)) := ha.cell' d2 (fun f => f)
  have k0 : ¬ (i : Int) < 0 := by omega
  have k1 : ¬ (L.length : Int) ≤ (i : Int) := by omega
  have k2 : (i : Int) < (L.length : Int) := by omega
  have k3 : (0 : Int) ≤ (i : Int) := by omega
  clear h hx hmem hps hpl hrd hr hc d0 d1 d2 ha hb hn0 hn1 hf0 hf1 hlt
  go_enter Tryz.func26, Tryz.ntmps26
  rw [hw1] at e0 e1 e2 e3
  go_upto_region 6 with fail
  simp only [← hw1, ← hq4]
  simp only [← hw2, ← hq3]
  clear hw1 hw2 hq4 hq3 hq7 e0 e1 e2 e3 k0 k1 k2 k3
  refine wp_region_noPanic ?_
  refine late.region (fun w' => w'.cell? ⟨q7, 0, none⟩ = some (.int .i64 kd) ∧ w'.cell? ⟨q7, 1, none⟩ = some (.slice (some ⟨g0, 0, none⟩) n c0) ∧ w'.cell? ⟨q7, 2, none⟩ = some (.int .i64 (per : Int))) (fun j => [].contains j) (by kernel_rfl) (HS.out _ (Only.refl _ _).drew) (fun hHeld => ?_)
  obtain ⟨z0, hz0⟩ : ∃ x, x = w2.drew := ⟨_, rfl⟩
  rw [← hz0] at hHeld ⊢
  have hot : Hid (Only (fun _ => False) w2 z0) := Lib.hid (by rw [hz0]; exact (Only.refl _ _).drew)
  clear hz0
  refine sho.lt 0 [1, 2, 5, 6, 7] ?_
  refine sho.lt 1 [2, 5, 6, 7] ?_
  refine sho.lt 3 [4, 6, 7] ?_
  refine sho.lt 4 [6, 7] ?_
  refine late.ready (rs := [2]) (by kernel_rfl) (by simp) ?_
  refine late.Each.cons rfl (fun K hK => ?_) late.Each.nil
  try simp only [List.getElem_toArray, List.getElem_cons_zero, List.getElem_cons_succ]
  go_simp
  go_at_call 63
  with_reducible refine (HCL.out _ hot.out).mono ?_
  rintro _ W1 ⟨g, cp, rfl, hown, hg, ho⟩
  have HOW := Lib.hid hown
  have HGQ := Lib.hid (box_lt (HQ.out w2 (Only.refl _ _)).1 hot.out.size hg)
  have HGS : Hid (w.heap.size ≤ g) := Lib.hid (by have := HO2.out.size; have := hot.out.size; omega)
  replace hot := Lib.hid (hot.out.trans ho)
  clear ho hown hg
  try dsimp only
  refine hK.out _ _ (fun _ => HS.out _ hot.out) (fun hHeld1 => ?_)
  replace hHeld1 := hHeld1 rfl
  clear hK K
  try simp only [List.getElem_toArray, List.getElem_cons_zero, List.getElem_cons_succ, Act.put, List.setIfInBounds_toArray, List.set_cons_zero, List.set_cons_succ]
  refine late.ready (rs := [5]) (by kernel_rfl) (by simp) ?_
  refine late.Each.cons rfl (fun K hK => ?_) late.Each.nil
  try simp only [List.getElem_toArray, List.getElem_cons_zero, List.getElem_cons_succ]
  go_simp
  obtain ⟨e0, e1, f0, f1⟩ := HQ.out _ hot.out
  have HE := Lib.hid (set_two (x := .int .i64 kd) (y := .slice (some ⟨g, 0, none⟩) n cp) e0 e1)
  have HS2 : Hid (Only (fun q => q = q4) W1 ((W1.setCell ⟨q4, 0, none⟩ (.int .i64 kd)).setCell ⟨q4, 1, none⟩ (.slice (some ⟨g, 0, none⟩) n cp))) := Lib.hid (((Only.refl (fun q => q = q4) W1).setCell (p := ⟨q4, 0, none⟩) (.inl rfl) _).setCell (p := ⟨q4, 1, none⟩) (.inl rfl) _)
  have HSS := Lib.hid (imp3q (HS.out _ hot.out) HS2.out HNE.out)
  go_simp
  refine hK.out _ _ (fun _ => HSS.out) (fun hHeld2 => ?_)
  replace hHeld2 := hHeld2 rfl
  clear hK K
  try simp only [List.getElem_toArray, List.getElem_cons_zero, List.getElem_cons_succ, Act.put, List.setIfInBounds_toArray, List.set_cons_zero, List.set_cons_succ]
  refine sho.lt 6 [7] ?_
  refine sho.lt 7 [] ?_
  refine late.done (by kernel_rfl) ?_ _
  refine NoPanic.normal ?_
  go_wp2_with fail
  refine bodyPost_ret (v := .tuple #[.agg #[.int .i64 kd, .slice (some ⟨g, 0, none⟩) n cp], .int .i64 (per : Int), .int .i64 0]) (by simp [results, Tryz.results26, go_sem, HE.out.1, HE.out.2]) rfl ?_
  refine ⟨g, cp, rfl, ?_, HGS.out, (HO2.out.trans hot.out).then HS2.out (fun q hq e => by have := HQW.out; omega)⟩
  refine HOW.out.only HS2.out (fun x hx e => ?_)
  have hx : g = x := by simpa [Value.ownBlock] using hx
  have := HGQ.out
  omega
end Go.Proofs.YtkbaafgaaiekpaaGreat.jnw
