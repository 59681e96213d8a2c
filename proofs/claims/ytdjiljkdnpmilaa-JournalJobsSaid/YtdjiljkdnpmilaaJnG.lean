/- The journal's copied: an entry with legs of its own. -/
import Derived.Test.YtdjiljkdnpmilaaJnF
namespace Go.Proofs.Ytdjiljkdnpmilaa.jnw
open Go.RowKit mem accm accn entw entm
set_option linter.unusedVariables false

theorem box_lt {w : World} {q g s : Nat} {v : Value} (h : w.cell? ⟨q, 0, none⟩ = some v) (h1 : w.heap.size ≤ s) (h2 : s ≤ g) : q < g := by
  have : q < w.heap.size := World.block_lt_of_cell? w _ h
  omega
theorem run_buildP (k : Int) (a : Option Addr) (n c : Nat) (w : World) : (Instr.build 25 #[(0, .int .i64 k), (1, .slice a n c)]).run Try.prog w = .ok (.agg #[.int .i64 k, .slice a n c]) w := by kernel_rfl
set_option maxRecDepth 100000 in
set_option maxHeartbeats 2000000 in
theorem copied_any (kind : Int) (b off n cap : Nat) (ls : List Lg) (w : World) (h : ReadsL w (some ⟨b, off, none⟩) n ls) (h1 : 1 ≤ n) (hm : n ≤ 1000) :
    Calls Try.prog 35 #[.agg #[.int .i64 kind, .slice (some ⟨b, off, none⟩) n cap]] w fun e w' => ∃ g cp, e = .returned (.agg #[.int .i64 kind, .slice (some ⟨g, 0, none⟩) n cp]) ∧ ReadsL w' (some ⟨g, 0, none⟩) n ls ∧ w.heap.size ≤ g ∧ Only (fun _ => False) w w' := by
  obtain ⟨w1, hw1⟩ : ∃ x, x = w.alloc (.cells #[.int .i64 kind, .slice (some ⟨b, off, none⟩) n cap] 25) := ⟨_, rfl⟩
  obtain ⟨w2, hw2⟩ : ∃ x, x = w1.alloc (.cells #[.int .i64 0, .slice none 0 0] 25) := ⟨_, rfl⟩
  obtain ⟨q1, hq1⟩ : ∃ x, x = w.heap.size := ⟨_, rfl⟩
  obtain ⟨q2, hq3⟩ : ∃ x, x = q1 + 1 := ⟨_, rfl⟩
  have hq2 : q2 = w1.heap.size := by rw [hq3, hw1, hq1]; simp
  have ha : Only (fun _ => False) w w1 := by rw [hw1]; exact (Only.refl _ _).alloc _
  have hb : Only (fun _ => False) w1 w2 := by rw [hw2]; exact (Only.refl _ _).alloc _
  have HO2 : Hid (Only (fun _ => False) w w2) := Lib.hid (ha.trans hb)
  have HQW : Hid (w.heap.size ≤ q2) := Lib.hid (by rw [hq2]; exact ha.size)
  have HS : Hid (∀ w', Only (fun _ => False) w2 w' → w'.cell? ⟨q1, 0, none⟩ = some (.int .i64 kind) ∧ w'.cell? ⟨q1, 1, none⟩ = some (.slice (some ⟨b, off, none⟩) n cap)) := Lib.hid (fun w' ho => ⟨(hb.trans ho).cell' (by rw [hw1]; exact alloc_new _ _ _ _ _ _ hq1 rfl) (fun f => f), (hb.trans ho).cell' (by rw [hw1]; exact alloc_new _ _ _ _ _ _ hq1 rfl) (fun f => f)⟩)
  have hn0 : w2.cell? ⟨q2, 0, none⟩ = some (.int .i64 0) := by rw [hw2]; exact alloc_new _ _ _ _ _ _ hq2 rfl
  have hn1 : w2.cell? ⟨q2, 1, none⟩ = some (.slice none 0 0) := by rw [hw2]; exact alloc_new _ _ _ _ _ _ hq2 rfl
  have hf0 : w2.frozen? ⟨q2, 0, none⟩ = false := by rw [hw2]; exact alloc_froz _ _ _ _ _ hq2
  have hf1 : w2.frozen? ⟨q2, 1, none⟩ = false := by rw [hw2]; exact alloc_froz _ _ _ _ _ hq2
  have hlt : q2 < w2.heap.size := World.block_lt_of_cell? w2 _ hn0
  have HQ : Hid (∀ w', Only (fun _ => False) w2 w' → w'.cell? ⟨q2, 0, none⟩ = some (.int .i64 0) ∧ w'.cell? ⟨q2, 1, none⟩ = some (.slice none 0 0) ∧ w'.frozen? ⟨q2, 0, none⟩ = false ∧ w'.frozen? ⟨q2, 1, none⟩ = false) := Lib.hid (fun w' ho =>
    ⟨ho.cell' hn0 (fun f => f), ho.cell' hn1 (fun f => f), (ho.frozen (p := ⟨q2, 0, none⟩) hlt (fun f => f)).trans hf0, (ho.frozen (p := ⟨q2, 1, none⟩) hlt (fun f => f)).trans hf1⟩)
  have HCL : Hid (∀ w', Only (fun _ => False) w2 w' → _) := Lib.hid (fun w' (ho : Only (fun _ => False) w2 w') => clone_legs b off n cap ls w' (h.only (HO2.out.trans ho) (fun _ _ f => f)) hm h1)
  have HLN : Hid (n = ls.length) := Lib.hid h.1.symm
  have HIN : Hid (∀ l ∈ ls, InL l) := Lib.hid h.2.2.1
  have hbp := run_buildP
  clear h ha hb hn0 hn1 hf0 hf1 hlt
  go_enter Try.func35, Try.ntmps35
  go_upto_region 1 with fail
  simp only [← hw1, ← hq1]
  simp only [← hw2, ← hq3]
  clear hw1 hw2 hq1 hq2 hq3
  refine wp_region_noPanic ?_
  refine late.region (fun w' => w'.cell? ⟨q1, 0, none⟩ = some (.int .i64 kind) ∧ w'.cell? ⟨q1, 1, none⟩ = some (.slice (some ⟨b, off, none⟩) n cap)) (fun j => [6].contains j) (by kernel_rfl) (HS.out _ (Only.refl _ _).drew) (fun hHeld => ?_)
  obtain ⟨z0, hz0⟩ : ∃ x, x = w2.drew := ⟨_, rfl⟩
  rw [← hz0] at hHeld ⊢
  have hot : Hid (Only (fun _ => False) w2 z0) := Lib.hid (by rw [hz0]; exact (Only.refl _ _).drew)
  clear hz0
  refine late.take (i := 0) [1, 5, 6] (v := ?_) rfl (by kernel_rfl) (by kernel_rfl) (by kernel_rfl) (by kernel_rfl) (fun _ _ _ h => h) (Or.inl ⟨by rfl, ?_⟩) (by assumption) ?_
  rotate_left 1
  · intro w' hSw
    try dsimp only at hSw
    go_simp
    try with_reducible rfl
  try simp only [List.getElem_toArray, List.getElem_cons_zero, Act.put, List.setIfInBounds_toArray, List.set_cons_zero, List.set_cons_succ]
  refine late.take (i := 1) [5, 6] (v := ?_) rfl (by kernel_rfl) (by kernel_rfl) (by kernel_rfl) (by kernel_rfl) (fun _ _ _ h => h) (Or.inl ⟨by rfl, ?_⟩) (by assumption) ?_
  rotate_left 1
  · intro w' hSw
    try dsimp only at hSw
    go_simp
    try with_reducible rfl
  try simp only [List.getElem_toArray, List.getElem_cons_zero, List.getElem_cons_succ, Act.put, List.setIfInBounds_toArray, List.set_cons_zero, List.set_cons_succ]
  refine late.take (i := 2) [3, 4, 5, 6] (v := ?_) rfl (by kernel_rfl) (by kernel_rfl) (by kernel_rfl) (by kernel_rfl) (fun _ _ _ h => h) (Or.inl ⟨by rfl, ?_⟩) (by assumption) ?_
  rotate_left 1
  · intro w' hSw
    try dsimp only at hSw
    go_simp
    try with_reducible rfl
  try simp only [List.getElem_toArray, List.getElem_cons_zero, List.getElem_cons_succ, Act.put, List.setIfInBounds_toArray, List.set_cons_zero, List.set_cons_succ]
  refine late.take (i := 3) [4, 5, 6] (v := ?_) rfl (by kernel_rfl) (by kernel_rfl) (by kernel_rfl) (by kernel_rfl) (fun _ _ _ h => h) (Or.inl ⟨by rfl, ?_⟩) (by assumption) ?_
  rotate_left 1
  · intro w' hSw
    try dsimp only at hSw
    go_simp
    try with_reducible rfl
  try simp only [List.getElem_toArray, List.getElem_cons_zero, List.getElem_cons_succ, Act.put, List.setIfInBounds_toArray, List.set_cons_zero, List.set_cons_succ]
  refine late.ready (rs := [4]) (by kernel_rfl) (by simp) ?_
  refine late.Each.cons rfl (fun K hK => ?_) late.Each.nil
  try simp only [List.getElem_toArray, List.getElem_cons_zero, List.getElem_cons_succ]
  go_simp
  go_at_call 33
  with_reducible refine (HCL.out _ hot.out).mono ?_
  rintro _ W1 ⟨g, cp, rfl, hown, hg, ho⟩
  have HOW := Lib.hid hown
  have HGQ := Lib.hid (box_lt (HQ.out w2 (Only.refl _ _)).1 hot.out.size hg)
  have HGS : Hid (w.heap.size ≤ g) := Lib.hid (by have := HO2.out.size; have := hot.out.size; omega)
  replace hot := Lib.hid (hot.out.trans ho)
  clear ho hown hg
  try dsimp only
  refine hK.out _ _ (fun _ => HS.out _ hot.out) (fun hHeld1 => ?_)
  replace hHeld1 := hHeld1 rfl
  clear hK K
  try simp only [List.getElem_toArray, List.getElem_cons_zero, List.getElem_cons_succ, Act.put, List.setIfInBounds_toArray, List.set_cons_zero, List.set_cons_succ]
  refine late.take (i := 5) [6] (v := ?_) rfl (by kernel_rfl) (by kernel_rfl) (by kernel_rfl) (by kernel_rfl) (fun _ _ _ h => h) (Or.inl ⟨by rfl, ?_⟩) (by assumption) ?_
  rotate_left 1
  · intro w' hSw
    try dsimp only at hSw
    go_simp
    try with_reducible rfl
  try simp only [List.getElem_toArray, List.getElem_cons_zero, List.getElem_cons_succ, Act.put, List.setIfInBounds_toArray, List.set_cons_zero, List.set_cons_succ]
  refine late.ready (rs := [6]) (by kernel_rfl) (by simp) ?_
  refine late.Each.cons rfl (fun K hK => ?_) late.Each.nil
  obtain ⟨e0, e1, f0, f1⟩ := HQ.out _ hot.out
  have HE := Lib.hid (set_two (x := .int .i64 kind) (y := .slice (some ⟨g, 0, none⟩) n cp) e0 e1)
  try simp only [List.getElem_toArray, List.getElem_cons_zero, List.getElem_cons_succ]
  go_simp
  refine hK.out _ _ (fun h => by cases h) (fun _ => ?_)
  clear hK K
  try simp only [List.getElem_toArray, List.getElem_cons_zero, List.getElem_cons_succ, Act.put, List.setIfInBounds_toArray, List.set_cons_zero, List.set_cons_succ]
  refine late.done (by kernel_rfl) ?_ _
  refine NoPanic.normal ?_
  have HS2 : Hid (Only (fun q => q = q2) W1 ((W1.setCell ⟨q2, 0, none⟩ (.int .i64 kind)).setCell ⟨q2, 1, none⟩ (.slice (some ⟨g, 0, none⟩) n cp))) := Lib.hid (((Only.refl (fun q => q = q2) W1).setCell (p := ⟨q2, 0, none⟩) (.inl rfl) _).setCell (p := ⟨q2, 1, none⟩) (.inl rfl) _)
  have HR : Hid (ReadsL W1 (some ⟨g, 0, none⟩) n ls) := Lib.hid (HOW.out.reads HLN.out (by have := HLN.out; omega) HIN.out)
  go_wp2_with fail
  refine bodyPost_ret (v := .agg #[.int .i64 kind, .slice (some ⟨g, 0, none⟩) n cp]) (by simp [results, Try.results35, go_sem, HE.out.1, HE.out.2]) rfl ?_
  refine ⟨g, ⟨cp, rfl⟩, ?_, HGS.out, (HO2.out.trans hot.out).then HS2.out (fun q hq e => by have := HQW.out; omega)⟩
  refine HR.out.only HS2.out (fun x hx e => ?_)
  injection hx with hx
  subst hx
  have e : g = q2 := e
  have := HGQ.out
  omega
end Go.Proofs.Ytdjiljkdnpmilaa.jnw
