/- What both slots have: the program's read. -/
import Derived.Test.YtcbpgplmphgcgaaSnG
import Derived.Test.YtcbpgplmphgcgaaHeldL
import Derived.Deep.RegionHeld3
namespace Go.Proofs.Ytcbpgplmphgcgaa.snw
open Go.RowKit mem snm crcm dskw
set_option linter.unusedVariables false

def bx4 (w w1 : World) (g : Nat) (x0 x1 x2 x3 : Value) : Prop := w1.cell? ⟨g, 0, none⟩ = some x0 ∧ w1.cell? ⟨g, 1, none⟩ = some x1 ∧ w1.cell? ⟨g, 2, none⟩ = some x2 ∧ w1.cell? ⟨g, 3, none⟩ = some x3 ∧ (∀ j, w1.frozen? ⟨g, j, none⟩ = false)
theorem bx4_new {w w1 : World} {g : Nat} {t : TypeId} {x0 x1 x2 x3 : Value} (hw : w1 = w.alloc (.cells #[x0, x1, x2, x3] t)) (hg : g = w.heap.size) : bx4 w w1 g x0 x1 x2 x3 ∧ Only (fun _ => False) w w1 := by
  subst hw hg
  have h : ∀ k u, (#[x0, x1, x2, x3] : Array Value)[k]? = some u → (w.alloc (.cells #[x0, x1, x2, x3] t)).cell? ⟨w.heap.size, k, none⟩ = some u := fun k u hu => by
    rw [Go.Joins.cell_of_block (cs := #[x0, x1, x2, x3]) (t := t) (fr := (0, 0)) (by rw [heap_alloc, if_pos rfl])]; exact hu
  refine ⟨⟨h 0 _ rfl, h 1 _ rfl, h 2 _ rfl, h 3 _ rfl, fun j => ?_⟩, (Only.refl _ w).alloc _⟩
  have e : (w.alloc (.cells #[x0, x1, x2, x3] t)).heap[w.heap.size]? = some (.cells #[x0, x1, x2, x3] t) := by rw [heap_alloc, if_pos rfl]
  unfold World.frozen?
  dsimp only
  rw [e]
  simp
theorem bx4.only {S : Nat → Prop} {w0 w w' : World} {g : Nat} {x0 x1 x2 x3 : Value} (h : bx4 w0 w g x0 x1 x2 x3) (ho : Only S w w') (hs : ¬ S g) : bx4 w0 w' g x0 x1 x2 x3 :=
  ⟨ho.cell' h.1 hs, ho.cell' h.2.1 hs, ho.cell' h.2.2.1 hs, ho.cell' h.2.2.2.1 hs, fun j => (ho.frozen (p := ⟨g, j, none⟩) (World.block_lt_of_cell? w ⟨g, 0, none⟩ h.1) hs).trans (h.2.2.2.2 j)⟩
/-- four cells of a box, set one behind the other -/
def put4 (w : World) (g : Nat) (x0 x1 x2 x3 : Value) : World := (((w.setCell ⟨g, 0, none⟩ x0).setCell ⟨g, 1, none⟩ x1).setCell ⟨g, 2, none⟩ x2).setCell ⟨g, 3, none⟩ x3
theorem put4_facts {w w0 : World} {g : Nat} {x0 x1 x2 x3 u0 u1 u2 u3 : Value} (h : bx4 w0 w g u0 u1 u2 u3) : bx4 w0 (put4 w g x0 x1 x2 x3) g x0 x1 x2 x3 ∧ Only (fun q => q = g) w (put4 w g x0 x1 x2 x3) := by
  obtain ⟨h0, h1, h2, h3, hf⟩ := h
  have ne : ∀ {i j : Nat}, i ≠ j → (⟨g, i, none⟩ : Addr) ≠ ⟨g, j, none⟩ := fun h e => h (by injection e)
  unfold put4
  refine ⟨⟨?_, ?_, ?_, ?_, fun j => ?_⟩, ((((Only.set (fun q => q = g) w g 0 x0 rfl).trans (Only.set (fun q => q = g) _ g 1 x1 rfl)).trans (Only.set (fun q => q = g) _ g 2 x2 rfl)).trans (Only.set (fun q => q = g) _ g 3 x3 rfl))⟩
  · rw [cell_other (ne (by omega)), cell_other (ne (by omega)), cell_other (ne (by omega))]; exact cell_same h0
  · rw [cell_other (ne (by omega)), cell_other (ne (by omega))]; exact cell_same (by rw [cell_other (ne (by omega))]; exact h1)
  · rw [cell_other (ne (by omega))]; exact cell_same (by rw [cell_other (ne (by omega)), cell_other (ne (by omega))]; exact h2)
  · exact cell_same (by rw [cell_other (ne (by omega)), cell_other (ne (by omega)), cell_other (ne (by omega))]; exact h3)
  · rw [frozen_set, frozen_set, frozen_set, frozen_set]; exact hf j
/-- both slots, in memory -/
def SlB (w : World) (P Q : Nat × List Nat) (e : Ending) (w' : World) : Prop := ∃ va vc vb vd, e = .returned (.tuple #[.agg #[.int .i64 (P.1 : Int), .slice va P.2.length vc, .int .i64 (Q.1 : Int), .slice vb Q.2.length vd], .int .i64 0]) ∧ OwnB w' (.slice va P.2.length vc) P.2 ∧ OwnB w' (.slice vb Q.2.length vd) Q.2 ∧ (∀ y, va = some y → w.heap.size ≤ y.block) ∧ (∀ y, vb = some y → w.heap.size ≤ y.block) ∧ Only (fun _ => False) w w'
def slotL (L : Nat → List Nat) (C : Nat → Option (List Nat)) (first size odd : Nat) : Nat × List Nat := parse (secs (cur L C) (first + odd * size) size) odd
set_option maxRecDepth 100000 in
set_option maxHeartbeats 4000000 in
theorem sread_yes (p bl bm n : Nat) (L : Nat → List Nat) (C : Nat → Option (List Nat)) (cut : Int) (first size : Nat) (w : World) (h : DskAt w p bl bm n L C cut false) (hin : first + 2 * size ≤ n) (hs : 1 ≤ size) :
    Calls Try.prog 66 #[.pointer (some ⟨p, 0, none⟩), .int .i64 (first : Int), .int .i64 (size : Int)] w (SlB w (slotL L C first size 0) (slotL L C first size 1)) := by
  have hn2 := h.n2
  have HW := Lib.hid (within_any p bl bm n L C cut false (first : Int) (size : Int) w h (by omega))
  rw [decide_eq_true (show WIn n (first : Int) (size : Int) from ⟨by omega, by omega, by omega⟩)] at HW
  have HSE : Hid (∀ i, i < n → Sec (cur L C i)) := Lib.hid (fun i hi => h.cur i hi)
  obtain ⟨half, hhalf⟩ : ∃ x, size * 64 = x := ⟨_, rfl⟩
  have hh1 : 64 ≤ half := by omega
  have hh2 : half ≤ 262144 := by omega
  have h2s : IntKind.i64.wrap (2 * (size : Int)) = ((2 * size : Nat) : Int) := by rw [IntKind.wrap_i64]; omega
  have h64s : IntKind.i64.wrap ((size : Int) * 64) = (half : Int) := by rw [IntKind.wrap_i64]; omega
  have h64t : (size : Int) * 64 = (half : Int) := by omega
  obtain ⟨w1, hw1⟩ : ∃ x, x = w.alloc (.cells #[.int .i64 0, .slice none 0 0, .int .i64 0, .slice none 0 0] 120) := ⟨_, rfl⟩
  obtain ⟨g, hg⟩ : ∃ x, x = w.heap.size := ⟨_, rfl⟩
  obtain ⟨hb, hal⟩ := bx4_new hw1 hg
  have HB0 := Lib.hid hb
  have HO1 := Lib.hid hal
  have HG := Lib.hid hg
  have HD1 := Lib.hid (h.only hal (fun f => f) (fun f => f) (fun f => f))
  have HW1 := Lib.hid (within_any p bl bm n L C cut false (first : Int) (size : Int) w1 HD1.out (by omega))
  rw [decide_eq_true (show WIn n (first : Int) (size : Int) from ⟨by omega, by omega, by omega⟩)] at HW1
  have HRD := Lib.hid (read_yes p bl bm n L C cut first (2 * size) hin w1 HD1.out)
  obtain ⟨A, hA⟩ : ∃ x, secs (cur L C) first size = x := ⟨_, rfl⟩
  obtain ⟨B, hB⟩ : ∃ x, secs (cur L C) (first + size) size = x := ⟨_, rfl⟩
  have hsec : secs (cur L C) first (2 * size) = A ++ B := by rw [show 2 * size = size + size by omega, secs_add, hA, hB]
  have hAl : A.length = half := by rw [← hA, ← hhalf]; exact (secs_len (fun i h1 h2 => HSE.out i (by omega))).1
  have hBl : B.length = half := by rw [← hB, ← hhalf]; exact (secs_len (fun i h1 h2 => HSE.out i (by omega))).1
  rw [hsec] at HRD
  have HPQ : Hid (slotL L C first size 0 = parse A 0 ∧ slotL L C first size 1 = parse B 1) := Lib.hid (by unfold slotL; rw [Nat.zero_mul, Nat.one_mul, Nat.add_zero, hA, hB]; exact ⟨rfl, rfl⟩)
  rw [HPQ.out.1, HPQ.out.2]
  have HLL : Hid (A.length = half ∧ B.length = half) := Lib.hid ⟨hAl, hBl⟩
  clear h hb hal hA hB hsec hAl hBl HW HPQ HSE
  go_enter Try.func66, Try.ntmps66
  go_upto_region 1 with fail
  simp only [← hw1, ← hg]
  clear hw1 hg
  go_wp2_with fail
  refine HW1.out.mono ?_
  rintro _ _ ⟨rfl, rfl⟩
  go_wp2_with fail
  refine HRD.out.mono ?_
  rintro _ w3 ⟨g3, c3, rfl, hown, ho, hg3⟩
  obtain ⟨g3', c3', hv3, -, hc3, hm3⟩ := hown.form (by intro e; have := HLL.out.1; rw [List.append_eq_nil_iff.1 e |>.1] at this; simp at this; omega)
  injection hv3 with e1 _ e3
  injection e1 with e1
  injection e1 with e1 _
  subst e1 e3
  unfold maxLen at hm3
  have hl3 : (A ++ B).length = 2 * half := by rw [List.length_append, HLL.out.1, HLL.out.2]; omega
  have HRR := Lib.hid (hown.reads rfl)
  rw [hl3] at hc3 HRR ⊢
  have HO13 := Lib.hid ho
  have HO3 : Hid (Only (fun _ => False) w w3) := Lib.hid (HO1.out.trans ho)
  have HB1 := Lib.hid (HB0.out.only ho (fun f => f))
  have HRA : Hid (Reads w3 (some ⟨g3, 0, none⟩) half A) := Lib.hid (by
    have := HRR.out.take half (by omega)
    rwa [List.take_left' HLL.out.1] at this)
  have HRB : Hid (Reads w3 (some ⟨g3, 0 + half, none⟩) (2 * half - half) B) := Lib.hid (by
    have := codw.Reads.drop HRR.out half (by omega)
    rwa [List.drop_left' HLL.out.1] at this)
  have HC0 : Hid (∀ w', Only (fun _ => False) w3 w' → Calls Try.prog 82 #[.slice (some ⟨g3, 0, none⟩) half c3, .int .i64 0] w' (SlR w' (parse A 0))) := Lib.hid (fun w' h => parse_any g3 0 half c3 0 A w' (HRA.out.only h (fun _ _ f => f)) (by omega) (by omega) (by omega) hh1 (by omega))
  have HC1 : Hid (∀ w', Only (fun _ => False) w3 w' → Calls Try.prog 82 #[.slice (some ⟨g3, half, none⟩) half (c3 - half), .int .i64 1] w' (SlR w' (parse B 1))) := Lib.hid (fun w' h => by
    have := parse_any g3 (0 + half) (2 * half - half) (c3 - half) 1 B w' (HRB.out.only h (fun _ _ f => f)) (by omega) (by omega) (by omega) (by omega) (by omega)
    rwa [Nat.zero_add, show 2 * half - half = half by omega] at this)
  have hgw : g < w3.heap.size := World.block_lt_of_cell? w3 ⟨g, 0, none⟩ HB1.out.1
  have hne : ¬ c3 = half := by omega
  have h2h : 2 * half - half = half := by omega
  have hcc : (half : Int) ≤ c3 := by omega
  have hcl : (half : Int) ≤ 2 * (half : Int) := by omega
  generalize parse A 0 = P at *
  generalize parse B 1 = Q at *
  clear hown ho hg3 HRD HRR HRA HRB HB0 HD1 HW1 hl3
  go_upto_region 7 with fail
  refine wp_region_noPanic ?_
  refine late.region (fun _ => True) (fun j => [9].contains j) (by kernel_rfl) (trivial) (fun hHeld => ?_)
  obtain ⟨z0, hz0⟩ : ∃ x, x = w3.drew := ⟨_, rfl⟩
  rw [← hz0]
  have hot : Hid (Only (fun _ => False) w3 z0) := Lib.hid (by rw [hz0]; exact (Only.refl _ _).drew)
  clear hz0
  refine late.take (i := 0) [2, 3, 7, 8, 9, 10] (v := ?_) rfl (by kernel_rfl) (by kernel_rfl) (by kernel_rfl) (by kernel_rfl) (fun _ _ _ h => h) (Or.inl ⟨by rfl, ?_⟩) (by assumption) ?_
  rotate_left 1
  · intro w' hSw
    try dsimp only at hSw
    go_simp
    try with_reducible rfl
  try simp only [List.getElem_toArray, List.getElem_cons_zero, Act.put, List.setIfInBounds_toArray, List.set_cons_zero, List.set_cons_succ]
  refine late.take (i := 1) [2, 3, 7, 8, 9, 10] (v := ?_) rfl (by kernel_rfl) (by kernel_rfl) (by kernel_rfl) (by kernel_rfl) (fun _ _ _ h => h) (Or.inl ⟨by rfl, ?_⟩) (by assumption) ?_
  rotate_left 1
  · intro w' hSw
    try dsimp only at hSw
    go_simp
    try with_reducible rfl
  try simp only [List.getElem_toArray, List.getElem_cons_zero, List.getElem_cons_succ, Act.put, List.setIfInBounds_toArray, List.set_cons_zero, List.set_cons_succ]
  refine late.take (i := 2) [3, 7, 8, 9, 10] (v := ?_) rfl (by kernel_rfl) (by kernel_rfl) (by kernel_rfl) (by kernel_rfl) (fun _ _ _ h => h) (Or.inl ⟨by rfl, ?_⟩) (by assumption) ?_
  rotate_left 1
  · intro w' hSw
    try dsimp only at hSw
    go_simp
    try with_reducible rfl
  try simp only [List.getElem_toArray, List.getElem_cons_zero, List.getElem_cons_succ, Act.put, List.setIfInBounds_toArray, List.set_cons_zero, List.set_cons_succ]
  refine late.take (i := 4) [6, 7, 8, 9, 10] (v := ?_) rfl (by kernel_rfl) (by kernel_rfl) (by kernel_rfl) (by kernel_rfl) (fun _ _ _ h => h) (Or.inl ⟨by rfl, ?_⟩) (by assumption) ?_
  rotate_left 1
  · intro w' hSw
    try dsimp only at hSw
    go_simp
    try with_reducible rfl
  try simp only [List.getElem_toArray, List.getElem_cons_zero, List.getElem_cons_succ, Act.put, List.setIfInBounds_toArray, List.set_cons_zero, List.set_cons_succ]
  refine late.take (i := 5) [6, 7, 8, 9, 10] (v := ?_) rfl (by kernel_rfl) (by kernel_rfl) (by kernel_rfl) (by kernel_rfl) (fun _ _ _ h => h) (Or.inl ⟨by rfl, ?_⟩) (by assumption) ?_
  rotate_left 1
  · intro w' hSw
    try dsimp only at hSw
    go_simp
    try with_reducible rfl
  try simp only [List.getElem_toArray, List.getElem_cons_zero, List.getElem_cons_succ, Act.put, List.setIfInBounds_toArray, List.set_cons_zero, List.set_cons_succ]
  refine late.take (i := 6) [7, 8, 9, 10] (v := ?_) rfl (by kernel_rfl) (by kernel_rfl) (by kernel_rfl) (by kernel_rfl) (fun _ _ _ h => h) (Or.inl ⟨by rfl, ?_⟩) (by assumption) ?_
  rotate_left 1
  · intro w' hSw
    try dsimp only at hSw
    go_simp
    try with_reducible rfl
  try simp only [List.getElem_toArray, List.getElem_cons_zero, List.getElem_cons_succ, Act.put, List.setIfInBounds_toArray, List.set_cons_zero, List.set_cons_succ]
  refine late.ready (rs := [3]) (by kernel_rfl) (by simp) ?_
  refine late.Each.cons rfl (fun K hK => ?_) late.Each.nil
  try simp only [List.getElem_toArray, List.getElem_cons_zero, List.getElem_cons_succ]
  go_simp
  go_at_call 82
  with_reducible refine (HC0.out _ hot.out).mono ?_
  rintro _ W1 ⟨vaa, vac, rfl, ho1, ho2, ho⟩
  have HPva : Hid (OwnB W1 (.slice vaa P.2.length vac) P.2 ∧ ∀ y, vaa = some y → w3.heap.size ≤ y.block) := Lib.hid ⟨ho1, fun y e => Nat.le_trans hot.out.size (ho2 y e)⟩
  replace hot := Lib.hid (hot.out.trans ho)
  clear ho ho1 ho2
  try dsimp only
  refine hK.out _ _ (fun _ => trivial) (fun hHeld1 => ?_)
  replace hHeld1 := hHeld1 rfl
  clear hK K
  try simp only [List.getElem_toArray, List.getElem_cons_zero, List.getElem_cons_succ, Act.put, List.setIfInBounds_toArray, List.set_cons_zero, List.set_cons_succ]
  refine late.ready (rs := [7]) (by kernel_rfl) (by simp) ?_
  refine late.Each.cons rfl (fun K hK => ?_) late.Each.nil
  try simp only [List.getElem_toArray, List.getElem_cons_zero, List.getElem_cons_succ]
  go_simp
  go_at_call 82
  with_reducible refine (HC1.out _ hot.out).mono ?_
  rintro _ W2 ⟨vba, vbc, rfl, ho1, ho2, ho⟩
  have HPvb : Hid (OwnB W2 (.slice vba Q.2.length vbc) Q.2 ∧ ∀ y, vba = some y → w3.heap.size ≤ y.block) := Lib.hid ⟨ho1, fun y e => Nat.le_trans hot.out.size (ho2 y e)⟩
  replace HPva := Lib.hid (And.intro (HPva.out.1.only ho (fun _ _ f => f)) HPva.out.2)
  replace hot := Lib.hid (hot.out.trans ho)
  clear ho ho1 ho2
  try dsimp only
  refine hK.out _ _ (fun _ => trivial) (fun hHeld2 => ?_)
  replace hHeld2 := hHeld2 rfl
  clear hK K
  try simp only [List.getElem_toArray, List.getElem_cons_zero, List.getElem_cons_succ, Act.put, List.setIfInBounds_toArray, List.set_cons_zero, List.set_cons_succ]
  refine late.take (i := 8) [9, 10] (v := ?_) rfl (by kernel_rfl) (by kernel_rfl) (by kernel_rfl) (by kernel_rfl) (fun _ _ _ h => h) (Or.inl ⟨by rfl, ?_⟩) (by assumption) ?_
  rotate_left 1
  · intro w' hSw
    try dsimp only at hSw
    go_simp
    try with_reducible rfl
  try simp only [List.getElem_toArray, List.getElem_cons_zero, List.getElem_cons_succ, Act.put, List.setIfInBounds_toArray, List.set_cons_zero, List.set_cons_succ]
  refine late.ready (rs := [9]) (by kernel_rfl) (by simp) ?_
  refine late.Each.cons rfl (fun K hK => ?_) late.Each.nil
  have HBX := Lib.hid (HB1.out.only hot.out (fun f => f))
  obtain ⟨q0, q1, q2, q3, qf⟩ := HBX.out
  clear hHeld
  try simp only [List.getElem_toArray, List.getElem_cons_zero, List.getElem_cons_succ]
  go_simp
  refine hK.out _ _ (fun h => by cases h) (fun _ => ?_)
  clear hK K
  try simp only [List.getElem_toArray, List.getElem_cons_zero, List.getElem_cons_succ, Act.put, List.setIfInBounds_toArray, List.set_cons_zero, List.set_cons_succ]
  refine late.take (i := 10) [] (v := ?_) rfl (by kernel_rfl) (by kernel_rfl) (by kernel_rfl) (by kernel_rfl) (fun _ _ _ h => h) (Or.inl ⟨by rfl, ?_⟩) (by assumption) ?_
  rotate_left 1
  · intro w' hSw
    try dsimp only at hSw
    go_simp
    try with_reducible rfl
  try simp only [List.getElem_toArray, List.getElem_cons_zero, List.getElem_cons_succ, Act.put, List.setIfInBounds_toArray, List.set_cons_zero, List.set_cons_succ]
  refine late.done (by kernel_rfl) ?_ _
  refine NoPanic.normal ?_
  obtain ⟨hb2, hoW⟩ := put4_facts (x0 := .int .i64 (P.1 : Int)) (x1 := .slice vaa P.2.length vac) (x2 := .int .i64 (Q.1 : Int)) (x3 := .slice vba Q.2.length vbc) HBX.out
  unfold put4 at hb2 hoW
  obtain ⟨y0, y1, y2, y3, -⟩ := hb2
  clear q0 q1 q2 q3 qf HBX HC0 HC1
  go_wp2_with fail
  refine bodyPost_ret (v := .tuple #[.agg #[.int .i64 (P.1 : Int), .slice vaa P.2.length vac, .int .i64 (Q.1 : Int), .slice vba Q.2.length vbc], .int .i64 0]) (by simp [results, Try.results66, go_sem, y0, y1, y2, y3]) rfl ?_
  have hown : ∀ (v : Option Addr) (l : List Nat) (c : Nat), (∀ y, v = some y → g < y.block) → ∀ k, (.slice v l.length c : Value).ownBlock = some k → ¬ k = g := fun v l c hy k e e2 => by
    cases v with
    | none => cases e
    | some y =>
      have := hy y rfl
      have e3 : y.block = k := by simpa [Value.ownBlock] using e
      omega
  refine ⟨vaa, vac, vba, vbc, rfl, HPva.out.1.only hoW (hown _ _ _ (fun y e => Nat.lt_of_lt_of_le hgw (HPva.out.2 y e))), HPvb.out.1.only hoW (hown _ _ _ (fun y e => Nat.lt_of_lt_of_le hgw (HPvb.out.2 y e))), (fun y e => Nat.le_trans HO3.out.size (HPva.out.2 y e)), (fun y e => Nat.le_trans HO3.out.size (HPvb.out.2 y e)), (HO3.out.trans hot.out).then hoW (fun q hq e => by have e : q = g := e; have := HG.out; omega)⟩
end Go.Proofs.Ytcbpgplmphgcgaa.snw
