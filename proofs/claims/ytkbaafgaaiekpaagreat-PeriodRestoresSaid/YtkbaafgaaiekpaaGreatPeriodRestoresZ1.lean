/- Several texts together: HeldL, Sho, JnA, JnB, EntMk, TrC, TrD, TrE, TrF, StepInt, PdF. -/
import Derived.Test.YtkbaafgaaiekpaaGreatPeriodRestoresZ2
import Derived.Test.YtkbaafgaaiekpaaGreatPeriodRestoresZ3
import Derived.Test.YtkbaafgaaiekpaaGreatPeriodRestoresZ4
import Derived.Test.YtkbaafgaaiekpaaGreatPeriodRestoresZ7
import Derived.Test.YtkbaafgaaiekpaaGreatPeriodRestoresZ8
import Derived.Test.YtkbaafgaaiekpaaGreatPeriodRestoresZ15
import Derived.Deep.RegionHeld3
import Derived.OrdersHeld
import Derived.WalkKit
import Derived.Deep.MidRow
import Derived.Deep.WholeRow
import Derived.Deep.CutRange
import Derived.Deep.CutBlock
import Derived.ChangeKeysEq
open List (getElem_toArray getElem_cons_zero getElem_cons_succ setIfInBounds_toArray set_cons_zero set_cons_succ)
open Go.Lib (hid)
namespace Go.Proofs.YtkbaafgaaiekpaaGreat.late
open Go
set_option linter.unusedVariables false
section
variable {P : Program} {ops : Array Oper} {Q : Exit → Act → World → Prop} {md : Region.Mode} {S : World → Prop} {L : Nat → Bool}
def Late (P : Program) (md : Region.Mode) (ops : Array Oper) (Q : Exit → Act → World → Prop) (S : World → Prop) (L : Nat → Bool) : Nat → Array Bool → Act → World → Prop
  | 0, d, a, w => Region.ready md ops d = [] ∧ Q .normal a w
  | n + 1, d, a, w =>
    (Region.ready md ops d = [] → Q .normal a w) ∧
    ∀ i, i ∈ Region.ready md ops d → wpOp P ops Q i (fun b u => (L i = false → S u) ∧ Late P md ops Q S L n (d.setIfInBounds i true) b u) a w
theorem Late.any : ∀ (n : Nat) (d : Array Bool) (a : Act) (w : World), Late P md ops Q S L n d a w → wpAny P md ops Q n d a w
  | 0, _, _, _, h => h
  | n + 1, d, a, w, h => ⟨h.1, fun i hi => wpOp_mono (fun b u hb => Late.any n _ b u hb.2) (h.2 i hi)⟩
def waits (md : Region.Mode) (ops : Array Oper) (L B : Nat → Bool) (i : Nat) (d : Array Bool) : Bool :=
  (List.range ops.size).all fun j => (!L j || B j || d.getD j true) && (!B j || (!(d.getD j true) && match ops[j]? with
    | some o => o.after.any fun e => Region.binds md e && (e.on == i || B e.on)
    | none => false))
theorem getD_unlisted {d : Array Bool} {j : Nat} (h : d.getD j true = false) : d.getD j false = false := by
  by_cases hj : j < d.size
  · simpa [Array.getD, hj] using h
  · simp [Array.getD, hj]
theorem not_of_ready {B : Nat → Bool} {i j : Nat} {d : Array Bool} (hb : waits md ops L B i d = true) (hin : ∀ k, B k = true → k < ops.size) (hi : d.getD i true = false)
    (hj : j ∈ Region.ready md ops d) : B j = false := by
  by_cases h : B j = true
  · exfalso; obtain ⟨h0, o, ho, hall⟩ := mem_ready.1 hj; have hjs := hin j h; have h1 := List.all_eq_true.1 hb j (List.mem_range.2 hjs); rw [h, ho] at h1; simp only [Bool.not_true, Bool.false_or, Bool.and_eq_true, Array.any_eq_true] at h1; obtain ⟨_, _, x, hx, h2, h3⟩ := h1; have h4 := hall o.after[x] (Array.getElem_mem hx) h2; simp only [Bool.or_eq_true, beq_iff_eq] at h3; rcases h3 with h3 | h3
    · rw [h3, getD_unlisted hi] at h4; cases h4
    · have h5 := List.all_eq_true.1 hb _ (List.mem_range.2 (hin _ h3)); rw [h3] at h5; simp only [Bool.not_true, Bool.false_or, Bool.and_eq_true, Bool.not_eq_true'] at h5; rw [getD_unlisted h5.2.1] at h4; cases h4
  · simpa using h
theorem first {B : Nat → Bool} {i : Nat} {oi : Oper} {v : Value} (hi : ops[i]? = some oi) (hsel : ∀ (j : Nat) (o : Oper) cs b, ops[j]? = some o → o.op ≠ .select cs b)
    (hQ : ∀ c a w, Q (.panic c) (a.put oi.dst v) w → Q (.panic c) a w) (hin : ∀ k, B k = true → k < ops.size) :
    ∀ (n : Nat) (d : Array Bool) (a : Act) (w : World), waits md ops L B i d = true →
      (∀ j oj, ops[j]? = some oj → j ≠ i → d.getD j true = false → (∀ e ∈ oj.after, Region.binds md e = true → e.on ≠ i) → oi.apart ops oj = true) →
      i ∈ Region.ready md ops d → YieldsIf P ops S oi v a → S w →
      Late P md ops Q S L n (d.setIfInBounds i true) (a.put oi.dst v) w → Late P md ops Q S L (n + 1) d a w := by
  intro n
  induction n with
  | zero =>
    intro d a w hb hfree hr hy hS H; have hiu := (mem_ready.1 hr).1; refine ⟨fun h => (by rw [h] at hr; cases hr), fun j hj => ?_⟩; by_cases hji : j = i
    · subst hji; exact hy.wpOp hi hS ⟨fun _ => hS, H⟩
    · have := ready_mono hj hji; rw [H.1] at this; cases this
  | succ n ih =>
    intro d a w hb hfree hr hy hS H; have hiu := (mem_ready.1 hr).1; refine ⟨fun h => (by rw [h] at hr; cases hr), fun j hj => ?_⟩; by_cases hji : j = i
    · subst hji; exact hy.wpOp hi hS ⟨fun _ => hS, H⟩
    · have hBj := not_of_ready hb hin hiu hj; obtain ⟨hjun, oj, hoj, hall⟩ := mem_ready.1 hj; have hjs : j < ops.size := (Array.getElem?_eq_some_iff.1 hoj).1; have hLj : L j = false := by
        have h1 := List.all_eq_true.1 hb j (List.mem_range.2 hjs); rw [hBj, hjun] at h1; simp at h1; exact h1
      have hnot : ∀ e ∈ oj.after, Region.binds md e = true → e.on ≠ i := fun e he hbd heq => by
        have h1 := hall e he hbd; rw [heq, getD_unlisted hiu] at h1; cases h1
      have h2 := wpOp_putIf hoj (hfree j oj hoj hji hjun hnot) (fun cs b => hsel i oi cs b hi) (fun cs b => hsel j oj cs b hoj) hQ hy (H.2 j (ready_mono hj hji)); have hfree' : ∀ k ok, ops[k]? = some ok → k ≠ i → (d.setIfInBounds j true).getD k true = false →
          (∀ e ∈ ok.after, Region.binds md e = true → e.on ≠ i) → oi.apart ops ok = true := fun k ok hk hki hun hno => by
        refine hfree k ok hk hki ?_ hno; by_cases hjk : j = k
        · subst hjk; exact hjun
        · rw [getD_set_ne true hjk] at hun; exact hun
      have hb' : waits md ops L B i (d.setIfInBounds j true) = true := by
        refine List.all_eq_true.2 fun k hk => ?_; have h1 := List.all_eq_true.1 hb k hk; by_cases hkj : j = k
        · subst hkj; rw [hBj] at h1 ⊢; simp
        · rw [getD_set_ne true hkj]; exact h1
      refine wpOp_mono (fun b u h3 => ⟨h3.2.1, ih (d.setIfInBounds j true) b u hb' hfree' (ready_mono hr (Ne.symm hji)) h3.1 (h3.2.1 hLj) ?_⟩) h2; rw [Array.setIfInBounds_comm _ _ hji]; exact h3.2.2
theorem take {i : Nat} (Bs : List Nat) {oi : Oper} {v : Value} {n : Nat} {d : Array Bool} {a : Act} {w : World} (hi : ops[i]? = some oi)
    (hs : Region.noSelect ops = true) (hf : Region.free md ops d i = true) (hr : (Region.ready md ops d).contains i = true)
    (hB : (waits md ops L (fun j => Bs.contains j) i d && Bs.all fun j => decide (j < ops.size)) = true)
    (hQ : ∀ c a w, Q (.panic c) (a.put oi.dst v) w → Q (.panic c) a w) (hy : YieldsIf P ops S oi v a) (hS : S w)
    (h : Late P md ops Q S L n (d.setIfInBounds i true) (a.put oi.dst v) w) : Late P md ops Q S L (n + 1) d a w := by
  rw [Bool.and_eq_true] at hB; refine first (B := fun j => Bs.contains j) hi (Region.noSelect_spec hs) hQ (fun k hk => ?_) n d a w hB.1 (Region.free_spec hi hf) (by simpa using hr) hy hS h; have := List.all_eq_true.1 hB.2 k (by simpa using hk)
  simpa using this
def Each (P : Program) (md : Region.Mode) (ops : Array Oper) (Q : Exit → Act → World → Prop) (S : World → Prop) (L : Nat → Bool) (n : Nat) (d : Array Bool) (a : Act) (w : World) (rs : List Nat) : Prop :=
  ∀ i, i ∈ rs → wpOp P ops Q i (fun b u => (L i = false → S u) ∧ Late P md ops Q S L n (d.setIfInBounds i true) b u) a w
theorem Each.nil {n : Nat} {d : Array Bool} {a : Act} {w : World} : Each P md ops Q S L n d a w [] := fun _ h => by cases h
theorem Each.cons {n : Nat} {d : Array Bool} {a : Act} {w : World} {i : Nat} {o : Oper} {rs : List Nat} (ho : ops[i]? = some o)
    (h : ∀ K : Act → World → Prop, Shut (∀ b u, (L i = false → S u) → ((L i = false → S u) → Late P md ops Q S L n (d.setIfInBounds i true) b u) → K b u) → if Region.wanted o (yielded ops a.tmps) = true then Oper.wp P o a w K Q else K (a.put o.dst undef) w)
    (hs : Each P md ops Q S L n d a w rs) : Each P md ops Q S L n d a w (i :: rs) := fun j hj => by
  rcases List.mem_cons.1 hj with rfl | hj
  · exact wpOp_step ho (fun K hK => h K (fun b u hS hW => hK b u ⟨hS, hW hS⟩))
  · exact hs j hj
theorem ready {rs : List Nat} {n : Nat} {d : Array Bool} {a : Act} {w : World} (hr : Region.ready md ops d = rs) (hne : rs ≠ [])
    (h : Each P md ops Q S L n d a w rs) : Late P md ops Q S L (n + 1) d a w :=
  ⟨fun h0 => absurd (hr ▸ h0) hne, fun i hi => h i (hr ▸ hi)⟩
theorem done {d : Array Bool} {a : Act} {w : World} (hr : Region.ready md ops d = []) (h : Q .normal a w) : ∀ n, Late P md ops Q S L n d a w
  | 0 => ⟨hr, h⟩
  | _ + 1 => ⟨fun _ => h, fun i hi => by rw [hr] at hi; cases hi⟩
theorem region (S : World → Prop) (L : Nat → Bool) {id : Nat} {a : Act} {w : World} (hm : P.follows .mixedOrders = true) (hS : S w.drew)
    (h : S w.drew → Late P .any ops Q S L ops.size (Array.replicate ops.size false) a w.drew) : (Code.region id ops true).wp P Q a w :=
  wp_region_any hm (Late.any _ _ _ _ (h hS))
end
end Go.Proofs.YtkbaafgaaiekpaaGreat.late
namespace Go.Proofs.YtkbaafgaaiekpaaGreat.sho
open Go Go.RowKit
set_option linter.unusedVariables false
theorem tk {P : Program} {md : Region.Mode} {ops : Array Oper} {Q : Exit → Act → World → Prop} {S : World → Prop} (i : Nat) {oi : Oper} {v : Value} {fuel : Nat} {listed l2 : Array Bool} {a a2 : Act} {w : World}
    (h : wpAnyH P md ops Q S fuel l2 a2 w)
    (hi : ops[i]? = some oi := by rfl) (hs : Region.noSelect ops = true := by kernel_rfl) (hf : Region.free md ops listed i = true := by kernel_rfl) (hr : (Region.ready md ops listed).contains i = true := by kernel_rfl)
    (hQ : ∀ c a w, Q (.panic c) (a.put oi.dst v) w → Q (.panic c) a w := by exact fun _ _ _ h => h)
    (hy : YieldsIf P ops S oi v a := by refine Or.inl ⟨by rfl, ?_⟩; intro w' hSw; (try dsimp only at hSw); go_simp; (try with_reducible rfl))
    (hS : S w := by assumption)
    (ha : a.put oi.dst v = a2 := by (try simp only [List.getElem_toArray, List.getElem_cons_zero, List.getElem_cons_succ, Act.put, List.setIfInBounds_toArray, List.set_cons_zero, List.set_cons_succ]); (try with_reducible rfl))
    (hl : listed.setIfInBounds i true = l2 := by (try simp only [List.setIfInBounds_toArray, List.set_cons_zero, List.set_cons_succ]); (try with_reducible rfl)) : wpAnyH P md ops Q S (fuel + 1) listed a w := by
  subst ha hl; exact wpAnyH_take hi hs hf hr hQ hy hS h
theorem lt {P : Program} {md : Region.Mode} {ops : Array Oper} {Q : Exit → Act → World → Prop} {S : World → Prop} {L : Nat → Bool} (i : Nat) (Bs : List Nat) {oi : Oper} {v : Value} {n : Nat} {d d2 : Array Bool} {a a2 : Act} {w : World}
    (h : late.Late P md ops Q S L n d2 a2 w)
    (hi : ops[i]? = some oi := by rfl) (hs : Region.noSelect ops = true := by kernel_rfl) (hf : Region.free md ops d i = true := by kernel_rfl) (hr : (Region.ready md ops d).contains i = true := by kernel_rfl)
    (hB : (late.waits md ops L (fun j => Bs.contains j) i d && Bs.all fun j => decide (j < ops.size)) = true := by kernel_rfl)
    (hQ : ∀ c a w, Q (.panic c) (a.put oi.dst v) w → Q (.panic c) a w := by exact fun _ _ _ h => h)
    (hy : YieldsIf P ops S oi v a := by refine Or.inl ⟨by rfl, ?_⟩; intro w' hSw; (try dsimp only at hSw); go_simp; (try with_reducible rfl))
    (hS : S w := by assumption)
    (ha : a.put oi.dst v = a2 := by (try simp only [List.getElem_toArray, List.getElem_cons_zero, List.getElem_cons_succ, Act.put, List.setIfInBounds_toArray, List.set_cons_zero, List.set_cons_succ]); (try with_reducible rfl))
    (hl : d.setIfInBounds i true = d2 := by (try simp only [List.setIfInBounds_toArray, List.set_cons_zero, List.set_cons_succ]); (try with_reducible rfl)) : late.Late P md ops Q S L (n + 1) d a w := by
  subst ha hl; exact late.take Bs hi hs hf hr hB hQ hy hS h
end Go.Proofs.YtkbaafgaaiekpaaGreat.sho
namespace Go.Proofs.YtkbaafgaaiekpaaGreat.jnw
open Go.RowKit mem accm accn entw
set_option linter.unusedVariables false
theorem run_index_row (l : List Int) (k : Nat) (hl : l.length = 32) (hk : k < 32) (w : World) : (Instr.index 101 (sec l) (.int .i64 (k : Int))).run Tryz.prog w = .ok (.int .i64 (l.getD k 0)) w := by
  have h1 : (0 : Int) ≤ k ∧ (k : Int) < (32 : Nat) := (by omega); have e3 : (iv l)[k]? = some (Value.int .i64 (l.getD k 0)) := (by simp [iv, List.getD, hl, hk]); generalize l.getD k 0 = n at *; simp [Instr.index, run_underlying Tryz.underlying101, asIntOf, hk, part, go_sem, sec, e3]
def MapN (w : World) (m : Option Nat) (n : Nat) (C : Ac → Option (List Int)) : Prop := match m with
  | none => ∀ a, C a = none
  | some b => MapA w b n C
theorem MapN.only {S : Nat → Prop} {w w' : World} {m : Option Nat} {n : Nat} {C : Ac → Option (List Int)} (h : MapN w m n C) (ho : Only S w w') (hs : ∀ b, m = some b → ¬ S b) : MapN w' m n C := by
  cases m with
  | none => exact h
  | some b => exact MapA.only h ho (hs b rfl)
theorem MapN.look {w : World} {m : Option Nat} {n : Nat} {C : Ac → Option (List Int)} (h : MapN w m n C) {a : Ac} (ha : InA a) : (Instr.lookup 98 (.map m) (acc a) false).run Tryz.prog w = .ok (sec ((C a).getD noughts)) w := by
  cases m with
  | none => rw [h a]; exact look_none w ha
  | some b => exact MapA.look h ha
theorem MapN.row {w : World} {m : Option Nat} {n : Nat} {C : Ac → Option (List Int)} (h : MapN w m n C) (a : Ac) : Row ((C a).getD noughts) := by
  cases m with
  | none => rw [h a]; exact row_noughts
  | some b => exact MapA.row h a
structure JnC (w : World) (p : Nat) (v : Value) (op : Nat) (m : Option Nat) : Prop where
  c0 : w.cell? ⟨p, 0, none⟩ = some v
  c1 : w.cell? ⟨p, 1, none⟩ = some (.int .i64 (op : Int))
  c2 : w.cell? ⟨p, 2, none⟩ = some (.map m)
  f0 : w.frozen? ⟨p, 0, none⟩ = false
  f1 : w.frozen? ⟨p, 1, none⟩ = false
  f2 : w.frozen? ⟨p, 2, none⟩ = false
  le : op < 32
theorem JnC.only {S : Nat → Prop} {w w' : World} {p op : Nat} {v : Value} {m : Option Nat} (h : JnC w p v op m) (ho : Only S w w') (hs : ¬ S p) : JnC w' p v op m := by
  have hlt := World.block_lt_of_cell? w _ h.c0; exact ⟨ho.cell' h.c0 hs, ho.cell' h.c1 hs, ho.cell' h.c2 hs, (ho.frozen (p := ⟨p, 0, none⟩) hlt hs).trans h.f0, (ho.frozen (p := ⟨p, 1, none⟩) hlt hs).trans h.f1, (ho.frozen (p := ⟨p, 2, none⟩) hlt hs).trans h.f2, h.le⟩
theorem new_any (w : World) : Calls Tryz.prog 50 #[] w fun e w' => e = .returned (.pointer (some ⟨w.heap.size, 0, none⟩)) ∧ JnC w' w.heap.size (.slice none 0 0) 0 none ∧ Only (fun _ => False) w w' := by
  have H : Hid (JnC (w.alloc (.cells #[.slice none 0 0, .int .i64 0, .map none] 100)) w.heap.size (.slice none 0 0) 0 none) := hid
    ⟨alloc_new _ _ _ _ _ _ rfl rfl, alloc_new _ _ _ _ _ _ rfl rfl, alloc_new _ _ _ _ _ _ rfl rfl, alloc_froz _ _ _ _ _ rfl, alloc_froz _ _ _ _ _ rfl, alloc_froz _ _ _ _ _ rfl, by omega⟩
  have HO : Hid (Only (fun _ => False) w (w.alloc (.cells #[.slice none 0 0, .int .i64 0, .map none] 100))) := hid ((Only.refl _ w).alloc _); go_enter Tryz.func50, Tryz.ntmps50
  (go_wp2_with fail); go_ret
  exact ⟨rfl, H.out, HO.out⟩
theorem period_any (p op : Nat) (v : Value) (m : Option Nat) (w : World) (h : JnC w p v op m) : Calls Tryz.prog 22 #[.pointer (some ⟨p, 0, none⟩)] w fun e w' => e = .returned (.int .i64 (op : Int)) ∧ w' = w := by
  have c1 := h.c1; clear h; go_enter Tryz.func22, Tryz.ntmps22
  (go_wp2_with fail); go_ret
  exact ⟨rfl, rfl⟩
theorem len_any (p op : Nat) (a : Option Addr) (n c : Nat) (m : Option Nat) (w : World) (h : JnC w p (.slice a n c) op m) : Calls Tryz.prog 60 #[.pointer (some ⟨p, 0, none⟩)] w fun e w' => e = .returned (.int .i64 (n : Int)) ∧ w' = w := by
  have c0 := h.c0; clear h; go_enter Tryz.func60, Tryz.ntmps60
  (go_wp2_with fail); go_ret
  exact ⟨rfl, rfl⟩
theorem close_yes (p op : Nat) (v : Value) (m : Option Nat) (w : World) (h : JnC w p v op m) (ho : op < 31) : Calls Tryz.prog 35 #[.pointer (some ⟨p, 0, none⟩)] w fun e w' => e = .returned (.tuple #[.int .i64 ((op + 1 : Nat) : Int), .int .i64 0]) ∧ JnC w' p v (op + 1) m ∧ Only (fun q => q = p) w w' := by
  have c1 := h.c1; have f1 := h.f1; have hb : ¬ (32 : Int) ≤ (op : Int) + 1 := (by omega); have hw : wrap64 ((op : Int) + 1) = (op : Int) + 1 := (by unfold wrap64; omega); have hc : ((op + 1 : Nat) : Int) = (op : Int) + 1 := (by omega); have H : Hid (JnC (w.setCell ⟨p, 1, none⟩ (.int .i64 ((op : Int) + 1))) p v (op + 1) m) := hid (by
    rw [← hc]; exact ⟨by rw [cell_other (fun e => by injection e with _ e; omega)]; exact h.c0, cell_same h.c1, by rw [cell_other (fun e => by injection e with _ e; omega)]; exact h.c2, by rw [frozen_set]; exact h.f0, by rw [frozen_set]; exact h.f1, by rw [frozen_set]; exact h.f2, by omega⟩)
  have HO : Hid (Only (fun q => q = p) w (w.setCell ⟨p, 1, none⟩ (.int .i64 ((op : Int) + 1)))) := hid (Only.set (fun q => q = p) w p 1 _ rfl); have hn : (w.setCell ⟨p, 1, none⟩ (.int .i64 ((op : Int) + 1))).cell? ⟨p, 1, none⟩ = some (.int .i64 ((op : Int) + 1)) := cell_same c1; rw [hc]; clear h hc; go_enter Tryz.func35, Tryz.ntmps35
  (go_wp2_with fail); go_ret2
  exact ⟨rfl, H.out, HO.out⟩
theorem take_sum (l : List Int) (k : Nat) (h : k < l.length) : (l.take (k + 1)).sum = (l.take k).sum + l.getD k 0 := by
  have : l.getD k 0 = l[k] := (by simp [List.getD, h]); rw [this, List.take_succ_eq_append_getElem h, List.sum_append]; simp
theorem wrap_add (a b : Int) : wrap64 (wrap64 a + b) = wrap64 (a + b) := by unfold wrap64; omega
set_option maxHeartbeats 8000000 in
theorem bal_any (p op : Nat) (v : Value) (m : Option Nat) (nn : Nat) (C : Ac → Option (List Int)) (k n g : Int) (ha : InA ⟨k, n, g⟩) (w : World) (h : JnC w p v op m) (hm : MapN w m nn C) :
    Calls Tryz.prog 24 #[.pointer (some ⟨p, 0, none⟩), .agg #[.int .i64 k, .int .i64 n, .int .i64 g]] w fun e w' => e = .returned (.int .i64 (wrap64 (((C ⟨k, n, g⟩).getD noughts).sum))) ∧ Only (fun _ => False) w w' := by
  have hl := (hm.row ⟨k, n, g⟩); obtain ⟨w1, hw1⟩ : ∃ x, x = w.alloc (.cells #[.int .i64 k, .int .i64 n, .int .i64 g] 56) := ⟨_, rfl⟩; obtain ⟨q, hq⟩ : ∃ x, x = w.heap.size := ⟨_, rfl⟩; have ho1 : Only (fun _ => False) w w1 := (by rw [hw1]; exact (Only.refl _ w).alloc _); have HF : Hid (∀ w', Only (fun _ => False) w1 w' → w'.cell? ⟨p, 2, none⟩ = some (.map m) ∧ w'.cell? ⟨q, 0, none⟩ = some (.int .i64 k) ∧ w'.cell? ⟨q, 1, none⟩ = some (.int .i64 n) ∧ w'.cell? ⟨q, 2, none⟩ = some (.int .i64 g)) := hid (fun w' ho =>
    ⟨(ho1.trans ho).cell' h.c2 (fun f => f), ho.cell' (by rw [hw1]; exact alloc_new _ _ _ _ _ _ hq rfl) (fun f => f), ho.cell' (by rw [hw1]; exact alloc_new _ _ _ _ _ _ hq rfl) (fun f => f), ho.cell' (by rw [hw1]; exact alloc_new _ _ _ _ _ _ hq rfl) (fun f => f)⟩)
  have HLK : Hid (∀ w', Only (fun _ => False) w1 w' → (Instr.lookup 98 (.map m) (.agg #[.int .i64 k, .int .i64 n, .int .i64 g]) false).run Tryz.prog w' = .ok (sec ((C ⟨k, n, g⟩).getD noughts)) w') := hid (fun w' ho => by
    have h := (hm.only (ho1.trans ho) (fun _ _ f => f)).look ha; unfold acc accm.accV at h; exact h)
  have HO1 := hid ho1; generalize (C ⟨k, n, g⟩).getD noughts = l at *; have HL := hid hl.1; clear h hm hl ha ho1; go_enter Tryz.func24, Tryz.ntmps24
  (go_upto_region 4 with fail); simp only [← hw1, ← hq]; clear hw1 hq; refine wp_region_noPanic ?_; refine late.region (fun w' => w'.cell? ⟨p, 2, none⟩ = some (.map m) ∧ w'.cell? ⟨q, 0, none⟩ = some (.int .i64 k) ∧ w'.cell? ⟨q, 1, none⟩ = some (.int .i64 n) ∧ w'.cell? ⟨q, 2, none⟩ = some (.int .i64 g)) (fun j => [].contains j) (by kernel_rfl) (HF.out _ (Only.refl _ _).drew) (fun hHeld => ?_); obtain ⟨z0, hz0⟩ : ∃ x, x = w1.drew := ⟨_, rfl⟩; rw [← hz0] at hHeld ⊢; have hot : Hid (Only (fun _ => False) w1 z0) := hid (by rw [hz0]; exact (Only.refl _ _).drew); clear hz0; refine sho.lt 0 [1, 2, 3, 5] ?_; refine sho.lt 1 [2, 3, 5] ?_; refine sho.lt 2 [3, 5] ?_; refine sho.lt 3 [5] ?_; refine sho.lt 4 [5] ?_; refine sho.lt 6 [] ?_; refine late.ready (rs := [5]) (by kernel_rfl) (by simp) ?_; refine late.Each.cons rfl (fun K hK => ?_) late.Each.nil; have hlk := HLK.out z0 hot.out; (try simp only [getElem_toArray, getElem_cons_zero, getElem_cons_succ]); (go_simp); refine hK.out _ _ (fun _ => HF.out _ hot.out) (fun hHeld1 => ?_); replace hHeld1 := hHeld1 rfl; clear hK K; clear hlk; (try simp only [getElem_toArray, getElem_cons_zero, getElem_cons_succ, Act.put, setIfInBounds_toArray, set_cons_zero, set_cons_succ]); refine late.done (by kernel_rfl) ?_ _; refine NoPanic.normal ?_; have HO2 := hid (HO1.out.trans hot.out); clear hHeld hot HF HLK HO1; (go_wp2_with fail); have HIX : Hid (∀ (j : Nat) w, j < 32 → _) := hid (fun j w hj => run_index_row l j HL.out hj w)
  go_loopw [16, 5] (fun i s wr => ∃ j : Nat, j ≤ 32 ∧ i = .int .i64 j ∧ s = .int .i64 (wrap64 (l.take j).sum) ∧ Hid (wr = z0)) (fun i _ _ => 32 - (intOf i).toNat)
  case atStart => exact ⟨0, by omega, rfl, by simp [wrap64], hid (by first | trivial | rfl)⟩
  case round =>
    obtain ⟨j, hj, rfl, rfl, HW⟩ := hrel; obtain rfl := HW.out; by_cases h8 : j < 32
    · have hix := HIX.out j wr h8; have hs := take_sum l j (by rw [HL.out]; exact h8); have hjj : (j : Int) < 32 := (by omega); have hw := wrap_add (l.take j).sum (l.getD j 0); rw [← hs] at hw; clear hs; obtain ⟨s1, hs1⟩ : ∃ x, x = (l.take (j + 1)).sum := ⟨_, rfl⟩; rw [← hs1] at hw; have HS1 := hid hs1; clear hs1; generalize (l.take j).sum = s0 at *; generalize l.getD j 0 = y at *; (go_wp2_with fail); go_roundw
      case rel => exact ⟨j + 1, by omega, by go_num, by first | rw [HS1.out] | rw [hw, HS1.out], hid (by first | trivial | rfl)⟩
      case measure => (simp [intOf]; omega)
    · have hge : ¬ (j : Int) < 32 := (by omega); obtain rfl : j = 32 := (by omega); rw [List.take_of_length_le (by rw [HL.out]; omega)]; (go_wp2_with fail); go_ret
      exact ⟨rfl, HO2.out⟩
end Go.Proofs.YtkbaafgaaiekpaaGreat.jnw
namespace Go.Proofs.YtkbaafgaaiekpaaGreat.jnw
open Go.RowKit mem accm accn entw entm
set_option linter.unusedVariables false
def lgA (l : Lg) : Ac := ⟨l.k, l.n, l.g⟩
theorem lgA_in {l : Lg} (h : InL l) : InA (lgA l) := ⟨h.1, h.2.1, h.2.2.1⟩
def rowAdd (r : List Int) (op : Nat) (x : Int) : List Int := r.set op (wrap64 (r.getD op 0 + x))
theorem wrap_in (x : Int) : I64 (wrap64 x) := by unfold I64 wrap64; omega
theorem rowAdd_row {r : List Int} (h : Row r) (op : Nat) (x : Int) : Row (rowAdd r op x) := by
  unfold rowAdd; refine ⟨by rw [List.length_set]; exact h.1, fun c hc => ?_⟩; rcases List.mem_or_eq_of_mem_set hc with hc | hc
  · exact h.2 c hc
  · rw [hc]; exact wrap_in _
def addC (C : Ac → Option (List Int)) (op : Nat) : List Lg → Ac → Option (List Int)
  | [] => C
  | l :: r => addC (updA C (lgA l) (rowAdd ((C (lgA l)).getD noughts) op l.a)) op r
theorem addC_snoc (op : Nat) (l : Lg) : ∀ (r : List Lg) (C : Ac → Option (List Int)), addC C op (r ++ [l]) = updA (addC C op r) (lgA l) (rowAdd (((addC C op r) (lgA l)).getD noughts) op l.a) := by
  intro r
  induction r with
  | nil => intro C; rfl
  | cons x r ih => intro C; exact ih _
theorem addC_take (C : Ac → Option (List Int)) (op : Nat) (ls : List Lg) (k : Nat) (h : k < ls.length) : addC C op (ls.take (k + 1)) = updA (addC C op (ls.take k)) (lgA (ls.getD k default)) (rowAdd (((addC C op (ls.take k)) (lgA (ls.getD k default))).getD noughts) op (ls.getD k default).a) := by
  rw [take_snocL ls k h, addC_snoc]
theorem row_size {l : List Int} (h : Row l) : (iv l).toArray.size = 32 := by simp [iv, h.1]
theorem row_one {l : List Int} : (iv l).toArray.all (·.oneCell') = true := all_oneCell_toArray (iv_one l)
theorem size_row : (Tryz.prog.info? 101).map (·.size) = some 32 := by kernel_rfl
theorem store_rowc {l : List Int} (h : Row l) (w : World) (c : Array Value) (hc : c.size = 32) :
    Sem.run Tryz.prog (storeCells ⟨w.heap.size, 0, none⟩ (iv l)) (w.alloc (.cells c 101)) = .ok () (w.alloc (.cells (iv l).toArray 101)) := by
  have := run_storeCells_new (P := Tryz.prog) w 101 c (iv l).toArray (by rw [size_row, row_size h]) (by rw [hc, row_size h]) row_one
  simpa using this
def BoxR (w : World) (q : Nat) (l : List Int) : Prop := (∀ j, j < 32 → w.cell? ⟨q, j, none⟩ = some (.int .i64 (l.getD j 0))) ∧ ∀ j, j < 32 → w.frozen? ⟨q, j, none⟩ = false
theorem BoxR.new {l : List Int} (h : Row l) (w : World) (t : TypeId) : BoxR (w.alloc (.cells (iv l).toArray t)) w.heap.size l :=
  ⟨fun j hj => alloc_new _ _ _ _ _ _ rfl (by simp [iv, List.getD, h.1, hj]), fun j _ => alloc_froz _ _ _ _ _ rfl⟩
theorem BoxR.only {S : Nat → Prop} {w w' : World} {q : Nat} {l : List Int} (h : BoxR w q l) (ho : Only S w w') (hs : ¬ S q) : BoxR w' q l :=
  ⟨fun j hj => ho.cell' (h.1 j hj) hs, fun j hj => (ho.frozen (p := ⟨q, j, none⟩) (World.block_lt_of_cell? w _ (h.1 j hj)) hs).trans (h.2 j hj)⟩
theorem BoxR.set {w : World} {q : Nat} {l : List Int} (h : BoxR w q l) (hl : l.length = 32) (k : Nat) (hk : k < 32) (x : Int) : BoxR (w.setCell ⟨q, k, none⟩ (.int .i64 x)) q (l.set k x) := by
  refine ⟨fun j hj => ?_, fun j hj => by rw [frozen_set]; exact h.2 j hj⟩; by_cases e : j = k
  · subst e; rw [cell_same (h.1 j hj)]; simp [List.getD, hl, hj]
  · rw [cell_other (fun q => e (by injection q with _ q; exact q.symm)), h.1 j hj]; have : (l.set k x).getD j 0 = l.getD j 0 := (by simp [List.getD, List.getElem?_set_ne (fun q => e q.symm)]); rw [this]
theorem BoxR.range {w : World} {q : Nat} {l : List Int} (h : BoxR w q l) (hl : l.length = 32) : w.rangeAt q 0 (iv l) := by
  intro j v hv; have hj : j < 32 := by
    have := (List.getElem?_eq_some_iff.1 hv).1; simp [iv, hl] at this; exact this
  have := h.1 j hj; have e : v = .int .i64 (l.getD j 0) := by
    simp [iv, hl, hj] at hv; rw [← hv]; simp [List.getD, hl, hj]
  rw [e]
  simpa using this
end Go.Proofs.YtkbaafgaaiekpaaGreat.jnw
namespace Go.Proofs.YtkbaafgaaiekpaaGreat.entw
open Go.RowKit mem entm
set_option linter.unusedVariables false
structure LB (w : World) (g : Nat) (x : Lg) : Prop where
  c0 : w.cell? ⟨g, 0, none⟩ = some (.int .i64 x.k)
  c1 : w.cell? ⟨g, 1, none⟩ = some (.int .i64 x.n)
  c2 : w.cell? ⟨g, 2, none⟩ = some (.int .i64 x.g)
  c3 : w.cell? ⟨g, 3, none⟩ = some (.int .i64 x.a)
  f0 : w.frozen? ⟨g, 0, none⟩ = false
  f2 : w.frozen? ⟨g, 2, none⟩ = false
  f3 : w.frozen? ⟨g, 3, none⟩ = false
theorem LB.only {S : Nat → Prop} {w w' : World} {g : Nat} {x : Lg} (h : LB w g x) (ho : Only S w w') (hs : ¬ S g) : LB w' g x := by
  have hl : g < w.heap.size := World.block_lt_of_cell? w _ h.c0; exact ⟨ho.cell' h.c0 hs, ho.cell' h.c1 hs, ho.cell' h.c2 hs, ho.cell' h.c3 hs, (ho.frozen (p := ⟨g, 0, none⟩) hl hs).trans h.f0, (ho.frozen (p := ⟨g, 2, none⟩) hl hs).trans h.f2, (ho.frozen (p := ⟨g, 3, none⟩) hl hs).trans h.f3⟩
theorem LB.new {w : World} {k n g a : Int} {t : TypeId} {b : Nat} (hb : b = w.heap.size) : LB (w.alloc (.cells #[.int .i64 k, .int .i64 n, .int .i64 g, .int .i64 a] t)) b ⟨k, n, g, a⟩ :=
  ⟨alloc_new _ _ _ _ _ _ hb rfl, alloc_new _ _ _ _ _ _ hb rfl, alloc_new _ _ _ _ _ _ hb rfl, alloc_new _ _ _ _ _ _ hb rfl, alloc_froz _ _ _ _ _ hb, alloc_froz _ _ _ _ _ hb, alloc_froz _ _ _ _ _ hb⟩
theorem LB.setKA {w : World} {b : Nat} {x : Lg} (h : LB w b x) (k a : Int) : LB ((w.setCell ⟨b, 0, none⟩ (.int .i64 k)).setCell ⟨b, 3, none⟩ (.int .i64 a)) b ⟨k, x.n, x.g, a⟩ := by
  refine ⟨?_, ?_, ?_, ?_, ?_, ?_, ?_⟩
  · rw [cell_other (off_ne (by omega))]; exact cell_same h.c0
  · rw [cell_other (off_ne (by omega)), cell_other (off_ne (by omega))]; exact h.c1
  · rw [cell_other (off_ne (by omega)), cell_other (off_ne (by omega))]; exact h.c2
  · exact cell_same (by rw [cell_other (off_ne (by omega))]; exact h.c3)
  · rw [World.frozen?_setCell, World.frozen?_setCell]; exact h.f0
  · rw [World.frozen?_setCell, World.frozen?_setCell]; exact h.f2
  · rw [World.frozen?_setCell, World.frozen?_setCell]; exact h.f3
theorem LB.setG {w : World} {b : Nat} {x : Lg} (h : LB w b x) (g : Int) : LB (w.setCell ⟨b, 2, none⟩ (.int .i64 g)) b ⟨x.k, x.n, g, x.a⟩ := by
  refine ⟨?_, ?_, ?_, ?_, ?_, ?_, ?_⟩
  · rw [cell_other (off_ne (by omega))]; exact h.c0
  · rw [cell_other (off_ne (by omega))]; exact h.c1
  · exact cell_same h.c2
  · rw [cell_other (off_ne (by omega))]; exact h.c3
  · rw [World.frozen?_setCell]; exact h.f0
  · rw [World.frozen?_setCell]; exact h.f2
  · rw [World.frozen?_setCell]; exact h.f3
def bad0 (amount : Int) (len : Nat) : Bool := decide (¬ amB amount ∨ len < 1 ∨ 3 < len)
theorem bad_is {kind amount : Int} {path : List Int} {len : Nat} (hk : kindB kind = true) (hl : path.length = len) : (bad0 amount len || dupO path (min len 4)) = !decide (mkNo kind amount path = 0) := by
  have e : mkNo kind amount path = if ¬ amB amount ∨ pathB path = false then 1 else 0 := by unfold mkNo; rw [hk, if_neg (by simp)]
  rw [e]; by_cases h1 : ¬ amB amount ∨ len < 1 ∨ 3 < len
  · have h2 : bad0 amount len = true := (by unfold bad0; exact decide_eq_true h1); rw [h2]; have h3 : ¬ amB amount ∨ pathB path = false := by
      rcases h1 with h1 | h1
      · exact .inl h1
      · refine .inr (path_no ?_); unfold PathOK; rintro ⟨p1, p2, _⟩; omega
    rw [if_pos h3]; simp
  · have h2 : bad0 amount len = false := (by unfold bad0; exact decide_eq_false h1); have h4 : amB amount ∧ 1 ≤ len ∧ len ≤ 3 := ⟨Decidable.byContradiction fun e => h1 (.inl e), by omega, by omega⟩; rw [h2, Nat.min_eq_left (by omega), ← hl, dup_path (by omega) (by omega)]; cases hp : pathB path with
    | false => rw [if_pos (.inr rfl)]; simp
    | true => rw [if_neg (by simp [h4.1])]; simp
theorem wrap_sm (a : Nat) (h : a ≤ 100) : wrap64 (a : Int) = (a : Int) ∧ IntKind.i64.wrap (a : Int) = (a : Int) := by
  have e : ∀ n : Int, wrap64 n = (n + 9223372036854775808) % 18446744073709551616 - 9223372036854775808 := fun n => (by unfold wrap64; rfl); have e2 : wrap64 (a : Int) = (a : Int) := (by rw [e]; omega); exact ⟨e2, by rw [IntKind.wrap_i64]; omega⟩
theorem split_lastL (A : List Lg) : A = [] ∨ ∃ A' y, A = A' ++ [y] := by
  rcases List.eq_nil_or_concat A with h | ⟨A', y, h⟩
  · exact .inl h
  · exact .inr ⟨A', y, by rw [h, List.concat_eq_append]⟩
theorem run_index_7 (a b c d e f g : Int) (k : Nat) (hk : k < 7) (w : World) : (Instr.index 110 (.agg #[.int .i64 a, .int .i64 b, .int .i64 c, .int .i64 d, .int .i64 e, .int .i64 f, .int .i64 g]) (.int .i64 (k : Int))).run Tryz.prog w = .ok (.int .i64 (List.getD [a, b, c, d, e, f, g] k 0)) w := by
  have h5 : k = 0 ∨ k = 1 ∨ k = 2 ∨ k = 3 ∨ k = 4 ∨ k = 5 ∨ k = 6 := (by omega); rcases h5 with rfl | rfl | rfl | rfl | rfl | rfl | rfl
  all_goals simp [Instr.index, run_underlying Tryz.underlying110, asIntOf, go_sem]
theorem from_index (k : Int) (h1 : 1 ≤ k) (h2 : k ≤ 6) (w : World) : (Instr.index 110 (.agg #[.int .i64 0, .int .i64 1, .int .i64 2, .int .i64 3, .int .i64 3, .int .i64 2, .int .i64 4]) (.int .i64 k)).run Tryz.prog w = .ok (.int .i64 (fromK k)) w := by
  obtain ⟨n, rfl⟩ : ∃ n : Nat, k = (n : Int) := ⟨k.toNat, by omega⟩; rw [run_index_7 0 1 2 3 3 2 4 n (by omega) w]; have h5 : n = 1 ∨ n = 2 ∨ n = 3 ∨ n = 4 ∨ n = 5 ∨ n = 6 := (by omega); rcases h5 with rfl | rfl | rfl | rfl | rfl | rfl <;> simp [fromK]
theorem to_index (k : Int) (h1 : 1 ≤ k) (h2 : k ≤ 6) (w : World) : (Instr.index 110 (.agg #[.int .i64 0, .int .i64 2, .int .i64 3, .int .i64 2, .int .i64 4, .int .i64 5, .int .i64 2]) (.int .i64 k)).run Tryz.prog w = .ok (.int .i64 (toK k)) w := by
  obtain ⟨n, rfl⟩ : ∃ n : Nat, k = (n : Int) := ⟨k.toNat, by omega⟩; rw [run_index_7 0 2 3 2 4 5 2 n (by omega) w]; have h5 : n = 1 ∨ n = 2 ∨ n = 3 ∨ n = 4 ∨ n = 5 ∨ n = 6 := (by omega); rcases h5 with rfl | rfl | rfl | rfl | rfl | rfl <;> simp [toK]
end Go.Proofs.YtkbaafgaaiekpaaGreat.entw
namespace Go.Proofs.YtkbaafgaaiekpaaGreat.tre
open Go.RowKit mem
set_option linter.unusedVariables false
def Room5 (w : World) (b o : Nat) : Prop := (∃ u, w.cell? ⟨b, o, none⟩ = some u) ∧ (∃ u, w.cell? ⟨b, o + 1, none⟩ = some u) ∧ (∃ u, w.cell? ⟨b, o + 2, none⟩ = some u) ∧ (∃ u, w.cell? ⟨b, o + 3, none⟩ = some u) ∧ (∃ u, w.cell? ⟨b, o + 4, none⟩ = some u) ∧
  w.frozen? ⟨b, o, none⟩ = false ∧ w.frozen? ⟨b, o + 1, none⟩ = false ∧ w.frozen? ⟨b, o + 2, none⟩ = false ∧ w.frozen? ⟨b, o + 3, none⟩ = false ∧ w.frozen? ⟨b, o + 4, none⟩ = false
theorem TreeAt.room {w : World} {p : Nat} {T : List Nd} (h : TreeAt w p T) (k : Nat) (hk : k < 33) : Room5 w p (k * 5) := by
  obtain ⟨h0, h1, h2, h3, h4⟩ := h.2.1 k hk; exact ⟨⟨_, h0⟩, ⟨_, h1⟩, ⟨_, h2⟩, ⟨_, h3⟩, ⟨_, h4⟩, h.2.2 _ (by omega), h.2.2 _ (by omega), h.2.2 _ (by omega), h.2.2 _ (by omega), h.2.2 _ (by omega)⟩
def putE (T : List Nd) (n : Nd) : Int :=
  if ¬ (1 ≤ n.id ∧ n.id ≤ 32) then 1 else if ¬ (-1 ≤ n.lim ∧ n.lim ≤ 9007199254740992) then 1 else if ¬ (1 ≤ n.kind ∧ n.kind ≤ 3) then 21
  else if ¬ (n.par = 0 ↔ n.kind = 1) then 21 else if hasB T n.id = true then 8 else if n.kind = 1 then 0
  else if takE T n.par n.kind = 16 ∧ n.cl = true then 0 else takE T n.par n.kind
def putT (T : List Nd) (n : Nd) : List Nd := if putE T n = 0 then T.set n.id.toNat n else T
theorem TreeAt.range {w : World} {p : Nat} {T : List Nd} (h : TreeAt w p T) : w.rangeAt p 0 (nv T) := by
  intro j v hv; have hj : j < 165 := by
    rcases Nat.lt_or_ge j (nv T).length with h' | h'
    · rw [nv_length, h.1] at h'; omega
    · rw [List.getElem?_eq_none h'] at hv; cases hv
  have e : j = j / 5 * 5 + j % 5 := (by omega); rw [Nat.zero_add, e, NdAt.iff.1 (h.2.1 (j / 5) (by omega)) (j % 5) (by omega), ← nv_get T (j / 5) (j % 5) (by rw [h.1]; omega) (by omega), ← e]; exact hv
def busyB (T : List Nd) (id : Int) : Bool := T.any fun n => decide (n.par = id) && !n.cl
def cloE (T : List Nd) (id : Int) : Int := if hasB T id = false then 7 else if (got T id).cl = true then 16 else if busyB T id = true then 17 else 0
def cloT (T : List Nd) (id : Int) : List Nd := if cloE T id = 0 then T.set id.toNat { got T id with cl := true } else T
def OwnI (w : World) (v : Value) (l : List Int) : Prop := w.ownsRow 0 3 1 v l.length (iv l)
theorem OwnI.nil (w : World) : OwnI w (.slice none 0 0) [] := World.ownsRow_nil _ _ _ _
theorem OwnI.only {S : Nat → Prop} {w w' : World} {v : Value} {ls : List Int} (h : OwnI w v ls) (ho : Only S w w') (hs : ∀ k, v.ownBlock = some k → ¬ S k) : OwnI w' v ls := owns_only ho h hs
theorem OwnI.reads {w : World} {v : Value} {l : List Int} (h : OwnI w v l) (hb : ∀ c ∈ l, 0 ≤ c ∧ c ≤ 100) (hm : l.length ≤ 1000000) : ∃ a cap, v = .slice a l.length cap ∧ ReadsI w a l.length l ∧ (∀ y, a = some y → v.ownBlock = some y.block) := by
  have h0 := h; have hb' : ∀ c ∈ l, -9223372036854775808 ≤ c ∧ c ≤ 9223372036854775807 := fun c hc => (by have := hb c hc; omega); rcases h.2 with ⟨hv, hn⟩ | ⟨g, cap, cur, hv, hg, hh, hc, hmm, _⟩
  · exact ⟨none, 0, by rw [hv, hn], ⟨rfl, by unfold maxLen; omega, hb', .inl hn⟩, fun y e => by cases e⟩
  · refine ⟨some ⟨g, 0, none⟩, cap, hv, ?_, fun y e => by cases e; rw [hv]; rfl⟩; have h1 : w.ownsRow 0 3 1 (.slice (some ⟨g, 0, none⟩) l.length cap) l.length (iv l) := (by rw [← hv]; exact h0); exact ReadsI.of_owns h1 (by unfold maxLen; omega) hb'
theorem iv_append (a b : List Int) : iv (a ++ b) = iv a ++ iv b := by simp [iv]
theorem news_int {W : World} {g : Nat} {x : Int} (hg : g = W.heap.size) (t : TypeId) : ∀ j u, (iv [x])[j]? = some u → (W.alloc (.cells #[.int .i64 x] t)).cell? ((Addr.mk g 0 none).add j) = some u := by
  intro j u hu; rw [add_none, Nat.zero_add]; exact alloc_cell hg (by rw [← List.getElem?_toArray] at hu; exact hu)
def RetI (l : List Int) (w0 : World) (v : Value) (w' : World) : Prop := ∃ a c, v = .slice a l.length c ∧ ReadsI w' a l.length l ∧ (∀ y, a = some y → w0.heap.size ≤ y.block)
theorem RetI.of_own {l : List Int} {w0 w' : World} {v : Value} (h : OwnI w' v l) (hb : ∀ c ∈ l, 0 ≤ c ∧ c ≤ 100) (hm : l.length ≤ 1000000) (hn : ∀ q, v.ownBlock = some q → w0.heap.size ≤ q) : RetI l w0 v w' := by
  obtain ⟨a, c, h1, h2, h3⟩ := h.reads hb hm; exact ⟨a, c, h1, h2, fun y e => hn _ (h3 y e)⟩
def upL (T : List Nd) : Nat → Int → List Int
  | 0, _ => []
  | n + 1, id => id :: upL T n (T.getD id.toNat default).par
def kindN (T : List Nd) (id : Int) : Nat := (T.getD id.toNat default).kind.toNat
def Inv (T : List Nd) : Prop := ∀ k : Nat, hasB T k = true → 1 ≤ (T.getD k default).kind ∧ (T.getD k default).kind ≤ 3 ∧ ((T.getD k default).kind = 1 → (T.getD k default).par = 0) ∧
  ((T.getD k default).kind ≠ 1 → hasB T (T.getD k default).par = true ∧ (T.getD (T.getD k default).par.toNat default).kind = (T.getD k default).kind - 1)
def pathL (T : List Nd) (id : Int) : List Int := (upL T (kindN T id) id).reverse
theorem RetI.nil (w0 w' : World) : RetI [] w0 (.slice none 0 0) w' := ⟨none, 0, rfl, ⟨rfl, by unfold maxLen; simp, (by intro c hc; cases hc), .inl rfl⟩, fun y e => by cases e⟩
theorem contains_any (a : Option Addr) (c : Nat) (l : List Int) (x : Int) (w : World) (h : ReadsI w a l.length l) : Calls Tryz.prog 34 #[.slice a l.length c, .int .i64 x] w fun e w' => e = .returned (.bool (l.contains x)) ∧ w = w' := by
  obtain ⟨h1, h2, h3, h4⟩ := h; unfold maxLen at h2; by_cases h0 : l.length = 0
  · obtain rfl : l = [] := List.eq_nil_of_length_eq_zero h0; exact (Tryz.slices_Contains_int_empty a c x w).mono fun _ _ ⟨p, q⟩ => ⟨p, q.symm⟩
  · obtain ⟨b, off, rfl, hc⟩ := h4.resolve_left h0; refine (Tryz.slices_Contains_int b off l.length c l x w (Nat.le_refl _) (by omega) hc).mono fun _ _ ⟨p, q⟩ => ⟨?_, q.symm⟩; rw [p, List.take_length]
theorem run_append_none_any {P : Program} {w : World} (base : Nat) (t ty e : TypeId) (i : TypeInfo) (size : Nat) (ht : P.underlying t = some (.slice e)) (hi : P.info? e = some i)
    (v : Value) (n : Nat) (xs : List Value) (c : Nat) (hown : w.ownsRow base e size v n xs) :
    (Builtin.append_ #[t, t] ty #[v, .slice none 0 c]).run P w = .ok v w := by
  rcases hown.2 with ⟨rfl, rfl⟩ | ⟨g, cap, cur, rfl, _, _, hnc, _⟩
  · simp [Builtin.append_, run_underlying ht, sizeOf, typeInfo, hi, Builtin.lenOf, Builtin.firstCells]
  · simp [Builtin.append_, run_underlying ht, sizeOf, typeInfo, hi, Builtin.lenOf, Builtin.firstCells, hnc, storeCells]
theorem iv_ones (l : List Int) : ∀ u ∈ iv l, u.oneCell' = true := by
  intro u hu; simp only [iv, List.mem_map] at hu; obtain ⟨x, _, rfl⟩ := hu
  rfl
theorem OwnI.form {w : World} {v : Value} {l : List Int} (h : OwnI w v l) (hb : ∀ c ∈ l, -9223372036854775808 ≤ c ∧ c ≤ 9223372036854775807) (hm : l.length ≤ 1000000) : ∃ a c, v = .slice a l.length c ∧ ReadsI w a l.length l ∧ l.length ≤ c ∧ ∀ y, a = some y → v.ownBlock = some y.block := by
  have h0 := h; rcases h.2 with ⟨hv, hn⟩ | ⟨g, cap, cur, hv, hg, hh, hc, hmm, _⟩
  · exact ⟨none, 0, by rw [hv, hn], ⟨rfl, by unfold maxLen; omega, hb, .inl hn⟩, by omega, fun y e => by cases e⟩
  · refine ⟨some ⟨g, 0, none⟩, cap, hv, ?_, hc, fun y e => by cases e; rw [hv]; rfl⟩; have h1 : w.ownsRow 0 3 1 (.slice (some ⟨g, 0, none⟩) l.length cap) l.length (iv l) := (by rw [← hv]; exact h0); exact ReadsI.of_owns h1 (by unfold maxLen; omega) hb
end Go.Proofs.YtkbaafgaaiekpaaGreat.tre
namespace Go.Proofs.YtkbaafgaaiekpaaGreat.pdw
open Go.RowKit mem tre
set_option linter.unusedVariables false
theorem append_none_i {P : Program} {w : World} {ops : Array Oper} {rest : List Oper} {o : Oper} {a : Act} {Q : Exit → Act → World → Prop} (hgd : o.guard = none) (s x : Operand) (t : TypeId)
    (ho : o.op = .call { callee := .builtin .append, args := #[s, x], argTypes := #[t, t] })
    (base : Nat) (e : TypeId) (i : TypeInfo) (size : Nat) (ht : P.underlying t = some (.slice e)) (hi : P.info? e = some i)
    (v : Value) (n : Nat) (xs : List Value) (c : Nat) (hs : a.eval s = v) (hown : w.ownsRow base e size v n xs) (hx : a.eval x = .slice none 0 c)
    (h : wpList P ops Q rest (a.put o.dst v) w) : wpList P ops Q (o :: rest) a w := by
  refine wpList_plain hgd fun K hK => ?_; have hrun := run_append_none_any (P := P) (w := w) base t o.type e i size ht hi v n xs c hown; unfold Oper.wp; simp [execOp, ho, resolve, invoke, builtin, hs, hx, hrun, Result.andThen]; exact hK _ _ h
theorem append_ints {w : World} {ops : Array Oper} {rest : List Oper} {o : Oper} {ac : Act} {Q : Exit → Act → World → Prop} (hgd : o.guard = none) (s x : Operand)
    (ho : o.op = .call { callee := .builtin .append, args := #[s, x], argTypes := #[37, 37] })
    (v : Value) (xs : List Int) (hs : ac.eval s = v) (hown : OwnI w v xs) (a : Option Addr) (m c : Nat) (ls : List Int) (hx : ac.eval x = .slice a m c) (hr : ReadsI w a m ls) (hb : xs.length + m ≤ 1000000)
    (h : ∀ v' w', OwnI w' v' (xs ++ ls) → w.grownBy w' v.ownBlock → (∀ k, v'.ownBlock = some k → v.ownBlock = some k ∨ w.heap.size ≤ k) → wpList Tryz.prog ops Q rest (ac.put o.dst v') w') : wpList Tryz.prog ops Q (o :: rest) ac w := by
  obtain ⟨i0, hi, hz0, hz1, hz2⟩ : ∃ i1, Tryz.prog.info? 3 = some i1 ∧ i1.zero = some (.int .i64 0) ∧ i1.size = 1 ∧ i1.bytes = 8 := by
    obtain ⟨i, h1, h2⟩ := Option.map_eq_some_iff.1 info_i64; exact ⟨i, h1, by simpa using h2⟩
  rcases a with _ | ad
  · have hm : m = 0 := hr.2.2.2.elim id (fun ⟨b, off, e, _⟩ => by cases e); subst hm; have hl : ls = [] := List.eq_nil_of_length_eq_zero hr.1; subst hl; refine append_none_i hgd s x 37 ho 0 3 i0 1 Tryz.underlying37 hi v xs.length _ c hs hown hx ?_; exact h v w (by rw [List.append_nil]; exact hown) ⟨rfl, rfl, rfl, Nat.le_refl _, fun _ _ _ => rfl⟩ (fun k hk => .inl hk)
  · refine append_mine hgd s x 37 ho 3 i0 _ 1 8 Tryz.underlying37 hi hz0 hz1 hz2 rfl (by decide) v xs.length _ hs hown ad m c (iv ls) hx (by simp [iv, hr.1]) (mem.newsI hr) (iv_ones ls) (by unfold maxLen; omega) (by omega) ?_; intro v' w' h1 h2 h3; refine h v' w' ?_ h2 h3; unfold OwnI; rw [List.length_append, hr.1, iv_append]; exact h1
def FewR (l : List Int) (w : World) (e : Ending) (w' : World) : Prop := ∃ (a : Option Addr) (cp : Nat), e = .returned (.slice a l.length cp) ∧ ReadsI w' a l.length l ∧ l.length ≤ cp ∧ cp ≤ maxLen ∧ (∀ y, a = some y → w.heap.size ≤ y.block) ∧ Only (fun _ => False) w w'
set_option maxRecDepth 100000 in
set_option maxHeartbeats 8000000 in
theorem few_any (a : Option Addr) (len cap k : Nat) (l : List Int) (w : World) (h : IntsR w a len cap l) (hk : k ≤ 40) :
    Calls Tryz.prog 51 #[.slice a len cap, .int .i64 (k : Int)] w (FewR (l.take k) w) := by
  obtain ⟨hr, hlc, hcm, hnone⟩ := h; obtain ⟨n, hn⟩ : ∃ n, n = min len k := ⟨_, rfl⟩; have hl0 := hr.1; have hll : l.take k = l.take n := by
    rcases Nat.le_total len k with e | e
    · rw [hn, Nat.min_eq_left e, List.take_of_length_le (by omega), List.take_of_length_le (by omega)]
    · rw [hn, Nat.min_eq_right e]
  have hnl : n ≤ len := (by omega); have hn40 : n ≤ 40 := (by omega); have HR : Hid (ReadsI w a n (l.take n)) := hid (mem.ReadsI.take hr n hnl); have hlen : (l.take n).length = n := HR.out.1; rw [hll]; have HIN : Hid (∀ c ∈ l.take n, -9223372036854775808 ≤ c ∧ c ≤ 9223372036854775807) := hid HR.out.2.2.1; generalize l.take n = l' at *; unfold maxLen at hcm; rcases a with _ | x
  · obtain rfl : cap = 0 := hnone rfl; obtain rfl : len = 0 := (by omega); obtain rfl : n = 0 := (by omega); have hm0 : min (0 : Int) (k : Int) = 0 := (by omega); have HN : Hid (l' = []) := hid (List.eq_nil_of_length_eq_zero hlen); clear hr hnone hn hlen hll; go_enter Tryz.func51, Tryz.ntmps51
    (go_wp2_with fail); go_ret
    exact ⟨some ⟨w.heap.size, 0, none⟩, 0, by rw [HN.out]; rfl, by rw [HN.out]; exact ⟨rfl, (by decide), (fun c hc => by cases hc), Or.inl rfl⟩, by rw [HN.out]; exact Nat.le_refl _, by decide, fun y e => by cases e; exact Nat.le_refl _, (Only.refl _ w).alloc _⟩
  · have hmin : min (len : Int) (k : Int) = (n : Int) := (by omega); have hni : (0 : Int) ≤ (n : Int) := (by omega); have hnc : (n : Int) ≤ (cap : Int) := (by omega); have HOW : Hid (OwnI (w.alloc (.cells #[] 3)) (.slice (some ⟨w.heap.size, 0, none⟩) 0 0) []) := hid (World.ownsRow_lit w #[] 0 (Nat.zero_le _) (by decide) rfl); have HRW := hid (HR.out.only (S := fun _ => False) ((Only.refl _ w).alloc (.cells #[] 3)) (fun _ _ f => f)); have hn9 : (len ≤ k ∧ n = len) ∨ (k < len ∧ n = k) := (by omega); clear hr hnone hn hlen hmin hll; rcases hn9 with ⟨h9, rfl⟩ | ⟨h9, rfl⟩
    · have hmn : min (n : Int) (k : Int) = (n : Int) := (by omega); go_enter Tryz.func51, Tryz.ntmps51
      go_wp2_with (at_builtin; refine append_ints rfl _ _ rfl _ _ rfl HOW.out (some x) n cap l' rfl HRW.out (by rw [List.length_nil]; omega) ?_)
      intro v2 w2 hown hgrow hkk; have HF : Hid (FewR l' w (.returned v2) w2) := hid (by
        obtain ⟨a2, c2, hv, hrd, hlc2, hbk⟩ := OwnI.form hown HIN.out (by rw [HR.out.1]; omega); have hc2 : c2 ≤ maxLen := by
          rcases hown.2 with ⟨hv2, _⟩ | ⟨g9, cap9, cur9, hv2, _, _, _, hm9, _⟩
          · rw [hv2] at hv; injection hv with _ _ h3; rw [← h3]; decide
          · rw [hv2] at hv; injection hv with _ _ h3; rw [← h3]; exact hm9
        refine ⟨a2, c2, by rw [hv], hrd, hlc2, hc2, fun y hy => ?_, ((Only.refl _ w).alloc _).then (Only.of_grown hgrow) (fun q hq e => ?_)⟩
        · rcases hkk _ (hbk y hy) with e | e
          · have : w.heap.size = y.block := (by simpa [Value.ownBlock] using e); omega
          · have h9 := ((Only.refl (fun _ => False) w).alloc (.cells #[] 3)).size; omega
        · have : w.heap.size = q := (by simpa [Value.ownBlock] using e); omega)
      clear hown hgrow hkk; (go_wp2_with fail); go_ret
      exact HF.out
    · have hmn : min (len : Int) (n : Int) = (n : Int) := (by omega); go_enter Tryz.func51, Tryz.ntmps51
      go_wp2_with (at_builtin; refine append_ints rfl _ _ rfl _ _ rfl HOW.out (some x) n cap l' rfl HRW.out (by rw [List.length_nil]; omega) ?_)
      intro v2 w2 hown hgrow hkk; have HF : Hid (FewR l' w (.returned v2) w2) := hid (by
        obtain ⟨a2, c2, hv, hrd, hlc2, hbk⟩ := OwnI.form hown HIN.out (by rw [HR.out.1]; omega); have hc2 : c2 ≤ maxLen := by
          rcases hown.2 with ⟨hv2, _⟩ | ⟨g9, cap9, cur9, hv2, _, _, _, hm9, _⟩
          · rw [hv2] at hv; injection hv with _ _ h3; rw [← h3]; decide
          · rw [hv2] at hv; injection hv with _ _ h3; rw [← h3]; exact hm9
        refine ⟨a2, c2, by rw [hv], hrd, hlc2, hc2, fun y hy => ?_, ((Only.refl _ w).alloc _).then (Only.of_grown hgrow) (fun q hq e => ?_)⟩
        · rcases hkk _ (hbk y hy) with e | e
          · have : w.heap.size = y.block := (by simpa [Value.ownBlock] using e); omega
          · have h9 := ((Only.refl (fun _ => False) w).alloc (.cells #[] 3)).size; omega
        · have : w.heap.size = q := (by simpa [Value.ownBlock] using e); omega)
      clear hown hgrow hkk; (go_wp2_with fail); go_ret
      exact HF.out
end Go.Proofs.YtkbaafgaaiekpaaGreat.pdw
