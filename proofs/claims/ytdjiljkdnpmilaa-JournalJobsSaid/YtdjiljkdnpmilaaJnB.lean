/- The journal: what is added to the accounts' rows; a row in a box of its own. -/
import Derived.Test.YtdjiljkdnpmilaaJnA
import Derived.Deep.MidRow
import Derived.Deep.WholeRow
namespace Go.Proofs.Ytdjiljkdnpmilaa.jnw
open Go.RowKit mem accm accn entw entm
set_option linter.unusedVariables false

/-- a leg's account -/
def lgA (l : Lg) : Ac := ⟨l.k, l.n, l.g⟩
theorem lgA_in {l : Lg} (h : InL l) : InA (lgA l) := ⟨h.1, h.2.1, h.2.2.1⟩
/-- a row with x more at a place -/
def rowAdd (r : List Int) (op : Nat) (x : Int) : List Int := r.set op (wrap64 (r.getD op 0 + x))
theorem wrap_in (x : Int) : I64 (wrap64 x) := by unfold I64 wrap64; omega
theorem rowAdd_row {r : List Int} (h : Row r) (op : Nat) (x : Int) : Row (rowAdd r op x) := by
  unfold rowAdd
  refine ⟨by rw [List.length_set]; exact h.1, fun c hc => ?_⟩
  rcases List.mem_or_eq_of_mem_set hc with hc | hc
  · exact h.2 c hc
  · rw [hc]; exact wrap_in _
/-- the rows with the legs' amounts added in a period -/
def addC (C : Ac → Option (List Int)) (op : Nat) : List Lg → Ac → Option (List Int)
  | [] => C
  | l :: r => addC (updA C (lgA l) (rowAdd ((C (lgA l)).getD noughts) op l.a)) op r
theorem addC_snoc (op : Nat) (l : Lg) : ∀ (r : List Lg) (C : Ac → Option (List Int)), addC C op (r ++ [l]) = updA (addC C op r) (lgA l) (rowAdd (((addC C op r) (lgA l)).getD noughts) op l.a) := by
  intro r
  induction r with
  | nil => intro C; rfl
  | cons x r ih => intro C; exact ih _
theorem addC_take (C : Ac → Option (List Int)) (op : Nat) (ls : List Lg) (k : Nat) (h : k < ls.length) : addC C op (ls.take (k + 1)) = updA (addC C op (ls.take k)) (lgA (ls.getD k default)) (rowAdd (((addC C op (ls.take k)) (lgA (ls.getD k default))).getD noughts) op (ls.getD k default).a) := by
  rw [take_snocL ls k h, addC_snoc]

theorem row_size {l : List Int} (h : Row l) : (iv l).toArray.size = 32 := by simp [iv, h.1]
theorem row_one {l : List Int} : (iv l).toArray.all (·.oneCell') = true := all_oneCell_toArray (iv_one l)
theorem size_row : (Try.prog.info? 89).map (·.size) = some 32 := by kernel_rfl
theorem store_row {l : List Int} (h : Row l) (w : World) (c : Array Value) (hc : c.size = 32) :
    (Instr.storeAt 89 (.pointer (some ⟨w.heap.size, 0, none⟩)) (sec l)).run Try.prog (w.alloc (.cells c 89)) = .ok () (w.alloc (.cells (iv l).toArray 89)) :=
  run_storeAt_new (P := Try.prog) w 89 c (iv l).toArray (by rw [size_row, row_size h]) (by rw [hc, row_size h]) row_one
theorem store_rowc {l : List Int} (h : Row l) (w : World) (c : Array Value) (hc : c.size = 32) :
    Sem.run Try.prog (storeCells ⟨w.heap.size, 0, none⟩ (iv l)) (w.alloc (.cells c 89)) = .ok () (w.alloc (.cells (iv l).toArray 89)) := by
  have := run_storeCells_new (P := Try.prog) w 89 c (iv l).toArray (by rw [size_row, row_size h]) (by rw [hc, row_size h]) row_one
  simpa using this
theorem load_row {w : World} {b : Nat} {l : List Int} (h : Row l) (hr : w.rangeAt b 0 (iv l)) :
    Sem.run Try.prog (loadCellsFrom ⟨b, 0, none⟩ 0 32 #[]) w = .ok (iv l).toArray w := by
  have := run_loadCells_list (P := Try.prog) w ⟨b, 0, none⟩ (iv l) (fun j v hv => by rw [Addr.add_mid]; exact hr j v hv)
  have hl : (iv l).length = 32 := by simp [iv, h.1]
  rw [hl] at this
  simpa [loadCells] using this

/-- a row in a box -/
def BoxR (w : World) (q : Nat) (l : List Int) : Prop := (∀ j, j < 32 → w.cell? ⟨q, j, none⟩ = some (.int .i64 (l.getD j 0))) ∧ ∀ j, j < 32 → w.frozen? ⟨q, j, none⟩ = false
theorem BoxR.new {l : List Int} (h : Row l) (w : World) (t : TypeId) : BoxR (w.alloc (.cells (iv l).toArray t)) w.heap.size l :=
  ⟨fun j hj => alloc_new _ _ _ _ _ _ rfl (by simp [iv, List.getD, h.1, hj]), fun j _ => alloc_froz _ _ _ _ _ rfl⟩
theorem BoxR.only {S : Nat → Prop} {w w' : World} {q : Nat} {l : List Int} (h : BoxR w q l) (ho : Only S w w') (hs : ¬ S q) : BoxR w' q l :=
  ⟨fun j hj => ho.cell' (h.1 j hj) hs, fun j hj => (ho.frozen (p := ⟨q, j, none⟩) (World.block_lt_of_cell? w _ (h.1 j hj)) hs).trans (h.2 j hj)⟩
theorem BoxR.set {w : World} {q : Nat} {l : List Int} (h : BoxR w q l) (hl : l.length = 32) (k : Nat) (hk : k < 32) (x : Int) : BoxR (w.setCell ⟨q, k, none⟩ (.int .i64 x)) q (l.set k x) := by
  refine ⟨fun j hj => ?_, fun j hj => by rw [frozen_set]; exact h.2 j hj⟩
  by_cases e : j = k
  · subst e
    rw [cell_same (h.1 j hj)]
    simp [List.getD, hl, hj]
  · rw [cell_other (fun q => e (by injection q with _ q; exact q.symm)), h.1 j hj]
    have : (l.set k x).getD j 0 = l.getD j 0 := by simp [List.getD, List.getElem?_set_ne (fun q => e q.symm)]
    rw [this]
theorem BoxR.range {w : World} {q : Nat} {l : List Int} (h : BoxR w q l) (hl : l.length = 32) : w.rangeAt q 0 (iv l) := by
  intro j v hv
  have hj : j < 32 := by
    have := (List.getElem?_eq_some_iff.1 hv).1
    simp [iv, hl] at this
    exact this
  have := h.1 j hj
  have e : v = .int .i64 (l.getD j 0) := by
    simp [iv, hl, hj] at hv
    rw [← hv]
    simp [List.getD, hl, hj]
  rw [e]
  simpa using this
end Go.Proofs.Ytdjiljkdnpmilaa.jnw
