/- The tree's paths, as mathematics; a row of acts. -/
import Derived.Test.YtfpeimihlihphaaTrG
import Derived.OpenShut
import Derived.ChangeOld
namespace Go.Proofs.Ytfpeimihlihphaa.tre
open Go.RowKit mem
set_option linter.unusedVariables false

theorem upL_get {T : List Nd} (h : Tok T) : ∀ n (id : Int), hasB T id = true → kindN T id = n → ∀ j, j < n → hasB T ((upL T n id).getD j 0) = true ∧ kindN T ((upL T n id).getD j 0) = n - j ∧ ((T.getD ((upL T n id).getD j 0).toNat default).cl = true → (T.getD id.toNat default).cl = true) := by
  intro n
  induction n with
  | zero => intro id _ _ j hj; omega
  | succ n ih =>
    intro id hb hk j hj
    obtain ⟨m, rfl, m1, m2⟩ := hasB_lt hb
    cases j with
    | zero => exact ⟨hb, hk, id⟩
    | succ j =>
      obtain ⟨h1, h2, h3, h4⟩ := h.inv m hb
      have hk' : (T.getD m default).kind.toNat = n + 1 := by unfold kindN at hk; rw [Int.toNat_natCast] at hk; exact hk
      have hn1 : (T.getD m default).kind ≠ 1 := by omega
      obtain ⟨h5, h6⟩ := h4 hn1
      have := ih (T.getD m default).par h5 (by unfold kindN; omega) j (by omega)
      have e : (upL T (n + 1) (m : Int)).getD (j + 1) 0 = (upL T n (T.getD m default).par).getD j 0 := by
        show ((m : Int) :: upL T n (T.getD (m : Int).toNat default).par).getD (j + 1) 0 = _
        rw [Int.toNat_natCast]
        rfl
      rw [e, Int.toNat_natCast]
      exact ⟨this.1, by rw [this.2.1]; omega, fun q => h.opn m hb hn1 (this.2.2 q)⟩
theorem kindN_pos {T : List Nd} (h : Tok T) {u : Int} (hb : hasB T u = true) : 1 ≤ kindN T u ∧ kindN T u ≤ 3 ∧ (T.getD u.toNat default).kind = kindN T u := by
  obtain ⟨m, rfl, m1, m2⟩ := hasB_lt hb
  obtain ⟨h1, h2, _⟩ := h.inv m hb
  unfold kindN
  rw [Int.toNat_natCast]
  omega
theorem pathL_len (T : List Nd) (u : Int) : (pathL T u).length = kindN T u := by unfold pathL; rw [List.length_reverse, upL_len]
theorem pathL_get {T : List Nd} (h : Tok T) {u : Int} (hb : hasB T u = true) (k : Nat) (hk : k < kindN T u) :
    hasB T ((pathL T u).getD k 0) = true ∧ (T.getD ((pathL T u).getD k 0).toNat default).kind = k + 1 ∧ ((T.getD ((pathL T u).getD k 0).toNat default).cl = true → (T.getD u.toNat default).cl = true) ∧ belF T ((pathL T u).getD k 0) u = true := by
  have hlen := pathL_len T u
  have e : (pathL T u).getD k 0 = (upL T (kindN T u) u).getD (kindN T u - 1 - k) 0 := by
    have h1 : k < (upL T (kindN T u) u).length := by rw [upL_len]; exact hk
    unfold pathL
    rw [List.getD_eq_getElem?_getD, List.getElem?_reverse h1, upL_len, List.getD_eq_getElem?_getD]
  have hm : (pathL T u).getD k 0 ∈ pathL T u := by
    have h1 : k < (pathL T u).length := by rw [hlen]; exact hk
    have : (pathL T u).getD k 0 = (pathL T u)[k] := by simp [List.getD, h1]
    rw [this]; exact List.getElem_mem _
  obtain ⟨a, b, c⟩ := upL_get h (kindN T u) u hb rfl (kindN T u - 1 - k) (by omega)
  rw [← e] at a b c
  refine ⟨a, ?_, c, by unfold belF; simpa using hm⟩
  have := (kindN_pos h a).2.2
  rw [this, b]
  omega
theorem pathL_last {T : List Nd} (h : Tok T) {u : Int} (hb : hasB T u = true) : (pathL T u).getD (kindN T u - 1) 0 = u := by
  have h1 := kindN_pos h hb
  obtain ⟨n, hn⟩ : ∃ n, kindN T u = n + 1 := ⟨kindN T u - 1, by omega⟩
  unfold pathL
  rw [hn, List.getD_eq_getElem?_getD, List.getElem?_reverse (by rw [upL_len]; omega), upL_len]
  simp [upL]
theorem below_has {T : List Nd} {x u : Int} (hb : hasB T u = true) (h : belF T x u = true) : (belowL T x).contains u = true := by
  obtain ⟨m, rfl, m1, m2⟩ := hasB_lt hb
  have : (m : Int) ∈ belowL T x := by
    unfold belowL
    rw [List.mem_filter]
    refine ⟨?_, h⟩
    unfold idsL idsU
    rw [List.mem_map]
    exact ⟨m, List.mem_filter.2 ⟨List.mem_range.2 m2, hb⟩, rfl⟩
  simpa using this
theorem belowL_in {T : List Nd} {x : Int} : ∀ c ∈ belowL T x, 0 ≤ c ∧ c ≤ 32 ∧ hasB T c = true := fun c hc => idsU_in T 33 c (List.mem_filter.1 hc).1
theorem belowL_len (T : List Nd) (x : Int) : (belowL T x).length ≤ 33 := Nat.le_trans (List.length_filter_le _ _) (idsU_len T 33)
theorem contains_step (l : List Int) (u : Int) (k : Nat) (h : k < l.length) : (l.take (k + 1)).contains u = ((l.take k).contains u || l.getD k 0 == u) := by
  have e : l.getD k 0 = l[k] := by simp [List.getD, h]
  rw [List.take_succ_eq_append_getElem h, List.contains_append, e]
  have e2 : [l[k]].contains u = (l[k] == u) := by
    rw [Bool.eq_iff_iff, List.contains_iff_mem, List.mem_singleton, beq_iff_eq]
    exact ⟨fun q => q.symm, fun q => q.symm⟩
  rw [e2]
def InJ (c : Int) : Prop := -9223372036854775808 ≤ c ∧ c ≤ 9223372036854775807
/-- a row of acts -/
def RowS (w : World) (a : Option Addr) (len : Nat) : Prop := len ≤ maxLen ∧ (len = 0 ∨ ∃ b off, a = some ⟨b, off, none⟩ ∧ ∀ i, i < len → ∃ x0 x1 x2 x3 x4 : Int, (InJ x0 ∧ InJ x1 ∧ InJ x2 ∧ InJ x3 ∧ InJ x4) ∧ w.cell? ⟨b, off + i * 5, none⟩ = some (.int .i64 x0) ∧ w.cell? ⟨b, off + i * 5 + 1, none⟩ = some (.int .i64 x1) ∧ w.cell? ⟨b, off + i * 5 + 2, none⟩ = some (.int .i64 x2) ∧ w.cell? ⟨b, off + i * 5 + 3, none⟩ = some (.int .i64 x3) ∧ w.cell? ⟨b, off + i * 5 + 4, none⟩ = some (.int .i64 x4))
section
open Go.ChangeShapes Go.WideShapes Go.ChangeAt
variable {H : Type} {enc : TypeId × Value → H} {w : World} {base : Nat}
set_option maxRecDepth 100000 in
theorem acts_open {fuel : Nat} {ao : Option Addr} {len cap : Nat} {x : DataW H × List MemPlace} (h : DataW.trod enc Try.prog w base (fun _ => true) true fuel 22 [.slice ao len cap] = some x) : RowS w ao len := by
  rcases Go.Deep.open_slice Try.underlying22 h with ⟨hcs, _⟩ | ⟨a, len2, cap2, m, n, D, Pl, hcs, hb, hl, hm, hmm, hx, hi⟩
  · simp at hcs
    obtain ⟨rfl, rfl, rfl⟩ := hcs
    exact ⟨by unfold maxLen; omega, .inl rfl⟩
  · simp at hcs
    obtain ⟨rfl, rfl, rfl⟩ := hcs
    simp at hmm
    have hC : Try.prog.cellsOf 46 = 5 := by kernel_rfl
    rw [hC] at hi
    have key : ∀ i, i < len → ∃ x0 x1 x2 x3 x4 : Int, (InJ x0 ∧ InJ x1 ∧ InJ x2 ∧ InJ x3 ∧ InJ x4) ∧ w.cell? ((a.add (i * 5)).add 0) = some (.int .i64 x0) ∧ w.cell? ((a.add (i * 5)).add 1) = some (.int .i64 x1) ∧ w.cell? ((a.add (i * 5)).add 2) = some (.int .i64 x2) ∧ w.cell? ((a.add (i * 5)).add 3) = some (.int .i64 x3) ∧ w.cell? ((a.add (i * 5)).add 4) = some (.int .i64 x4) := by
      intro i hil
      obtain ⟨cs', hc, ht'⟩ := hi i (by omega)
      obtain ⟨ys, n', _, _, hlen, hyl, hf⟩ := DataW.trod_struct Try.underlying46 ht'
      obtain ⟨_, hcl, hat⟩ := World.cells?_some hc
      match cs', ys, hcl, hyl, hat, hf with
      | [c0, c1, c2, c3, c4], [y0, y1, y2, y3, y4], _, _, hat, hf =>
        have f0 := hf 0 _ rfl
        have f1 := hf 1 _ rfl
        have f2 := hf 2 _ rfl
        have f3 := hf 3 _ rfl
        have f4 := hf 4 _ rfl
        have o3 : Try.prog.cellsOf 3 = 1 := by kernel_rfl
        simp [o3] at f0 f1 f2 f3 f4
        obtain ⟨k0, hk0, _, w0⟩ := DataW.trod_int Try.underlying3 f0
        obtain ⟨k1, hk1, _, w1⟩ := DataW.trod_int Try.underlying3 f1
        obtain ⟨k2, hk2, _, w2⟩ := DataW.trod_int Try.underlying3 f2
        obtain ⟨k3, hk3, _, w3⟩ := DataW.trod_int Try.underlying3 f3
        obtain ⟨k4, hk4, _, w4⟩ := DataW.trod_int Try.underlying3 f4
        simp at hk0 hk1 hk2 hk3 hk4
        subst hk0 hk1 hk2 hk3 hk4
        exact ⟨k0, k1, k2, k3, k4, ⟨mem.int_of_wf w0, mem.int_of_wf w1, mem.int_of_wf w2, mem.int_of_wf w3, mem.int_of_wf w4⟩, by simpa using hat 0 (by omega), by simpa using hat 1 (by omega), by simpa using hat 2 (by omega), by simpa using hat 3 (by omega), by simpa using hat 4 (by omega)⟩
    by_cases h0 : len = 0
    · subst h0
      exact ⟨by unfold maxLen; omega, .inl rfl⟩
    · obtain ⟨b, off, spot⟩ := a
      obtain ⟨_, _, _, _, _, _, d0, _⟩ := key 0 (by omega)
      have hspot : spot = none := by simpa [Addr.add] using World.cell?_spot d0
      subst hspot
      refine ⟨by omega, .inr ⟨b, off, rfl, fun i hil => ?_⟩⟩
      obtain ⟨x0, x1, x2, x3, x4, hin, d0, d1, d2, d3, d4⟩ := key i hil
      rw [add_none, add_none] at d0 d1 d2 d3 d4
      rw [Nat.add_zero] at d0
      exact ⟨x0, x1, x2, x3, x4, hin, d0, d1, d2, d3, d4⟩
end
theorem wrap64_eq (n : Int) : wrap64 n = (n + 9223372036854775808) % 18446744073709551616 - 9223372036854775808 := by unfold wrap64; rfl
theorem tmod_in (y m : Int) (hm : 0 < m) (hm2 : m ≤ 100000000000000000) : 0 ≤ wrap64 ((IntKind.u64.wrap y).tmod m) ∧ wrap64 ((IntKind.u64.wrap y).tmod m) < m := by
  have e : IntKind.u64.wrap y = y % 18446744073709551616 := by rw [IntKind.wrap_u64]
  rw [e]
  have h1 : 0 ≤ y % 18446744073709551616 := Int.emod_nonneg _ (by decide)
  rw [Int.tmod_eq_emod_of_nonneg h1]
  have h2 := Int.emod_nonneg (y % 18446744073709551616) (show m ≠ 0 by omega)
  have h3 := Int.emod_lt_of_pos (y % 18446744073709551616) hm
  rw [wrap64_eq]
  omega
end Go.Proofs.Ytfpeimihlihphaa.tre
