/- Who is moved, and moved back: the mathematics; a new tree of the document's. -/
import Derived.Test.YtginfnceindojaaTrU
namespace Go.Proofs.Ytginfnceindojaa.tre
open Go.RowKit mem
set_option linter.unusedVariables false

def rv (l : List Nd) : List Value := l.flatMap encR
theorem rv_cons (x : Nd) (r : List Nd) : rv (x :: r) = encR x ++ rv r := by simp [rv]
theorem rv_get : ∀ (l : List Nd) (i c : Nat), i < l.length → c < 4 → (rv l)[i * 4 + c]? = (encR (l.getD i default))[c]? := by
  intro l
  induction l with
  | nil => intro i c hi; simp at hi
  | cons x r ih =>
    intro i c hi hc
    rw [rv_cons]
    cases i with
    | zero => rw [List.getElem?_append_left (by show 0 * 4 + c < 4; omega)]; simp
    | succ i =>
      rw [List.getElem?_append_right (by show 4 ≤ (i + 1) * 4 + c; omega)]
      have e : (i + 1) * 4 + c - (encR x).length = i * 4 + c := by show (i + 1) * 4 + c - 4 = _; omega
      rw [e, ih i c (by simpa using hi) hc]
      simp
theorem rzero_cells : Try.zeroCells49.toList = rv (List.replicate 32 default) := by kernel_rfl
theorem RAt.new (w : World) : RAt (w.alloc (.cells Try.zeroCells49 49)) w.heap.size T0 := by
  refine ⟨fun k hk => RnAt.iff.2 fun c hc => ?_, fun j hj => alloc_froz _ _ _ _ _ rfl⟩
  rw [Go.Joins.cell_of_block (cs := Try.zeroCells49) (t := 49) (fr := (0, 0)) (by rw [heap_alloc, if_pos rfl])]
  have h1 := rv_get (List.replicate 32 default) k c (by simpa using hk) hc
  rw [getD_rep] at h1
  rw [getD_T0, ← h1, ← rzero_cells, Array.getElem?_toList]
theorem movE_ok {T : List Nd} {id par : Int} (h : movE T id par = 0) : hasB T id = true ∧ (got T id).cl = false ∧ (got T id).kind ≠ 1 ∧ takE T par (got T id).kind = 0 ∧ (got T id).par ≠ par := by
  unfold movE at h
  by_cases hb : hasB T id = false
  · rw [if_pos hb] at h; simp at h
  · rw [if_neg hb] at h
    split at h
    · simp at h
    · rename_i q1
      split at h
      · simp at h
      · rename_i q2
        split at h
        · rename_i q3; exact absurd h q3
        · rename_i q3
          split at h
          · simp at h
          · rename_i q4
            exact ⟨by simpa using hb, by simpa using q1, q2, by simpa using q3, q4⟩
theorem set_back (T : List Nd) (k : Nat) (n : Nd) (hk : k < T.length) : (T.set k n).set k (T.getD k default) = T := by
  rw [List.set_set]
  have e : T.getD k default = T[k] := by simp [List.getD, hk]
  rw [e, List.set_getElem_self]
/-- what holds when a node was moved -/
theorem moved {T : List Nd} (h : Tok T) {id par : Int} (he : movE T id par = 0) :
    hasB T id = true ∧ hasB (movT T id par) id = true ∧ Tok (movT T id par) ∧ got (movT T id par) id = { got T id with par := par } ∧
    belowL (movT T id par) id = belowL T id ∧ (∃ m : Nat, (got T id).kind = (m : Int) + 2 ∧ m ≤ 1 ∧ (pathL (movT T id par) id).length = m + 2 ∧ (pathL (movT T id par) id).getD m 0 = par) ∧
    (got T id).par ≠ par ∧ hasB (movT T id par) (got T id).par = true ∧
    ((got (movT T id par) (got T id).par).cl = false → movE (movT T id par) id (got T id).par = 0 ∧ movT (movT T id par) id (got T id).par = T) := by
  have ht' := h.move id par
  obtain ⟨hb, hcl, hk1, htk, hnp⟩ := movE_ok he
  obtain ⟨k, rfl, k1, k2⟩ := hasB_lt hb
  have hT' : movT T k par = T.set k { got T k with par := par } := by unfold movT; rw [if_pos he, Int.toNat_natCast]
  rw [hT'] at ht' ⊢
  have hgo := got_has hb
  rw [hgo] at hcl hk1 htk hnp ht' ⊢
  have hn0 : (T.getD k default).id ≠ 0 := (hasB_nat.1 hb).2.2
  obtain ⟨i1, i2, i3, i4⟩ := h.inv k hb
  obtain ⟨i5, i6⟩ := i4 hk1
  have hset : ∀ j, (T.set k { T.getD k default with par := par }).getD j default = if j = k then { T.getD k default with par := par } else T.getD j default := fun j => getD_set T k j _ (by rw [h.len]; exact k2)
  have hhas : ∀ j : Nat, hasB (T.set k { T.getD k default with par := par }) j = hasB T j := fun j => by
    have := hasB_set (T := T) (k := k) (n := { T.getD k default with par := par }) h.len k2 k1 hn0 j
    rw [Bool.eq_iff_iff, this]
    exact ⟨fun e => e.elim (fun e => by rw [e]; exact hb) id, .inr⟩
  have hkind : ∀ x : Int, kindN (T.set k { T.getD k default with par := par }) x = kindN T x := fun x => by
    unfold kindN
    rw [hset]
    by_cases e : x.toNat = k
    · rw [if_pos e, e]
    · rw [if_neg e]
  have hb' : hasB (T.set k { T.getD k default with par := par }) (k : Int) = true := by rw [hhas]; exact hb
  obtain ⟨m2, hm2, m3, m4⟩ := hasB_lt i5
  have hne : m2 ≠ k := by
    intro e
    have h6 := i6
    rw [hm2, Int.toNat_natCast, e] at h6
    omega
  have hhx : ∀ x : Int, hasB T x = true → hasB (T.set k { T.getD k default with par := par }) x = true := fun x hx => by
    obtain ⟨m, rfl, _⟩ := hasB_lt hx
    rw [hhas]; exact hx
  have hup : ∀ n (u : Int), hasB T u = true → kindN T u = n → ((k : Int) ∈ upL (T.set k { T.getD k default with par := par }) n u ↔ (k : Int) ∈ upL T n u) := by
    intro n
    induction n with
    | zero => intro u _ _; exact Iff.rfl
    | succ n ih =>
      intro u hu hkn
      obtain ⟨j, rfl, j1, j2⟩ := hasB_lt hu
      show (k : Int) ∈ (j : Int) :: upL _ n _ ↔ (k : Int) ∈ (j : Int) :: upL T n _
      rw [List.mem_cons, List.mem_cons]
      by_cases e : (k : Int) = j
      · simp [e]
      · rw [Int.toNat_natCast, hset, if_neg (by omega)]
        obtain ⟨a1, a2, a3, a4⟩ := h.inv j hu
        unfold kindN at hkn
        rw [Int.toNat_natCast] at hkn
        by_cases e1 : (T.getD j default).kind = 1
        · obtain rfl : n = 0 := by rw [e1] at hkn; simp at hkn; omega
          simp [upL]
        · obtain ⟨a5, a6⟩ := a4 e1
          have := ih _ a5 (by unfold kindN; omega)
          rw [this]
  have hids : idsL (T.set k { T.getD k default with par := par }) = idsL T := by
    unfold idsL idsU
    congr 1
    exact List.filter_congr fun j _ => hhas j
  have hbel : belowL (T.set k { T.getD k default with par := par }) (k : Int) = belowL T (k : Int) := by
    unfold belowL
    rw [hids]
    refine List.filter_congr fun u hu => ?_
    have hu' := (idsU_in T 33 u hu).2.2
    unfold belF pathL
    rw [hkind, Bool.eq_iff_iff, List.contains_iff_mem, List.contains_iff_mem, List.mem_reverse, List.mem_reverse]
    exact hup _ u hu' rfl
  have hkp := kindN_pos h hb
  rw [Int.toNat_natCast] at hkp
  have hk2 : 2 ≤ kindN T k := by
    have := hkp.2.2
    omega
  have hgt : got (T.set k { T.getD k default with par := par }) k = { T.getD k default with par := par } := by rw [got_has hb', hset, if_pos rfl]
  refine ⟨hb, hb', ht', hgt, hbel, ⟨kindN T k - 2, by rw [hkp.2.2]; omega, by omega, ?_, ?_⟩, hnp, hhx _ i5, fun hc => ?_⟩
  · rw [pathL_len, hkind]; omega
  · unfold pathL
    rw [hkind]
    obtain ⟨n, hn⟩ : ∃ n, kindN T k = n + 2 := ⟨kindN T k - 2, by omega⟩
    rw [hn, List.getD_eq_getElem?_getD, List.getElem?_reverse (by rw [upL_len]; omega), upL_len, show n + 2 - 1 - (n + 2 - 2) = 1 by omega]
    show ((k : Int) :: upL _ (n + 1) _)[1]?.getD 0 = par
    rw [Int.toNat_natCast, hset, if_pos rfl]
    rfl
  · have e1 : movE (T.set k { T.getD k default with par := par }) k (T.getD k default).par = 0 := by
      unfold movE
      rw [if_neg (by rw [hb']; simp), hgt]
      dsimp only
      rw [if_neg (by rw [hcl]; simp), if_neg hk1]
      have e2 : takE (T.set k { T.getD k default with par := par }) (T.getD k default).par (T.getD k default).kind = 0 := by
        unfold takE
        rw [if_neg (by rw [hhx _ i5]; simp)]
        have hg2 : (got (T.set k { T.getD k default with par := par }) (T.getD k default).par).kind = (T.getD k default).kind - 1 := by
          rw [hm2, got_has (by rw [hhas, ← hm2]; exact i5), hset, if_neg hne]
          rw [hm2, Int.toNat_natCast] at i6
          exact i6
        rw [if_neg (by rw [hg2]; simp), if_neg (by rw [hc]; simp)]
      rw [e2, if_neg (by simp), if_neg (fun e => hnp e.symm)]
    refine ⟨e1, ?_⟩
    unfold movT
    rw [if_pos e1, hgt, Int.toNat_natCast]
    exact set_back T k _ (by rw [h.len]; exact k2)
end Go.Proofs.Ytginfnceindojaa.tre
