/- The document's Path and Below. -/
import Derived.Test.YtginfnceindojaaTrV
namespace Go.Proofs.Ytginfnceindojaa.tre
open Go.RowKit mem
set_option linter.unusedVariables false

def PQ (T : List Nd) (id : Int) : List Int := if hasB T id = true then pathL T id else []
def dep (T : List Nd) (id : Int) : Nat := if hasB T id = true then kindN T id else 0
theorem PQ_len (T : List Nd) (id : Int) : (PQ T id).length = dep T id := by
  unfold PQ dep
  by_cases h : hasB T id = true
  · rw [if_pos h, if_pos h, pathL_len]
  · rw [if_neg h, if_neg h]; rfl
theorem PQ_no {T : List Nd} {id : Int} (h : hasB T id = false) : PQ T id = [] := by unfold PQ; rw [if_neg (by rw [h]; simp)]
theorem PQ_step {T : List Nd} (h : Tok T) {j : Nat} (hb : hasB T ((j : Int) + 1) = true) : PQ T ((j : Int) + 1) = PQ T (T.getD (j + 1) default).par ++ [(j : Int) + 1] ∧ dep T ((j : Int) + 1) = dep T (T.getD (j + 1) default).par + 1 ∧ dep T ((j : Int) + 1) ≤ 3 := by
  obtain ⟨h1, h2, h3, h4⟩ := h.inv (j + 1) hb
  have hkn : kindN T ((j : Int) + 1) = (T.getD (j + 1) default).kind.toNat := by unfold kindN; rw [show ((j : Int) + 1).toNat = j + 1 by omega]
  have hd : dep T ((j : Int) + 1) = (T.getD (j + 1) default).kind.toNat := by unfold dep; rw [if_pos hb, hkn]
  obtain ⟨n, hn⟩ : ∃ n : Nat, (T.getD (j + 1) default).kind.toNat = n + 1 := ⟨(T.getD (j + 1) default).kind.toNat - 1, by omega⟩
  have hp : PQ T ((j : Int) + 1) = (upL T n (T.getD (j + 1) default).par).reverse ++ [(j : Int) + 1] := by
    unfold PQ
    rw [if_pos hb]
    unfold pathL
    rw [hkn, hn]
    show (((j : Int) + 1) :: upL T n (T.getD ((j : Int) + 1).toNat default).par).reverse = _
    rw [show ((j : Int) + 1).toNat = j + 1 by omega, List.reverse_cons]
  by_cases hk : (T.getD (j + 1) default).kind = 1
  · have hp0 := h3 hk
    obtain rfl : n = 0 := by rw [hk] at hn; simp at hn; omega
    have h0 : hasB T 0 = false := by simp [hasB]
    rw [hp0] at hp ⊢
    refine ⟨by rw [hp, PQ_no h0]; rfl, by rw [hd, hn]; unfold dep; rw [if_neg (by rw [h0]; simp)], by omega⟩
  · obtain ⟨h5, h6⟩ := h4 hk
    have hk2 : kindN T (T.getD (j + 1) default).par = n := by unfold kindN; omega
    refine ⟨?_, by rw [hd, hn]; unfold dep; rw [if_pos h5, hk2], by omega⟩
    rw [hp]
    unfold PQ
    rw [if_pos h5]
    unfold pathL
    rw [hk2]
theorem PQ_in {T : List Nd} (h : Tok T) (id : Int) : ∀ c ∈ PQ T id, 0 ≤ c ∧ c ≤ 100 := by
  intro c hc
  unfold PQ at hc
  by_cases hb : hasB T id = true
  · rw [if_pos hb] at hc
    have := hasB_iff.1 (pathL_in h.inv hb c hc)
    omega
  · rw [if_neg hb] at hc; cases hc
theorem own_lt {w : World} {v : Value} {l : List Int} (h : OwnI w v l) : ∀ q, v.ownBlock = some q → q < w.heap.size := by
  intro q hq
  rcases h.2 with ⟨hv, _⟩ | ⟨g, cap, cur, hv, hg, hh, _⟩
  · rw [hv] at hq; cases hq
  · rw [hv] at hq
    cases hq
    exact heap_lt hh
set_option maxRecDepth 100000 in
set_option maxHeartbeats 4000000 in
theorem rpath_n : ∀ (n p : Nat) (T : List Nd) (id : Int) (w : World), RAt w p T → Tok T → Nul T → dep T id = n → Calls Try.prog 26 #[.pointer (some ⟨p, 0, none⟩), .int .i64 id] w fun e w' => (∃ v, e = .returned v ∧ OwnI w' v (PQ T id) ∧ ∀ q, v.ownBlock = some q → w.heap.size ≤ q) ∧ Only (fun _ => False) w w' := by
  intro n
  induction n with
  | zero =>
    intro p T id w h ht hn hd
    have hb : hasB T id = false := by
      by_cases hb : hasB T id = true
      · have := kindN_pos ht hb
        unfold dep at hd
        rw [if_pos hb] at hd
        omega
      · simpa using hb
    have HH := Lib.hid (there_any p T id w h ht hn)
    rw [hb] at HH
    rw [PQ_no hb]
    clear h ht hn hd hb
    go_enter Try.func26, Try.ntmps26
    go_wp2_with fail
    refine HH.out.mono ?_
    rintro _ _ ⟨rfl, rfl⟩
    go_wp2_with fail
    go_ret
    exact ⟨⟨_, rfl, OwnI.nil _, fun q e => by cases e⟩, Only.refl _ _⟩
  | succ n ih =>
    intro p T id w h ht hn hd
    obtain ⟨i1, hj, hy0, hy1, hy2⟩ : ∃ i1, Try.prog.info? 3 = some i1 ∧ i1.zero = some (.int .i64 0) ∧ i1.size = 1 ∧ i1.bytes = 8 := by
      obtain ⟨i, h1, h2⟩ := Option.map_eq_some_iff.1 info_i64
      exact ⟨i, h1, by simpa using h2⟩
    have hb : hasB T id = true := by
      by_cases hb : hasB T id = true
      · exact hb
      · unfold dep at hd; rw [if_neg hb] at hd; omega
    have HH := Lib.hid (there_any p T id w h ht hn)
    rw [hb] at HH
    obtain ⟨m, rfl, m1, m2⟩ := hasB_lt hb
    obtain ⟨j, rfl⟩ : ∃ j, m = j + 1 := ⟨m - 1, by omega⟩
    have hji : ((j + 1 : Nat) : Int) = (j : Int) + 1 := by omega
    rw [hji] at hb hd HH ⊢
    have hj32 : j < 32 := by omega
    have hj2 : (j : Int) < 32 := by omega
    have hj0 : (0 : Int) ≤ j := by omega
    have hwj : IntKind.i64.wrap (j : Int) = (j : Int) := IntWalk.i64_in _ (by omega)
    have c0 := (h.1 j hj32).1
    obtain ⟨hs1, hs2, hs3⟩ := PQ_step ht hb
    have HR := Lib.hid (ih p T (T.getD (j + 1) default).par w h ht hn (by omega))
    have HS1 := Lib.hid hs1
    have hl : (PQ T (T.getD (j + 1) default).par).length ≤ 2 := by rw [PQ_len]; omega
    generalize PQ T (T.getD (j + 1) default).par = L at *
    generalize PQ T ((j : Int) + 1) = L2 at *
    generalize (T.getD (j + 1) default).par = y at *
    clear h ht hn hd hb hs1 hs2 hs3 ih hji m1 m2
    go_enter Try.func26, Try.ntmps26
    go_wp2_with fail
    refine HH.out.mono ?_
    rintro _ _ ⟨rfl, rfl⟩
    go_wp2_with fail
    refine HR.out.mono ?_
    rintro _ w3 ⟨⟨dv, rfl, hown, hbk⟩, ho⟩
    have HO := Lib.hid ho
    have HBK := Lib.hid hbk
    have HOW2 : Hid ((w3.alloc (.cells #[.int .i64 ((j : Int) + 1)] 3)).ownsRow 0 3 1 dv L.length (iv L)) := Lib.hid (hown.only ((Only.refl (fun _ => False) w3).alloc _) (fun _ _ f => f))
    generalize hnl : L.length = l at *
    have HN := Lib.hid hnl
    clear hown hbk ho hnl c0
    go_wp2_with (at_builtin; refine append_mine rfl _ _ 22 rfl 3 i1 _ 1 8 Try.underlying22 hj hy0 hy1 hy2 rfl (by decide) _ l _ rfl HOW2.out ⟨w3.heap.size, 0, none⟩ 1 1 (iv [(j : Int) + 1]) rfl ?c1 ?c2 ?c3 ?c4 ?c5 ?_)
    case c1 => rfl
    case c2 => exact news_int rfl _
    case c3 => exact iv_one _
    case c4 => unfold maxLen; omega
    case c5 => omega
    intro v4 w4 hown hgrow hkk
    have HON : Hid (OwnI w4 v4 L2) := Lib.hid (by
      unfold OwnI
      rw [HS1.out, iv_append, List.length_append, HN.out]
      exact hown)
    have HBN : Hid (∀ q, v4.ownBlock = some q → w.heap.size ≤ q) := Lib.hid (fun q hq => by
      rcases hkk q hq with e | e
      · exact HBK.out q e
      · have h5 : w3.heap.size ≤ q := by first | omega | (simp only [size_alloc] at e; omega)
        have := HO.out.size
        omega)
    have HON2 : Hid (Only (fun _ => False) w w4) := Lib.hid ((HO.out.alloc _).then (Only.of_grown hgrow) (fun q hq e => by have := HBK.out q e; omega))
    clear hown hgrow hkk HOW2 HN HS1
    go_wp2_with fail
    go_ret
    exact ⟨⟨_, rfl, HON.out, HBN.out⟩, HON2.out⟩
theorem rpath_any (p : Nat) (T : List Nd) (id : Int) (w : World) (h : RAt w p T) (ht : Tok T) (hn : Nul T) : Calls Try.prog 26 #[.pointer (some ⟨p, 0, none⟩), .int .i64 id] w fun e w' => (∃ v, e = .returned v ∧ OwnI w' v (PQ T id) ∧ ∀ q, v.ownBlock = some q → w.heap.size ≤ q) ∧ Only (fun _ => False) w w' := rpath_n _ p T id w h ht hn rfl

def belU (T : List Nd) (id : Int) (k : Nat) : List Int := (idsU T k).filter (belF T id)
theorem PQ_one {T : List Nd} (h : Tok T) (u id : Int) (k : Nat) (hk : k < (PQ T u).length) (he : (PQ T u).getD k 0 = id) : ¬ id ∈ (PQ T u).take k := by
  intro hm
  by_cases hb : hasB T u = true
  · have e : PQ T u = pathL T u := by unfold PQ; rw [if_pos hb]
    rw [e] at hk he hm
    obtain ⟨i, hi, hi2⟩ := List.mem_iff_getElem.1 hm
    rw [List.length_take] at hi
    rw [List.getElem_take] at hi2
    have hil : i < (pathL T u).length := by omega
    have h1 := (pathL_get h hb i (by rw [← pathL_len]; exact hil)).2.1
    have h2 := (pathL_get h hb k (by rw [← pathL_len]; exact hk)).2.1
    have e1 : (pathL T u).getD i 0 = id := by rw [← hi2]; simp [List.getD, hil]
    rw [e1] at h1
    rw [he] at h2
    rw [h1] at h2
    omega
  · have e : PQ T u = [] := PQ_no (by simpa using hb)
    rw [e] at hk
    simp at hk
theorem bel_step (T : List Nd) (id : Int) (k : Nat) : belU T id (k + 1) = belU T id k ++ (if id ∈ PQ T k then [(k : Int)] else []) := by
  unfold belU
  rw [idsU_succ]
  by_cases hb : hasB T k = true
  · rw [if_pos hb, List.filter_append]
    have e : PQ T (k : Int) = pathL T k := by unfold PQ; rw [if_pos hb]
    rw [e]
    congr 1
    by_cases hm : id ∈ pathL T (k : Int)
    · rw [if_pos hm, List.filter_cons_of_pos (by unfold belF; simpa using hm)]; rfl
    · rw [if_neg hm, List.filter_cons_of_neg (by unfold belF; simpa using hm)]; rfl
  · rw [if_neg hb, PQ_no (by simpa using hb), if_neg (by simp), List.append_nil]
theorem belU_one (T : List Nd) (id : Int) : belU T id 1 = [] := by
  have h0 : hasB T ((0 : Nat) : Int) = false := by simp [hasB]
  have : idsU T 1 = [] := by rw [idsU_succ, if_neg (by rw [h0]; simp)]; rfl
  unfold belU
  rw [this]; rfl
theorem take_mem_step (l : List Int) (id : Int) (k : Nat) (h : k < l.length) : (id ∈ l.take (k + 1) ↔ id ∈ l.take k ∨ l.getD k 0 = id) := by
  have e : l.getD k 0 = l[k] := by simp [List.getD, h]
  rw [List.take_succ_eq_append_getElem h, List.mem_append, List.mem_singleton, e]
  exact ⟨fun q => q.imp (fun x => x) Eq.symm, fun q => q.imp (fun x => x) Eq.symm⟩
end Go.Proofs.Ytginfnceindojaa.tre
