/- CreditTurns' walk. -/
import Derived.Test.YtglcdpggngcdeaaCrD
import Derived.Test.YtglcdpggngcdeaaOpU
import Derived.Deep.CutRange
import Derived.Deep.CutBlock
import Derived.Lib.MinMax
namespace Go.Proofs.Ytglcdpggngcdeaa.crd
open Go.RowKit mem rowz owi
set_option linter.unusedVariables false

theorem wrap64_eq (n : Int) : wrap64 n = (n + 9223372036854775808) % 18446744073709551616 - 9223372036854775808 := by unfold wrap64; rfl
theorem tmod_in (y m : Int) (hm : 0 < m) (hm2 : m ≤ 100000000000000000) : 0 ≤ wrap64 ((IntKind.u64.wrap y).tmod m) ∧ wrap64 ((IntKind.u64.wrap y).tmod m) < m := by
  have e : IntKind.u64.wrap y = y % 18446744073709551616 := by rw [IntKind.wrap_u64]
  have h0 : 0 ≤ y % 18446744073709551616 := Int.emod_nonneg _ (by omega)
  rw [e, Int.tmod_eq_emod_of_nonneg h0]
  have h1 := Int.emod_nonneg (y % 18446744073709551616) (show m ≠ 0 by omega)
  have h2 := Int.emod_lt_of_pos (y % 18446744073709551616) hm
  rw [wrap64_eq]
  omega
def Rise (L : List Se) (id : Int) : Prop := (L.map Se.i).Pairwise (· < ·) ∧ ∀ x ∈ L, 1 ≤ x.i ∧ x.i ≤ id
theorem Rise.nil : Rise [] 0 := ⟨List.Pairwise.nil, fun x h => by cases h⟩
theorem Rise.add {L : List Se} {id g nd : Int} (h : Rise L id) (hg : id < g) (h1 : 1 ≤ g) : Rise (L ++ [⟨g, nd⟩]) g := by
  refine ⟨?_, fun x hx => ?_⟩
  · rw [List.map_append, List.pairwise_append]
    refine ⟨h.1, List.pairwise_singleton _ _, fun a ha b hb => ?_⟩
    obtain ⟨x, hx, rfl⟩ := List.mem_map.1 ha
    simp only [List.map_cons, List.map_nil, List.mem_singleton] at hb
    subst hb
    have := (h.2 x hx).2
    omega
  · rcases List.mem_append.1 hx with q | q
    · have := h.2 x q; omega
    · simp only [List.mem_singleton] at q
      subst q
      exact ⟨h1, Int.le_refl _⟩
theorem Rise.end {L : List Se} {id : Int} (h : Rise L id) (k : Nat) : Rise (L.take k ++ L.drop (k + 1)) id := by
  have hs : (L.take k ++ L.drop (k + 1)).Sublist L := by
    have e : (L.take k ++ L.drop (k + 1)).Sublist (L.take k ++ L.drop k) := List.Sublist.append (List.Sublist.refl _) (by rw [← List.drop_drop]; exact List.drop_sublist _ _)
    rwa [List.take_append_drop] at e
  exact ⟨h.1.sublist (hs.map _), fun x hx => h.2 x (hs.subset hx)⟩
theorem Rise.at {L : List Se} {id : Int} (h : Rise L id) {k : Nat} (hk : k < L.length) : 1 ≤ (L.getD k default).i ∧ (L.getD k default).i ≤ id := by
  refine h.2 _ ?_
  have e : L.getD k default = L[k] := by simp [List.getD, hk]
  rw [e]; exact List.getElem_mem hk
theorem Rise.ne {L : List Se} {id : Int} (h : Rise L id) {k : Nat} (hk : k < L.length) : ∀ j, j < k → (L.getD j default).i ≠ (L.getD k default).i := by
  intro j hj e
  have hp := List.pairwise_iff_getElem.1 h.1 j k (by rw [List.length_map]; omega) (by rw [List.length_map]; omega) hj
  rw [List.getElem_map, List.getElem_map] at hp
  have e1 : L.getD j default = L[j]'(by omega) := by simp [List.getD, show j < L.length by omega]
  have e2 : L.getD k default = L[k] := by simp [List.getD, hk]
  rw [e1, e2] at e
  omega
theorem map_get (L : List Se) {k : Nat} (hk : k < L.length) : (L.map Se.i).getD k 0 = (L.getD k default).i := by
  simp [List.getD, hk]
theorem ownI_cap {w : World} {a : Option Addr} {n c : Nat} {l : List Int} (h : OwnI w (.slice a n c) l) : l.length ≤ c ∧ c ≤ maxLen := by
  rcases h.2 with ⟨hv, hn⟩ | ⟨g, cap, cur, hv, hg, hh, hc, hm, _⟩
  · exact ⟨by omega, by injection hv with e1 e2 e3; subst e3; unfold maxLen; omega⟩
  · injection hv with e1 e2 e3
    subst e3
    exact ⟨hc, hm⟩
theorem reads_drop {w : World} {b off n : Nat} {l : List Int} (h : ReadsI w (some ⟨b, off, none⟩) n l) (k : Nat) (hk : k ≤ n) : ReadsI w (some ⟨b, off + k, none⟩) (n - k) (l.drop k) := by
  obtain ⟨hl, hm, hb, hc⟩ := h
  refine ⟨by simp; omega, by omega, fun c hc' => hb c (List.mem_of_mem_drop hc'), ?_⟩
  rcases hc with h0 | ⟨b', off', ha, hcell⟩
  · exact .inl (by omega)
  · injection ha with ha
    injection ha with e1 e2 _
    subst e1 e2
    refine .inr ⟨b, off + k, rfl, fun i hi => ?_⟩
    have := hcell (k + i) (by omega)
    rw [show off + k + i = off + (k + i) by omega, this]
    congr 2
    simp [List.getD, List.getElem?_drop]
theorem Rise.bd {L : List Se} {id : Int} (h : Rise L id) (hid : id ≤ 9223372036854775807) : ∀ c ∈ L.map Se.i, -9223372036854775808 ≤ c ∧ c ≤ 9223372036854775807 := by
  intro c hc
  obtain ⟨x, hx, rfl⟩ := List.mem_map.1 hc
  have := h.2 x hx
  omega

set_option maxRecDepth 100000 in
set_option maxHeartbeats 8000000 in
theorem turns_any (most : Int) (a : Option Addr) (len cap : Nat) (G : List Int) (w : World) (h : ReadsI w a len G) :
    Calls Try.prog 6 #[.int .i64 most, .slice a len cap] w fun e w' => e = .returned (.bool true) ∧ Only (fun _ => False) w w' := by
  have H := Lib.hid h
  have hm1 := h.2.1
  unfold maxLen at hm1
  obtain ⟨i1, hj, hy0, hy1, hy2⟩ : ∃ i1, Try.prog.info? 3 = some i1 ∧ i1.zero = some (.int .i64 0) ∧ i1.size = 1 ∧ i1.bytes = 8 := by
    obtain ⟨i, h1, h2⟩ := Option.map_eq_some_iff.1 info_i64
    exact ⟨i, h1, by simpa using h2⟩
  have hz := tmod_in most 16 (by decide) (by decide)
  clear h
  generalize hzz : wrap64 ((IntKind.u64.wrap most).tmod 16) = z at hz
  obtain ⟨hz0, hz1⟩ := hz
  obtain ⟨zn, rfl⟩ : ∃ zn : Nat, z = zn := ⟨z.toNat, by omega⟩
  have HW : Hid (∀ w', Only (fun q => w.heap.size ≤ q) w w' → Only (fun _ => False) w w') := Lib.hid (fun w' ho => (Only.refl _ w).then ho (fun q hq e => by omega))
  go_enter Try.func6, Try.ntmps6
  go_upto_region 2 with fail
  clear hzz
  go_wp2_with fail
  refine (cnew_any (1 + (zn : Int)) w (by omega) (by omega)).mono ?_
  rintro _ w1 ⟨rfl, hwb, ho⟩
  have HB1 : Hid (CtAt (fun q => w.heap.size ≤ q ∧ (.slice none 0 0 : Value).ownBlock ≠ some q) w1 w.heap.size (1 + (zn : Int)) 0 (.slice none 0 0) []) := Lib.hid (CtAt.mono (S := fun q => w.heap.size ≤ q) hwb (fun q _ s => ⟨s, by simp [Value.ownBlock]⟩))
  have HO1 : Hid (Only (fun q => w.heap.size ≤ q) w w1) := Lib.hid (ho.mono (fun _ _ f => f.elim))
  have hsz := ho.size
  obtain ⟨p, hp⟩ : ∃ x, x = w.heap.size := ⟨_, rfl⟩
  have HP := Lib.hid hp
  rw [← hp] at HB1 HO1 HW hsz ⊢
  clear hwb ho hp
  go_wp2_with fail
  refine (credits_any _).mono ?_
  rintro _ w2 ⟨rfl, ho⟩
  have HB2 := Lib.hid (HB1.out.quiet ho)
  have HO2 : Hid (Only (fun q => p ≤ q) w w2) := Lib.hid (HO1.out.trans (ho.mono (fun _ _ f => f.elim)))
  have hs2 := Nat.le_trans hsz ho.size
  clear ho HB1 HO1 hsz
  go_upto_block 0 with fail
  go_cut [7, 8, 9] from 27 to 112 (fun ev ov iv wx => ∃ (i : Nat) (L : List Se) (v : Value) (id : Int) (dv : Value), i ≤ 60 ∧ iv = .int .i64 (i : Int) ∧ ev = .int .i64 id ∧ dv = ov ∧ L.length ≤ zn + 1 ∧ 0 ≤ id ∧ id ≤ 4 * (i : Int) ∧ Hid (OwnI wx dv (L.map Se.i)) ∧ Hid (∀ q, dv.ownBlock = some q → p ≤ q) ∧ Hid (CtAt (fun q => p ≤ q ∧ dv.ownBlock ≠ some q) wx p (1 + (zn : Int)) id v L) ∧ Hid (Rise L id) ∧ Hid (Only (fun q => p ≤ q) w wx) ∧ p ≤ wx.heap.size)
  case first =>
    go_wp2_with fail
    go_loopw [7, 8, 9] (fun ev ov iv wr => ∃ (i : Nat) (L : List Se) (v : Value) (id : Int) (dv : Value), i ≤ 60 ∧ iv = .int .i64 (i : Int) ∧ ev = .int .i64 id ∧ dv = ov ∧ L.length ≤ zn + 1 ∧ 0 ≤ id ∧ id ≤ 4 * (i : Int) ∧ Hid (OwnI wr dv (L.map Se.i)) ∧ Hid (∀ q, dv.ownBlock = some q → p ≤ q) ∧ Hid (CtAt (fun q => p ≤ q ∧ dv.ownBlock ≠ some q) wr p (1 + (zn : Int)) id v L) ∧ Hid (Rise L id) ∧ Hid (Only (fun q => p ≤ q) w wr) ∧ p ≤ wr.heap.size) (fun _ _ iv _ => 60 - (intOf iv).toNat)
    case atStart => exact ⟨0, [], _, 0, _, by omega, rfl, rfl, rfl, by simp, by omega, by omega, Lib.hid (OwnI.nil _), Lib.hid (fun q e => by cases e), HB2, Lib.hid Rise.nil, HO2, hs2⟩
    case round =>
      obtain ⟨i, L, v, id, dv, hi, rfl, rfl, rfl, hL, hid0, hid1, HI, HBK, HB, HR, HO, hs⟩ := hrel
      rename World => wr
      obtain ⟨n, hn⟩ : ∃ n, n = L.length := ⟨_, rfl⟩
      by_cases h8 : i < len
      · by_cases h20 : i < 60
        · have hin : (i : Int) < len := by omega
          have hi20 : (i : Int) < 60 := by omega
          have hi0 : (0 : Int) ≤ i := by omega
          obtain ⟨b, off, rfl, hcell⟩ := H.out.2.2.2.resolve_left (by omega)
          have cx0 := hcell i h8
          have hbw : ¬ p ≤ b := by
            have := World.block_lt_of_cell? w _ cx0
            rw [HP.out]; simp only at this; omega
          have cx := HO.out.cell' cx0 hbw
          generalize G.getD i 0 = x at *
          obtain ⟨oa, oc, rfl, hri⟩ := HI.out.reads (HR.out.bd (by omega)) (by rw [List.length_map]; omega)
          have hcp := ownI_cap HI.out
          rw [List.length_map] at HI HBK HB hri hcp ⊢
          rw [← hn] at HI HBK HB hri hcp ⊢
          obtain ⟨hnc, hcm⟩ := hcp
          unfold maxLen at hcm
          have HRI := Lib.hid hri
          clear hcell cx0 hri
          have hL' : (n : Int) ≤ 1 + (zn : Int) := by omega
          have HN := Lib.hid hn
          have hn60 : n ≤ 50 := by omega
          clear hn hL
          by_cases hfull : (n : Int) = 1 + (zn : Int)
          · have hfb : ((n : Int) == 1 + (zn : Int)) = true := by simpa using hfull
            have HFU := Lib.hid hfull
            have hno : ¬ n = 0 := by omega
            have hn0 : ¬ (n : Int) = 0 := by omega
            have hun : IntKind.u64.wrap (n : Int) = (n : Int) := by rw [IntKind.wrap_u64]; omega
            have hkz := tmod_in x (n : Int) (by omega) (by omega)
            clear hfull
            go_upto_region 12 with fail
            generalize hkd : wrap64 ((IntKind.u64.wrap x).tmod (n : Int)) = kz at *
            clear hkd hun hn0 hfb
            obtain ⟨hkz0, hkz1⟩ := hkz
            obtain ⟨k, rfl⟩ : ∃ k : Nat, kz = k := ⟨kz.toNat, by omega⟩
            have hk : k < n := by omega
            have hkl : k < L.length := by rw [← HN.out]; exact hk
            obtain ⟨ob, oo, rfl, hco⟩ := HRI.out.2.2.2.resolve_left hno
            have cdv := hco k hk
            rw [map_get L hkl] at cdv
            have HGG := Lib.hid (HR.out.at hkl)
            have HEN := Lib.hid (cend_any p (1 + (zn : Int)) id v L _ k wr HB.out hkl rfl (HR.out.ne hkl))
            have HOB : Hid (∀ q, ob = q → p ≤ q ∧ q < wr.heap.size) := Lib.hid (fun q e => ⟨HBK.out q (by subst e; rfl), HI.out.lt (by subst e; rfl)⟩)
            generalize (L.getD k default).i = gg at *
            clear hco cx
            go_wp2_with fail
            refine HEN.out.mono ?_
            rintro _ w4 ⟨rfl, ⟨v4, hb⟩, ho⟩
            have HB4 := Lib.hid hb
            have cdv4 := ho.cell' cdv (fun s => s.2 rfl)
            have HRI4 := Lib.hid (HRI.out.only ho (fun y e s => s.2 (by cases e; rfl)))
            have HO4 : Hid (Only (fun q => p ≤ q) w w4) := Lib.hid (HO.out.trans (ho.mono (fun q _ s => s.1)))
            have hs4 : wr.heap.size ≤ w4.heap.size := ho.size
            have HST := Lib.hid (cadd_stale p (1 + (zn : Int)) id v4 _ gg 1 w4 hb HGG.out.1 (by have := HGG.out.2; omega) (by decide) (by decide) HGG.out.2)
            clear hb ho HEN cdv HB HO HRI HI HGG
            go_wp2_with fail
            refine HST.out.mono ?_
            rintro _ w5 ⟨rfl, ho⟩
            have HB5 := Lib.hid (HB4.out.quiet ho)
            have HRI5 := Lib.hid (HRI4.out.only ho (fun _ _ f => f))
            have HO5 : Hid (Only (fun q => p ≤ q) w w5) := Lib.hid (HO4.out.trans (ho.mono (fun _ _ f => f.elim)))
            have hs5 : wr.heap.size ≤ w5.heap.size := Nat.le_trans hs4 ho.size
            clear ho HST cdv4 HB4 HRI4 HO4 hs4
            have HT1 : Hid (∀ w', Only (fun _ => False) w5 w' → ReadsI w' (some ⟨ob, oo, none⟩) k ((L.take k).map Se.i)) := Lib.hid (fun w' ho => by rw [List.map_take]; exact (HRI5.out.only ho (fun _ _ f => f)).take k (by omega))
            obtain ⟨j, hj⟩ : ∃ j : Nat, j = k + 1 := ⟨_, rfl⟩
            have HJ := Lib.hid hj
            have hwj : IntKind.i64.wrap ((k : Int) + 1) = (j : Int) := by rw [IntKind.wrap_i64]; omega
            have k1 : (k : Int) ≤ oc := by omega
            have k2 : (k : Int) ≤ n := by omega
            have k3 : (j : Int) ≤ n := by omega
            have k4 : (j : Int) ≤ oc := by omega
            have k5 : (n : Int) ≤ oc := by omega
            have k6 : (0 : Int) ≤ (j : Int) := by omega
            have k7 : (k : Int) ≤ (j : Int) := by omega
            have k8 : (0 : Int) ≤ (k : Int) := by omega
            have h9 : j ≤ n := by omega
            clear hj
            go_upto_region 14 with fail
            by_cases hcap : oc = j
            · have hnk : n = j := by omega
              have HT2 : Hid (∀ w' a', Only (fun _ => False) w5 w' → ReadsI w' a' 0 ((L.drop (k + 1)).map Se.i)) := Lib.hid (fun w' a' ho => by
                have e : L.drop (k + 1) = [] := List.drop_of_length_le (by rw [← HN.out, hnk, HJ.out]; exact Nat.le_refl _)
                rw [e]
                exact ⟨rfl, by unfold maxLen; omega, fun c hc => by simp at hc, .inl rfl⟩)
              subst hnk
              subst hcap
              refine wp_region_noPanic ?_
              refine wp_region_held_drew (S := (fun _ => True)) (by kernel_rfl) (trivial) (fun hHeld => ?_)
              obtain ⟨z0, hz0⟩ : ∃ x, x = w5.drew := ⟨_, rfl⟩
              rw [← hz0]
              have hot : Hid (Only (fun _ => False) w5 z0) := Lib.hid (by rw [hz0]; exact (Only.refl _ _).drew)
              clear hz0
              refine wpAnyH_take (i := 1) (v := ?_) rfl (by kernel_rfl) (by kernel_rfl) (by kernel_rfl) (fun _ _ _ h => h) (Or.inl ⟨by rfl, ?_⟩) (by assumption) ?_
              rotate_left 1
              · intro w' hSw
                try dsimp only at hSw
                go_simp
                try with_reducible rfl
              try simp only [List.getElem_toArray, List.getElem_cons_zero, List.getElem_cons_succ, Act.put, List.setIfInBounds_toArray, List.set_cons_zero, List.set_cons_succ]
              refine wpAnyH_take (i := 2) (v := ?_) rfl (by kernel_rfl) (by kernel_rfl) (by kernel_rfl) (fun _ _ _ h => h) (Or.inl ⟨by rfl, ?_⟩) (by assumption) ?_
              rotate_left 1
              · intro w' hSw
                try dsimp only at hSw
                go_simp
                try with_reducible rfl
              try simp only [List.getElem_toArray, List.getElem_cons_zero, List.getElem_cons_succ, Act.put, List.setIfInBounds_toArray, List.set_cons_zero, List.set_cons_succ]
              refine wpAnyH_take (i := 3) (v := ?_) rfl (by kernel_rfl) (by kernel_rfl) (by kernel_rfl) (fun _ _ _ h => h) (Or.inl ⟨by rfl, ?_⟩) (by assumption) ?_
              rotate_left 1
              · intro w' hSw
                try dsimp only at hSw
                go_simp
                try with_reducible rfl
              try simp only [List.getElem_toArray, List.getElem_cons_zero, List.getElem_cons_succ, Act.put, List.setIfInBounds_toArray, List.set_cons_zero, List.set_cons_succ]
              refine wpAnyH_take (i := 5) (v := ?_) rfl (by kernel_rfl) (by kernel_rfl) (by kernel_rfl) (fun _ _ _ h => h) (Or.inl ⟨by rfl, ?_⟩) (by assumption) ?_
              rotate_left 1
              · intro w' hSw
                try dsimp only at hSw
                go_simp
                try with_reducible rfl
              try simp only [List.getElem_toArray, List.getElem_cons_zero, List.getElem_cons_succ, Act.put, List.setIfInBounds_toArray, List.set_cons_zero, List.set_cons_succ]
              refine wpAnyH_take (i := 6) (v := ?_) rfl (by kernel_rfl) (by kernel_rfl) (by kernel_rfl) (fun _ _ _ h => h) (Or.inl ⟨by rfl, ?_⟩) (by assumption) ?_
              rotate_left 1
              · intro w' hSw
                try dsimp only at hSw
                go_simp
                try with_reducible rfl
              try simp only [List.getElem_toArray, List.getElem_cons_zero, List.getElem_cons_succ, Act.put, List.setIfInBounds_toArray, List.set_cons_zero, List.set_cons_succ]
              refine wpAnyH_take (i := 7) (v := ?_) rfl (by kernel_rfl) (by kernel_rfl) (by kernel_rfl) (fun _ _ _ h => h) (Or.inl ⟨by rfl, ?_⟩) (by assumption) ?_
              rotate_left 1
              · intro w' hSw
                try dsimp only at hSw
                go_simp
                try with_reducible rfl
              try simp only [List.getElem_toArray, List.getElem_cons_zero, List.getElem_cons_succ, Act.put, List.setIfInBounds_toArray, List.set_cons_zero, List.set_cons_succ]
              refine wpAnyH_take (i := 8) (v := ?_) rfl (by kernel_rfl) (by kernel_rfl) (by kernel_rfl) (fun _ _ _ h => h) (Or.inl ⟨by rfl, ?_⟩) (by assumption) ?_
              rotate_left 1
              · intro w' hSw
                try dsimp only at hSw
                go_simp
                try with_reducible rfl
              try simp only [List.getElem_toArray, List.getElem_cons_zero, List.getElem_cons_succ, Act.put, List.setIfInBounds_toArray, List.set_cons_zero, List.set_cons_succ]
              refine wpAnyH_ready (rs := [0]) (by kernel_rfl) (by simp) ?_
              refine AllReadyH.cons rfl (fun K hK => ?_) AllReadyH.nil
              try simp only [List.getElem_toArray, List.getElem_cons_zero]
              go_simp
              obtain ⟨W1, hW1⟩ : ∃ x, x = z0.alloc (.cells #[] 3) := ⟨_, rfl⟩
              obtain ⟨g1, hg1⟩ : ∃ x, x = z0.heap.size := ⟨_, rfl⟩
              rw [← hW1, ← hg1]
              have hal : Only (fun _ => False) z0 W1 := by rw [hW1]; exact (Only.refl _ _).alloc _
              have HVA : Hid (OwnI W1 (.slice (some ⟨g1, 0, none⟩) 0 0) []) := Lib.hid (by rw [hW1, hg1]; exact World.ownsRow_lit z0 #[] 0 (Nat.zero_le _) (by decide) rfl)
              have HBA : Hid (∀ q, (Value.slice (some ⟨g1, 0, none⟩) 0 0).ownBlock = some q → w5.heap.size ≤ q) := Lib.hid (fun q e => by
                have e' : g1 = q := by simpa [Value.ownBlock] using e
                have := hot.out.size; omega)
              replace hot : Hid (Only (fun _ => False) w5 W1) := Lib.hid (hot.out.trans hal)
              clear hW1 hg1 hal
              refine hK.out _ _ (trivial) (fun hHeld1 => ?_)
              clear hK K
              try simp only [List.getElem_toArray, List.getElem_cons_zero, Act.put, List.setIfInBounds_toArray, List.set_cons_zero, List.set_cons_succ]
              refine wpAnyH_ready (rs := [4]) (by kernel_rfl) (by simp) ?_
              refine AllReadyH.cons rfl (fun K hK => ?_) AllReadyH.nil
              refine step_int (a := { tmps := _, defers := _ }) rfl _ _ rfl (.slice (some ⟨g1, 0, none⟩) 0 0) ([]) rfl HVA.out _ k _ ((L.take k).map Se.i) rfl (HT1.out _ hot.out) (by first | (simp only [List.length_nil]; omega) | (simp only [List.length_map, List.length_take]; omega)) ?_
              rintro v2 W2 hown hgrow hkk
              have hgo := Only.of_grown hgrow
              have hown' : OwnI W2 v2 ((L.take k).map Se.i) := by simpa using hown
              replace HVA := Lib.hid hown'
              have hot2 : Hid (Only (fun _ => False) w5 W2) := Lib.hid (hot.out.then hgo (fun q hq e => by have := HBA.out q e; omega))
              replace HBA : Hid (∀ q, v2.ownBlock = some q → w5.heap.size ≤ q) := Lib.hid (fun q hq => by
                rcases hkk q hq with e | e
                · exact HBA.out q e
                · have := hot.out.size; omega)
              replace hot := hot2
              clear hown hgrow hkk hgo hown' hot2
              refine hK.out _ _ (trivial) (fun hHeld2 => ?_)
              clear hK K
              try simp only [List.getElem_toArray, List.getElem_cons_zero, List.getElem_cons_succ, Act.put, List.setIfInBounds_toArray, List.set_cons_zero, List.set_cons_succ]
              refine wpAnyH_ready (rs := [9]) (by kernel_rfl) (by simp) ?_
              refine AllReadyH.cons rfl (fun K hK => ?_) AllReadyH.nil
              refine step_int (a := { tmps := _, defers := _ }) rfl _ _ rfl v2 ((L.take k).map Se.i) rfl HVA.out _ _ _ ((L.drop (k + 1)).map Se.i) rfl (HT2.out _ _ hot.out) (by first | (simp only [List.length_nil]; omega) | (simp only [List.length_map, List.length_take]; omega)) ?_
              rintro v3 W3 hown hgrow hkk
              have hgo := Only.of_grown hgrow
              have hown' : OwnI W3 v3 ((L.take k).map Se.i ++ (L.drop (k + 1)).map Se.i) := by simpa using hown
              replace HVA := Lib.hid hown'
              have hot2 : Hid (Only (fun _ => False) w5 W3) := Lib.hid (hot.out.then hgo (fun q hq e => by have := HBA.out q e; omega))
              replace HBA : Hid (∀ q, v3.ownBlock = some q → w5.heap.size ≤ q) := Lib.hid (fun q hq => by
                rcases hkk q hq with e | e
                · exact HBA.out q e
                · have := hot.out.size; omega)
              replace hot := hot2
              clear hown hgrow hkk hgo hown' hot2
              refine hK.out _ _ (trivial) (fun hHeld3 => ?_)
              clear hK K
              try simp only [List.getElem_toArray, List.getElem_cons_zero, List.getElem_cons_succ, Act.put, List.setIfInBounds_toArray, List.set_cons_zero, List.set_cons_succ]
              refine wpAnyH_take (i := 10) (v := ?_) rfl (by kernel_rfl) (by kernel_rfl) (by kernel_rfl) (fun _ _ _ h => h) (Or.inl ⟨by rfl, ?_⟩) (by assumption) ?_
              rotate_left 1
              · intro w' hSw
                try dsimp only at hSw
                go_simp
                try with_reducible rfl
              try simp only [List.getElem_toArray, List.getElem_cons_zero, List.getElem_cons_succ, Act.put, List.setIfInBounds_toArray, List.set_cons_zero, List.set_cons_succ]
              refine wpAnyH_done (by kernel_rfl) ?_ _
              refine NoPanic.normal ?_
              have HON : Hid (OwnI W3 v3 ((L.take k ++ L.drop (k + 1)).map Se.i)) := Lib.hid (by rw [List.map_append]; exact HVA.out)
              have HLN : Hid ((L.take k ++ L.drop (k + 1)).length ≤ zn + 1) := Lib.hid (by rw [List.length_append, List.length_take, List.length_drop, ← HN.out]; have := HJ.out; omega)
              have HBN : Hid (∀ q, (v3 : Value).ownBlock = some q → p ≤ q) := Lib.hid (fun q e => by have := HBA.out q e; omega)
              have HCN : Hid (CtAt (fun q => p ≤ q ∧ (v3 : Value).ownBlock ≠ some q) W3 p (1 + (zn : Int)) id v4 (L.take k ++ L.drop (k + 1))) := Lib.hid ((HB5.out.mono (T := fun q => p ≤ q ∧ (v3 : Value).ownBlock ≠ some q) (fun q hq s => ⟨s.1, fun e => by have := HBA.out q e; omega⟩)).quiet hot.out)
              have HRN : Hid (Rise (L.take k ++ L.drop (k + 1)) id) := Lib.hid (HR.out.end k)
              have HOO : Hid (Only (fun q => p ≤ q) w W3) := Lib.hid (HO5.out.trans (hot.out.mono (fun _ _ f => f.elim)))
              have hsn : p ≤ W3.heap.size := by have := hot.out.size; omega
              clear HVA HBA hot HB5 HRI5 HO5 HT1 HT2 HR HBK HOB HN
              generalize L.take k ++ L.drop (k + 1) = LN at *
              go_wp2_with fail
              go_roundw
              case rel => exact ⟨i + 1, LN, v4, id, v3, by omega, by go_num, rfl, rfl, HLN.out, hid0, by omega, HON, HBN, HCN, HRN, HOO, hsn⟩
              case measure => simp [intOf]; omega
            · have HT2 : Hid (∀ w', Only (fun _ => False) w5 w' → ReadsI w' (some ⟨ob, oo + j, none⟩) (n - j) ((L.drop (k + 1)).map Se.i)) := Lib.hid (fun w' ho => by rw [List.map_drop, ← HJ.out]; exact reads_drop (HRI5.out.only ho (fun _ _ f => f)) j h9)
              refine wp_region_noPanic ?_
              refine wp_region_held_drew (S := (fun _ => True)) (by kernel_rfl) (trivial) (fun hHeld => ?_)
              obtain ⟨z0, hz0⟩ : ∃ x, x = w5.drew := ⟨_, rfl⟩
              rw [← hz0]
              have hot : Hid (Only (fun _ => False) w5 z0) := Lib.hid (by rw [hz0]; exact (Only.refl _ _).drew)
              clear hz0
              refine wpAnyH_take (i := 1) (v := ?_) rfl (by kernel_rfl) (by kernel_rfl) (by kernel_rfl) (fun _ _ _ h => h) (Or.inl ⟨by rfl, ?_⟩) (by assumption) ?_
              rotate_left 1
              · intro w' hSw
                try dsimp only at hSw
                go_simp
                try with_reducible rfl
              try simp only [List.getElem_toArray, List.getElem_cons_zero, List.getElem_cons_succ, Act.put, List.setIfInBounds_toArray, List.set_cons_zero, List.set_cons_succ]
              refine wpAnyH_take (i := 2) (v := ?_) rfl (by kernel_rfl) (by kernel_rfl) (by kernel_rfl) (fun _ _ _ h => h) (Or.inl ⟨by rfl, ?_⟩) (by assumption) ?_
              rotate_left 1
              · intro w' hSw
                try dsimp only at hSw
                go_simp
                try with_reducible rfl
              try simp only [List.getElem_toArray, List.getElem_cons_zero, List.getElem_cons_succ, Act.put, List.setIfInBounds_toArray, List.set_cons_zero, List.set_cons_succ]
              refine wpAnyH_take (i := 3) (v := ?_) rfl (by kernel_rfl) (by kernel_rfl) (by kernel_rfl) (fun _ _ _ h => h) (Or.inl ⟨by rfl, ?_⟩) (by assumption) ?_
              rotate_left 1
              · intro w' hSw
                try dsimp only at hSw
                go_simp
                try with_reducible rfl
              try simp only [List.getElem_toArray, List.getElem_cons_zero, List.getElem_cons_succ, Act.put, List.setIfInBounds_toArray, List.set_cons_zero, List.set_cons_succ]
              refine wpAnyH_take (i := 5) (v := ?_) rfl (by kernel_rfl) (by kernel_rfl) (by kernel_rfl) (fun _ _ _ h => h) (Or.inl ⟨by rfl, ?_⟩) (by assumption) ?_
              rotate_left 1
              · intro w' hSw
                try dsimp only at hSw
                go_simp
                try with_reducible rfl
              try simp only [List.getElem_toArray, List.getElem_cons_zero, List.getElem_cons_succ, Act.put, List.setIfInBounds_toArray, List.set_cons_zero, List.set_cons_succ]
              refine wpAnyH_take (i := 6) (v := ?_) rfl (by kernel_rfl) (by kernel_rfl) (by kernel_rfl) (fun _ _ _ h => h) (Or.inl ⟨by rfl, ?_⟩) (by assumption) ?_
              rotate_left 1
              · intro w' hSw
                try dsimp only at hSw
                go_simp
                try with_reducible rfl
              try simp only [List.getElem_toArray, List.getElem_cons_zero, List.getElem_cons_succ, Act.put, List.setIfInBounds_toArray, List.set_cons_zero, List.set_cons_succ]
              refine wpAnyH_take (i := 7) (v := ?_) rfl (by kernel_rfl) (by kernel_rfl) (by kernel_rfl) (fun _ _ _ h => h) (Or.inl ⟨by rfl, ?_⟩) (by assumption) ?_
              rotate_left 1
              · intro w' hSw
                try dsimp only at hSw
                go_simp
                try with_reducible rfl
              try simp only [List.getElem_toArray, List.getElem_cons_zero, List.getElem_cons_succ, Act.put, List.setIfInBounds_toArray, List.set_cons_zero, List.set_cons_succ]
              refine wpAnyH_take (i := 8) (v := ?_) rfl (by kernel_rfl) (by kernel_rfl) (by kernel_rfl) (fun _ _ _ h => h) (Or.inl ⟨by rfl, ?_⟩) (by assumption) ?_
              rotate_left 1
              · intro w' hSw
                try dsimp only at hSw
                go_simp
                try with_reducible rfl
              try simp only [List.getElem_toArray, List.getElem_cons_zero, List.getElem_cons_succ, Act.put, List.setIfInBounds_toArray, List.set_cons_zero, List.set_cons_succ]
              refine wpAnyH_ready (rs := [0]) (by kernel_rfl) (by simp) ?_
              refine AllReadyH.cons rfl (fun K hK => ?_) AllReadyH.nil
              try simp only [List.getElem_toArray, List.getElem_cons_zero]
              go_simp
              obtain ⟨W1, hW1⟩ : ∃ x, x = z0.alloc (.cells #[] 3) := ⟨_, rfl⟩
              obtain ⟨g1, hg1⟩ : ∃ x, x = z0.heap.size := ⟨_, rfl⟩
              rw [← hW1, ← hg1]
              have hal : Only (fun _ => False) z0 W1 := by rw [hW1]; exact (Only.refl _ _).alloc _
              have HVA : Hid (OwnI W1 (.slice (some ⟨g1, 0, none⟩) 0 0) []) := Lib.hid (by rw [hW1, hg1]; exact World.ownsRow_lit z0 #[] 0 (Nat.zero_le _) (by decide) rfl)
              have HBA : Hid (∀ q, (Value.slice (some ⟨g1, 0, none⟩) 0 0).ownBlock = some q → w5.heap.size ≤ q) := Lib.hid (fun q e => by
                have e' : g1 = q := by simpa [Value.ownBlock] using e
                have := hot.out.size; omega)
              replace hot : Hid (Only (fun _ => False) w5 W1) := Lib.hid (hot.out.trans hal)
              clear hW1 hg1 hal
              refine hK.out _ _ (trivial) (fun hHeld1 => ?_)
              clear hK K
              try simp only [List.getElem_toArray, List.getElem_cons_zero, Act.put, List.setIfInBounds_toArray, List.set_cons_zero, List.set_cons_succ]
              refine wpAnyH_ready (rs := [4]) (by kernel_rfl) (by simp) ?_
              refine AllReadyH.cons rfl (fun K hK => ?_) AllReadyH.nil
              refine step_int (a := { tmps := _, defers := _ }) rfl _ _ rfl (.slice (some ⟨g1, 0, none⟩) 0 0) ([]) rfl HVA.out _ k _ ((L.take k).map Se.i) rfl (HT1.out _ hot.out) (by first | (simp only [List.length_nil]; omega) | (simp only [List.length_map, List.length_take]; omega)) ?_
              rintro v2 W2 hown hgrow hkk
              have hgo := Only.of_grown hgrow
              have hown' : OwnI W2 v2 ((L.take k).map Se.i) := by simpa using hown
              replace HVA := Lib.hid hown'
              have hot2 : Hid (Only (fun _ => False) w5 W2) := Lib.hid (hot.out.then hgo (fun q hq e => by have := HBA.out q e; omega))
              replace HBA : Hid (∀ q, v2.ownBlock = some q → w5.heap.size ≤ q) := Lib.hid (fun q hq => by
                rcases hkk q hq with e | e
                · exact HBA.out q e
                · have := hot.out.size; omega)
              replace hot := hot2
              clear hown hgrow hkk hgo hown' hot2
              refine hK.out _ _ (trivial) (fun hHeld2 => ?_)
              clear hK K
              try simp only [List.getElem_toArray, List.getElem_cons_zero, List.getElem_cons_succ, Act.put, List.setIfInBounds_toArray, List.set_cons_zero, List.set_cons_succ]
              refine wpAnyH_ready (rs := [9]) (by kernel_rfl) (by simp) ?_
              refine AllReadyH.cons rfl (fun K hK => ?_) AllReadyH.nil
              refine step_int (a := { tmps := _, defers := _ }) rfl _ _ rfl v2 ((L.take k).map Se.i) rfl HVA.out _ _ _ ((L.drop (k + 1)).map Se.i) rfl (HT2.out _ hot.out) (by first | (simp only [List.length_nil]; omega) | (simp only [List.length_map, List.length_take]; omega)) ?_
              rintro v3 W3 hown hgrow hkk
              have hgo := Only.of_grown hgrow
              have hown' : OwnI W3 v3 ((L.take k).map Se.i ++ (L.drop (k + 1)).map Se.i) := by simpa using hown
              replace HVA := Lib.hid hown'
              have hot2 : Hid (Only (fun _ => False) w5 W3) := Lib.hid (hot.out.then hgo (fun q hq e => by have := HBA.out q e; omega))
              replace HBA : Hid (∀ q, v3.ownBlock = some q → w5.heap.size ≤ q) := Lib.hid (fun q hq => by
                rcases hkk q hq with e | e
                · exact HBA.out q e
                · have := hot.out.size; omega)
              replace hot := hot2
              clear hown hgrow hkk hgo hown' hot2
              refine hK.out _ _ (trivial) (fun hHeld3 => ?_)
              clear hK K
              try simp only [List.getElem_toArray, List.getElem_cons_zero, List.getElem_cons_succ, Act.put, List.setIfInBounds_toArray, List.set_cons_zero, List.set_cons_succ]
              refine wpAnyH_take (i := 10) (v := ?_) rfl (by kernel_rfl) (by kernel_rfl) (by kernel_rfl) (fun _ _ _ h => h) (Or.inl ⟨by rfl, ?_⟩) (by assumption) ?_
              rotate_left 1
              · intro w' hSw
                try dsimp only at hSw
                go_simp
                try with_reducible rfl
              try simp only [List.getElem_toArray, List.getElem_cons_zero, List.getElem_cons_succ, Act.put, List.setIfInBounds_toArray, List.set_cons_zero, List.set_cons_succ]
              refine wpAnyH_done (by kernel_rfl) ?_ _
              refine NoPanic.normal ?_
              have HON : Hid (OwnI W3 v3 ((L.take k ++ L.drop (k + 1)).map Se.i)) := Lib.hid (by rw [List.map_append]; exact HVA.out)
              have HLN : Hid ((L.take k ++ L.drop (k + 1)).length ≤ zn + 1) := Lib.hid (by rw [List.length_append, List.length_take, List.length_drop, ← HN.out]; have := HJ.out; omega)
              have HBN : Hid (∀ q, (v3 : Value).ownBlock = some q → p ≤ q) := Lib.hid (fun q e => by have := HBA.out q e; omega)
              have HCN : Hid (CtAt (fun q => p ≤ q ∧ (v3 : Value).ownBlock ≠ some q) W3 p (1 + (zn : Int)) id v4 (L.take k ++ L.drop (k + 1))) := Lib.hid ((HB5.out.mono (T := fun q => p ≤ q ∧ (v3 : Value).ownBlock ≠ some q) (fun q hq s => ⟨s.1, fun e => by have := HBA.out q e; omega⟩)).quiet hot.out)
              have HRN : Hid (Rise (L.take k ++ L.drop (k + 1)) id) := Lib.hid (HR.out.end k)
              have HOO : Hid (Only (fun q => p ≤ q) w W3) := Lib.hid (HO5.out.trans (hot.out.mono (fun _ _ f => f.elim)))
              have hsn : p ≤ W3.heap.size := by have := hot.out.size; omega
              clear HVA HBA hot HB5 HRI5 HO5 HT1 HT2 HR HBK HOB HN
              generalize L.take k ++ L.drop (k + 1) = LN at *
              go_wp2_with fail
              go_roundw
              case rel => exact ⟨i + 1, LN, v4, id, v3, by omega, by go_num, rfl, rfl, HLN.out, hid0, by omega, HON, HBN, HCN, HRN, HOO, hsn⟩
              case measure => simp [intOf]; omega
          · have hfb : ((n : Int) == 1 + (zn : Int)) = false := by simpa using hfull
            by_cases hpos : 0 < n
            · have hp1 : (0 : Int) < n := by omega
              by_cases h3 : x.tmod 3 = 0
              · have h3b : (x.tmod 3 == 0) = true := by simpa using h3
                have hno : ¬ n = 0 := by omega
                have hn0 : ¬ (n : Int) = 0 := by omega
                have hun : IntKind.u64.wrap (n : Int) = (n : Int) := by rw [IntKind.wrap_u64]; omega
                have hkz := tmod_in x (n : Int) (by omega) (by omega)
                go_upto_region 12 with fail
                generalize hkd : wrap64 ((IntKind.u64.wrap x).tmod (n : Int)) = kz at *
                clear hkd hun hn0 hfb
                obtain ⟨hkz0, hkz1⟩ := hkz
                obtain ⟨k, rfl⟩ : ∃ k : Nat, kz = k := ⟨kz.toNat, by omega⟩
                have hk : k < n := by omega
                have hkl : k < L.length := by rw [← HN.out]; exact hk
                obtain ⟨ob, oo, rfl, hco⟩ := HRI.out.2.2.2.resolve_left hno
                have cdv := hco k hk
                rw [map_get L hkl] at cdv
                have HGG := Lib.hid (HR.out.at hkl)
                have HEN := Lib.hid (cend_any p (1 + (zn : Int)) id v L _ k wr HB.out hkl rfl (HR.out.ne hkl))
                have HOB : Hid (∀ q, ob = q → p ≤ q ∧ q < wr.heap.size) := Lib.hid (fun q e => ⟨HBK.out q (by subst e; rfl), HI.out.lt (by subst e; rfl)⟩)
                generalize (L.getD k default).i = gg at *
                clear hco cx
                go_wp2_with fail
                refine HEN.out.mono ?_
                rintro _ w4 ⟨rfl, ⟨v4, hb⟩, ho⟩
                have HB4 := Lib.hid hb
                have cdv4 := ho.cell' cdv (fun s => s.2 rfl)
                have HRI4 := Lib.hid (HRI.out.only ho (fun y e s => s.2 (by cases e; rfl)))
                have HO4 : Hid (Only (fun q => p ≤ q) w w4) := Lib.hid (HO.out.trans (ho.mono (fun q _ s => s.1)))
                have hs4 : wr.heap.size ≤ w4.heap.size := ho.size
                have HST := Lib.hid (cadd_stale p (1 + (zn : Int)) id v4 _ gg 1 w4 hb HGG.out.1 (by have := HGG.out.2; omega) (by decide) (by decide) HGG.out.2)
                clear hb ho HEN cdv HB HO HRI HI HGG
                go_wp2_with fail
                refine HST.out.mono ?_
                rintro _ w5 ⟨rfl, ho⟩
                have HB5 := Lib.hid (HB4.out.quiet ho)
                have HRI5 := Lib.hid (HRI4.out.only ho (fun _ _ f => f))
                have HO5 : Hid (Only (fun q => p ≤ q) w w5) := Lib.hid (HO4.out.trans (ho.mono (fun _ _ f => f.elim)))
                have hs5 : wr.heap.size ≤ w5.heap.size := Nat.le_trans hs4 ho.size
                clear ho HST cdv4 HB4 HRI4 HO4 hs4
                have HT1 : Hid (∀ w', Only (fun _ => False) w5 w' → ReadsI w' (some ⟨ob, oo, none⟩) k ((L.take k).map Se.i)) := Lib.hid (fun w' ho => by rw [List.map_take]; exact (HRI5.out.only ho (fun _ _ f => f)).take k (by omega))
                obtain ⟨j, hj⟩ : ∃ j : Nat, j = k + 1 := ⟨_, rfl⟩
                have HJ := Lib.hid hj
                have hwj : IntKind.i64.wrap ((k : Int) + 1) = (j : Int) := by rw [IntKind.wrap_i64]; omega
                have k1 : (k : Int) ≤ oc := by omega
                have k2 : (k : Int) ≤ n := by omega
                have k3 : (j : Int) ≤ n := by omega
                have k4 : (j : Int) ≤ oc := by omega
                have k5 : (n : Int) ≤ oc := by omega
                have k6 : (0 : Int) ≤ (j : Int) := by omega
                have k7 : (k : Int) ≤ (j : Int) := by omega
                have k8 : (0 : Int) ≤ (k : Int) := by omega
                have h9 : j ≤ n := by omega
                clear hj
                go_upto_region 14 with fail
                by_cases hcap : oc = j
                · have hnk : n = j := by omega
                  have HT2 : Hid (∀ w' a', Only (fun _ => False) w5 w' → ReadsI w' a' 0 ((L.drop (k + 1)).map Se.i)) := Lib.hid (fun w' a' ho => by
                    have e : L.drop (k + 1) = [] := List.drop_of_length_le (by rw [← HN.out, hnk, HJ.out]; exact Nat.le_refl _)
                    rw [e]
                    exact ⟨rfl, by unfold maxLen; omega, fun c hc => by simp at hc, .inl rfl⟩)
                  subst hnk
                  subst hcap
                  refine wp_region_noPanic ?_
                  refine wp_region_held_drew (S := (fun _ => True)) (by kernel_rfl) (trivial) (fun hHeld => ?_)
                  obtain ⟨z0, hz0⟩ : ∃ x, x = w5.drew := ⟨_, rfl⟩
                  rw [← hz0]
                  have hot : Hid (Only (fun _ => False) w5 z0) := Lib.hid (by rw [hz0]; exact (Only.refl _ _).drew)
                  clear hz0
                  refine wpAnyH_take (i := 1) (v := ?_) rfl (by kernel_rfl) (by kernel_rfl) (by kernel_rfl) (fun _ _ _ h => h) (Or.inl ⟨by rfl, ?_⟩) (by assumption) ?_
                  rotate_left 1
                  · intro w' hSw
                    try dsimp only at hSw
                    go_simp
                    try with_reducible rfl
                  try simp only [List.getElem_toArray, List.getElem_cons_zero, List.getElem_cons_succ, Act.put, List.setIfInBounds_toArray, List.set_cons_zero, List.set_cons_succ]
                  refine wpAnyH_take (i := 2) (v := ?_) rfl (by kernel_rfl) (by kernel_rfl) (by kernel_rfl) (fun _ _ _ h => h) (Or.inl ⟨by rfl, ?_⟩) (by assumption) ?_
                  rotate_left 1
                  · intro w' hSw
                    try dsimp only at hSw
                    go_simp
                    try with_reducible rfl
                  try simp only [List.getElem_toArray, List.getElem_cons_zero, List.getElem_cons_succ, Act.put, List.setIfInBounds_toArray, List.set_cons_zero, List.set_cons_succ]
                  refine wpAnyH_take (i := 3) (v := ?_) rfl (by kernel_rfl) (by kernel_rfl) (by kernel_rfl) (fun _ _ _ h => h) (Or.inl ⟨by rfl, ?_⟩) (by assumption) ?_
                  rotate_left 1
                  · intro w' hSw
                    try dsimp only at hSw
                    go_simp
                    try with_reducible rfl
                  try simp only [List.getElem_toArray, List.getElem_cons_zero, List.getElem_cons_succ, Act.put, List.setIfInBounds_toArray, List.set_cons_zero, List.set_cons_succ]
                  refine wpAnyH_take (i := 5) (v := ?_) rfl (by kernel_rfl) (by kernel_rfl) (by kernel_rfl) (fun _ _ _ h => h) (Or.inl ⟨by rfl, ?_⟩) (by assumption) ?_
                  rotate_left 1
                  · intro w' hSw
                    try dsimp only at hSw
                    go_simp
                    try with_reducible rfl
                  try simp only [List.getElem_toArray, List.getElem_cons_zero, List.getElem_cons_succ, Act.put, List.setIfInBounds_toArray, List.set_cons_zero, List.set_cons_succ]
                  refine wpAnyH_take (i := 6) (v := ?_) rfl (by kernel_rfl) (by kernel_rfl) (by kernel_rfl) (fun _ _ _ h => h) (Or.inl ⟨by rfl, ?_⟩) (by assumption) ?_
                  rotate_left 1
                  · intro w' hSw
                    try dsimp only at hSw
                    go_simp
                    try with_reducible rfl
                  try simp only [List.getElem_toArray, List.getElem_cons_zero, List.getElem_cons_succ, Act.put, List.setIfInBounds_toArray, List.set_cons_zero, List.set_cons_succ]
                  refine wpAnyH_take (i := 7) (v := ?_) rfl (by kernel_rfl) (by kernel_rfl) (by kernel_rfl) (fun _ _ _ h => h) (Or.inl ⟨by rfl, ?_⟩) (by assumption) ?_
                  rotate_left 1
                  · intro w' hSw
                    try dsimp only at hSw
                    go_simp
                    try with_reducible rfl
                  try simp only [List.getElem_toArray, List.getElem_cons_zero, List.getElem_cons_succ, Act.put, List.setIfInBounds_toArray, List.set_cons_zero, List.set_cons_succ]
                  refine wpAnyH_take (i := 8) (v := ?_) rfl (by kernel_rfl) (by kernel_rfl) (by kernel_rfl) (fun _ _ _ h => h) (Or.inl ⟨by rfl, ?_⟩) (by assumption) ?_
                  rotate_left 1
                  · intro w' hSw
                    try dsimp only at hSw
                    go_simp
                    try with_reducible rfl
                  try simp only [List.getElem_toArray, List.getElem_cons_zero, List.getElem_cons_succ, Act.put, List.setIfInBounds_toArray, List.set_cons_zero, List.set_cons_succ]
                  refine wpAnyH_ready (rs := [0]) (by kernel_rfl) (by simp) ?_
                  refine AllReadyH.cons rfl (fun K hK => ?_) AllReadyH.nil
                  try simp only [List.getElem_toArray, List.getElem_cons_zero]
                  go_simp
                  obtain ⟨W1, hW1⟩ : ∃ x, x = z0.alloc (.cells #[] 3) := ⟨_, rfl⟩
                  obtain ⟨g1, hg1⟩ : ∃ x, x = z0.heap.size := ⟨_, rfl⟩
                  rw [← hW1, ← hg1]
                  have hal : Only (fun _ => False) z0 W1 := by rw [hW1]; exact (Only.refl _ _).alloc _
                  have HVA : Hid (OwnI W1 (.slice (some ⟨g1, 0, none⟩) 0 0) []) := Lib.hid (by rw [hW1, hg1]; exact World.ownsRow_lit z0 #[] 0 (Nat.zero_le _) (by decide) rfl)
                  have HBA : Hid (∀ q, (Value.slice (some ⟨g1, 0, none⟩) 0 0).ownBlock = some q → w5.heap.size ≤ q) := Lib.hid (fun q e => by
                    have e' : g1 = q := by simpa [Value.ownBlock] using e
                    have := hot.out.size; omega)
                  replace hot : Hid (Only (fun _ => False) w5 W1) := Lib.hid (hot.out.trans hal)
                  clear hW1 hg1 hal
                  refine hK.out _ _ (trivial) (fun hHeld1 => ?_)
                  clear hK K
                  try simp only [List.getElem_toArray, List.getElem_cons_zero, Act.put, List.setIfInBounds_toArray, List.set_cons_zero, List.set_cons_succ]
                  refine wpAnyH_ready (rs := [4]) (by kernel_rfl) (by simp) ?_
                  refine AllReadyH.cons rfl (fun K hK => ?_) AllReadyH.nil
                  refine step_int (a := { tmps := _, defers := _ }) rfl _ _ rfl (.slice (some ⟨g1, 0, none⟩) 0 0) ([]) rfl HVA.out _ k _ ((L.take k).map Se.i) rfl (HT1.out _ hot.out) (by first | (simp only [List.length_nil]; omega) | (simp only [List.length_map, List.length_take]; omega)) ?_
                  rintro v2 W2 hown hgrow hkk
                  have hgo := Only.of_grown hgrow
                  have hown' : OwnI W2 v2 ((L.take k).map Se.i) := by simpa using hown
                  replace HVA := Lib.hid hown'
                  have hot2 : Hid (Only (fun _ => False) w5 W2) := Lib.hid (hot.out.then hgo (fun q hq e => by have := HBA.out q e; omega))
                  replace HBA : Hid (∀ q, v2.ownBlock = some q → w5.heap.size ≤ q) := Lib.hid (fun q hq => by
                    rcases hkk q hq with e | e
                    · exact HBA.out q e
                    · have := hot.out.size; omega)
                  replace hot := hot2
                  clear hown hgrow hkk hgo hown' hot2
                  refine hK.out _ _ (trivial) (fun hHeld2 => ?_)
                  clear hK K
                  try simp only [List.getElem_toArray, List.getElem_cons_zero, List.getElem_cons_succ, Act.put, List.setIfInBounds_toArray, List.set_cons_zero, List.set_cons_succ]
                  refine wpAnyH_ready (rs := [9]) (by kernel_rfl) (by simp) ?_
                  refine AllReadyH.cons rfl (fun K hK => ?_) AllReadyH.nil
                  refine step_int (a := { tmps := _, defers := _ }) rfl _ _ rfl v2 ((L.take k).map Se.i) rfl HVA.out _ _ _ ((L.drop (k + 1)).map Se.i) rfl (HT2.out _ _ hot.out) (by first | (simp only [List.length_nil]; omega) | (simp only [List.length_map, List.length_take]; omega)) ?_
                  rintro v3 W3 hown hgrow hkk
                  have hgo := Only.of_grown hgrow
                  have hown' : OwnI W3 v3 ((L.take k).map Se.i ++ (L.drop (k + 1)).map Se.i) := by simpa using hown
                  replace HVA := Lib.hid hown'
                  have hot2 : Hid (Only (fun _ => False) w5 W3) := Lib.hid (hot.out.then hgo (fun q hq e => by have := HBA.out q e; omega))
                  replace HBA : Hid (∀ q, v3.ownBlock = some q → w5.heap.size ≤ q) := Lib.hid (fun q hq => by
                    rcases hkk q hq with e | e
                    · exact HBA.out q e
                    · have := hot.out.size; omega)
                  replace hot := hot2
                  clear hown hgrow hkk hgo hown' hot2
                  refine hK.out _ _ (trivial) (fun hHeld3 => ?_)
                  clear hK K
                  try simp only [List.getElem_toArray, List.getElem_cons_zero, List.getElem_cons_succ, Act.put, List.setIfInBounds_toArray, List.set_cons_zero, List.set_cons_succ]
                  refine wpAnyH_take (i := 10) (v := ?_) rfl (by kernel_rfl) (by kernel_rfl) (by kernel_rfl) (fun _ _ _ h => h) (Or.inl ⟨by rfl, ?_⟩) (by assumption) ?_
                  rotate_left 1
                  · intro w' hSw
                    try dsimp only at hSw
                    go_simp
                    try with_reducible rfl
                  try simp only [List.getElem_toArray, List.getElem_cons_zero, List.getElem_cons_succ, Act.put, List.setIfInBounds_toArray, List.set_cons_zero, List.set_cons_succ]
                  refine wpAnyH_done (by kernel_rfl) ?_ _
                  refine NoPanic.normal ?_
                  have HON : Hid (OwnI W3 v3 ((L.take k ++ L.drop (k + 1)).map Se.i)) := Lib.hid (by rw [List.map_append]; exact HVA.out)
                  have HLN : Hid ((L.take k ++ L.drop (k + 1)).length ≤ zn + 1) := Lib.hid (by rw [List.length_append, List.length_take, List.length_drop, ← HN.out]; have := HJ.out; omega)
                  have HBN : Hid (∀ q, (v3 : Value).ownBlock = some q → p ≤ q) := Lib.hid (fun q e => by have := HBA.out q e; omega)
                  have HCN : Hid (CtAt (fun q => p ≤ q ∧ (v3 : Value).ownBlock ≠ some q) W3 p (1 + (zn : Int)) id v4 (L.take k ++ L.drop (k + 1))) := Lib.hid ((HB5.out.mono (T := fun q => p ≤ q ∧ (v3 : Value).ownBlock ≠ some q) (fun q hq s => ⟨s.1, fun e => by have := HBA.out q e; omega⟩)).quiet hot.out)
                  have HRN : Hid (Rise (L.take k ++ L.drop (k + 1)) id) := Lib.hid (HR.out.end k)
                  have HOO : Hid (Only (fun q => p ≤ q) w W3) := Lib.hid (HO5.out.trans (hot.out.mono (fun _ _ f => f.elim)))
                  have hsn : p ≤ W3.heap.size := by have := hot.out.size; omega
                  clear HVA HBA hot HB5 HRI5 HO5 HT1 HT2 HR HBK HOB HN
                  generalize L.take k ++ L.drop (k + 1) = LN at *
                  go_wp2_with fail
                  go_roundw
                  case rel => exact ⟨i + 1, LN, v4, id, v3, by omega, by go_num, rfl, rfl, HLN.out, hid0, by omega, HON, HBN, HCN, HRN, HOO, hsn⟩
                  case measure => simp [intOf]; omega
                · have HT2 : Hid (∀ w', Only (fun _ => False) w5 w' → ReadsI w' (some ⟨ob, oo + j, none⟩) (n - j) ((L.drop (k + 1)).map Se.i)) := Lib.hid (fun w' ho => by rw [List.map_drop, ← HJ.out]; exact reads_drop (HRI5.out.only ho (fun _ _ f => f)) j h9)
                  refine wp_region_noPanic ?_
                  refine wp_region_held_drew (S := (fun _ => True)) (by kernel_rfl) (trivial) (fun hHeld => ?_)
                  obtain ⟨z0, hz0⟩ : ∃ x, x = w5.drew := ⟨_, rfl⟩
                  rw [← hz0]
                  have hot : Hid (Only (fun _ => False) w5 z0) := Lib.hid (by rw [hz0]; exact (Only.refl _ _).drew)
                  clear hz0
                  refine wpAnyH_take (i := 1) (v := ?_) rfl (by kernel_rfl) (by kernel_rfl) (by kernel_rfl) (fun _ _ _ h => h) (Or.inl ⟨by rfl, ?_⟩) (by assumption) ?_
                  rotate_left 1
                  · intro w' hSw
                    try dsimp only at hSw
                    go_simp
                    try with_reducible rfl
                  try simp only [List.getElem_toArray, List.getElem_cons_zero, List.getElem_cons_succ, Act.put, List.setIfInBounds_toArray, List.set_cons_zero, List.set_cons_succ]
                  refine wpAnyH_take (i := 2) (v := ?_) rfl (by kernel_rfl) (by kernel_rfl) (by kernel_rfl) (fun _ _ _ h => h) (Or.inl ⟨by rfl, ?_⟩) (by assumption) ?_
                  rotate_left 1
                  · intro w' hSw
                    try dsimp only at hSw
                    go_simp
                    try with_reducible rfl
                  try simp only [List.getElem_toArray, List.getElem_cons_zero, List.getElem_cons_succ, Act.put, List.setIfInBounds_toArray, List.set_cons_zero, List.set_cons_succ]
                  refine wpAnyH_take (i := 3) (v := ?_) rfl (by kernel_rfl) (by kernel_rfl) (by kernel_rfl) (fun _ _ _ h => h) (Or.inl ⟨by rfl, ?_⟩) (by assumption) ?_
                  rotate_left 1
                  · intro w' hSw
                    try dsimp only at hSw
                    go_simp
                    try with_reducible rfl
                  try simp only [List.getElem_toArray, List.getElem_cons_zero, List.getElem_cons_succ, Act.put, List.setIfInBounds_toArray, List.set_cons_zero, List.set_cons_succ]
                  refine wpAnyH_take (i := 5) (v := ?_) rfl (by kernel_rfl) (by kernel_rfl) (by kernel_rfl) (fun _ _ _ h => h) (Or.inl ⟨by rfl, ?_⟩) (by assumption) ?_
                  rotate_left 1
                  · intro w' hSw
                    try dsimp only at hSw
                    go_simp
                    try with_reducible rfl
                  try simp only [List.getElem_toArray, List.getElem_cons_zero, List.getElem_cons_succ, Act.put, List.setIfInBounds_toArray, List.set_cons_zero, List.set_cons_succ]
                  refine wpAnyH_take (i := 6) (v := ?_) rfl (by kernel_rfl) (by kernel_rfl) (by kernel_rfl) (fun _ _ _ h => h) (Or.inl ⟨by rfl, ?_⟩) (by assumption) ?_
                  rotate_left 1
                  · intro w' hSw
                    try dsimp only at hSw
                    go_simp
                    try with_reducible rfl
                  try simp only [List.getElem_toArray, List.getElem_cons_zero, List.getElem_cons_succ, Act.put, List.setIfInBounds_toArray, List.set_cons_zero, List.set_cons_succ]
                  refine wpAnyH_take (i := 7) (v := ?_) rfl (by kernel_rfl) (by kernel_rfl) (by kernel_rfl) (fun _ _ _ h => h) (Or.inl ⟨by rfl, ?_⟩) (by assumption) ?_
                  rotate_left 1
                  · intro w' hSw
                    try dsimp only at hSw
                    go_simp
                    try with_reducible rfl
                  try simp only [List.getElem_toArray, List.getElem_cons_zero, List.getElem_cons_succ, Act.put, List.setIfInBounds_toArray, List.set_cons_zero, List.set_cons_succ]
                  refine wpAnyH_take (i := 8) (v := ?_) rfl (by kernel_rfl) (by kernel_rfl) (by kernel_rfl) (fun _ _ _ h => h) (Or.inl ⟨by rfl, ?_⟩) (by assumption) ?_
                  rotate_left 1
                  · intro w' hSw
                    try dsimp only at hSw
                    go_simp
                    try with_reducible rfl
                  try simp only [List.getElem_toArray, List.getElem_cons_zero, List.getElem_cons_succ, Act.put, List.setIfInBounds_toArray, List.set_cons_zero, List.set_cons_succ]
                  refine wpAnyH_ready (rs := [0]) (by kernel_rfl) (by simp) ?_
                  refine AllReadyH.cons rfl (fun K hK => ?_) AllReadyH.nil
                  try simp only [List.getElem_toArray, List.getElem_cons_zero]
                  go_simp
                  obtain ⟨W1, hW1⟩ : ∃ x, x = z0.alloc (.cells #[] 3) := ⟨_, rfl⟩
                  obtain ⟨g1, hg1⟩ : ∃ x, x = z0.heap.size := ⟨_, rfl⟩
                  rw [← hW1, ← hg1]
                  have hal : Only (fun _ => False) z0 W1 := by rw [hW1]; exact (Only.refl _ _).alloc _
                  have HVA : Hid (OwnI W1 (.slice (some ⟨g1, 0, none⟩) 0 0) []) := Lib.hid (by rw [hW1, hg1]; exact World.ownsRow_lit z0 #[] 0 (Nat.zero_le _) (by decide) rfl)
                  have HBA : Hid (∀ q, (Value.slice (some ⟨g1, 0, none⟩) 0 0).ownBlock = some q → w5.heap.size ≤ q) := Lib.hid (fun q e => by
                    have e' : g1 = q := by simpa [Value.ownBlock] using e
                    have := hot.out.size; omega)
                  replace hot : Hid (Only (fun _ => False) w5 W1) := Lib.hid (hot.out.trans hal)
                  clear hW1 hg1 hal
                  refine hK.out _ _ (trivial) (fun hHeld1 => ?_)
                  clear hK K
                  try simp only [List.getElem_toArray, List.getElem_cons_zero, Act.put, List.setIfInBounds_toArray, List.set_cons_zero, List.set_cons_succ]
                  refine wpAnyH_ready (rs := [4]) (by kernel_rfl) (by simp) ?_
                  refine AllReadyH.cons rfl (fun K hK => ?_) AllReadyH.nil
                  refine step_int (a := { tmps := _, defers := _ }) rfl _ _ rfl (.slice (some ⟨g1, 0, none⟩) 0 0) ([]) rfl HVA.out _ k _ ((L.take k).map Se.i) rfl (HT1.out _ hot.out) (by first | (simp only [List.length_nil]; omega) | (simp only [List.length_map, List.length_take]; omega)) ?_
                  rintro v2 W2 hown hgrow hkk
                  have hgo := Only.of_grown hgrow
                  have hown' : OwnI W2 v2 ((L.take k).map Se.i) := by simpa using hown
                  replace HVA := Lib.hid hown'
                  have hot2 : Hid (Only (fun _ => False) w5 W2) := Lib.hid (hot.out.then hgo (fun q hq e => by have := HBA.out q e; omega))
                  replace HBA : Hid (∀ q, v2.ownBlock = some q → w5.heap.size ≤ q) := Lib.hid (fun q hq => by
                    rcases hkk q hq with e | e
                    · exact HBA.out q e
                    · have := hot.out.size; omega)
                  replace hot := hot2
                  clear hown hgrow hkk hgo hown' hot2
                  refine hK.out _ _ (trivial) (fun hHeld2 => ?_)
                  clear hK K
                  try simp only [List.getElem_toArray, List.getElem_cons_zero, List.getElem_cons_succ, Act.put, List.setIfInBounds_toArray, List.set_cons_zero, List.set_cons_succ]
                  refine wpAnyH_ready (rs := [9]) (by kernel_rfl) (by simp) ?_
                  refine AllReadyH.cons rfl (fun K hK => ?_) AllReadyH.nil
                  refine step_int (a := { tmps := _, defers := _ }) rfl _ _ rfl v2 ((L.take k).map Se.i) rfl HVA.out _ _ _ ((L.drop (k + 1)).map Se.i) rfl (HT2.out _ hot.out) (by first | (simp only [List.length_nil]; omega) | (simp only [List.length_map, List.length_take]; omega)) ?_
                  rintro v3 W3 hown hgrow hkk
                  have hgo := Only.of_grown hgrow
                  have hown' : OwnI W3 v3 ((L.take k).map Se.i ++ (L.drop (k + 1)).map Se.i) := by simpa using hown
                  replace HVA := Lib.hid hown'
                  have hot2 : Hid (Only (fun _ => False) w5 W3) := Lib.hid (hot.out.then hgo (fun q hq e => by have := HBA.out q e; omega))
                  replace HBA : Hid (∀ q, v3.ownBlock = some q → w5.heap.size ≤ q) := Lib.hid (fun q hq => by
                    rcases hkk q hq with e | e
                    · exact HBA.out q e
                    · have := hot.out.size; omega)
                  replace hot := hot2
                  clear hown hgrow hkk hgo hown' hot2
                  refine hK.out _ _ (trivial) (fun hHeld3 => ?_)
                  clear hK K
                  try simp only [List.getElem_toArray, List.getElem_cons_zero, List.getElem_cons_succ, Act.put, List.setIfInBounds_toArray, List.set_cons_zero, List.set_cons_succ]
                  refine wpAnyH_take (i := 10) (v := ?_) rfl (by kernel_rfl) (by kernel_rfl) (by kernel_rfl) (fun _ _ _ h => h) (Or.inl ⟨by rfl, ?_⟩) (by assumption) ?_
                  rotate_left 1
                  · intro w' hSw
                    try dsimp only at hSw
                    go_simp
                    try with_reducible rfl
                  try simp only [List.getElem_toArray, List.getElem_cons_zero, List.getElem_cons_succ, Act.put, List.setIfInBounds_toArray, List.set_cons_zero, List.set_cons_succ]
                  refine wpAnyH_done (by kernel_rfl) ?_ _
                  refine NoPanic.normal ?_
                  have HON : Hid (OwnI W3 v3 ((L.take k ++ L.drop (k + 1)).map Se.i)) := Lib.hid (by rw [List.map_append]; exact HVA.out)
                  have HLN : Hid ((L.take k ++ L.drop (k + 1)).length ≤ zn + 1) := Lib.hid (by rw [List.length_append, List.length_take, List.length_drop, ← HN.out]; have := HJ.out; omega)
                  have HBN : Hid (∀ q, (v3 : Value).ownBlock = some q → p ≤ q) := Lib.hid (fun q e => by have := HBA.out q e; omega)
                  have HCN : Hid (CtAt (fun q => p ≤ q ∧ (v3 : Value).ownBlock ≠ some q) W3 p (1 + (zn : Int)) id v4 (L.take k ++ L.drop (k + 1))) := Lib.hid ((HB5.out.mono (T := fun q => p ≤ q ∧ (v3 : Value).ownBlock ≠ some q) (fun q hq s => ⟨s.1, fun e => by have := HBA.out q e; omega⟩)).quiet hot.out)
                  have HRN : Hid (Rise (L.take k ++ L.drop (k + 1)) id) := Lib.hid (HR.out.end k)
                  have HOO : Hid (Only (fun q => p ≤ q) w W3) := Lib.hid (HO5.out.trans (hot.out.mono (fun _ _ f => f.elim)))
                  have hsn : p ≤ W3.heap.size := by have := hot.out.size; omega
                  clear HVA HBA hot HB5 HRI5 HO5 HT1 HT2 HR HBK HOB HN
                  generalize L.take k ++ L.drop (k + 1) = LN at *
                  go_wp2_with fail
                  go_roundw
                  case rel => exact ⟨i + 1, LN, v4, id, v3, by omega, by go_num, rfl, rfl, HLN.out, hid0, by omega, HON, HBN, HCN, HRN, HOO, hsn⟩
                  case measure => simp [intOf]; omega
              · have h3b : (x.tmod 3 == 0) = false := by simpa using h3
                have hgb := tmod_in x 4 (by decide) (by decide)
                generalize hgz : wrap64 ((IntKind.u64.wrap x).tmod 4) = gx at hgb
                obtain ⟨hg1, hg2⟩ := hgb
                have hid2 : id ≤ 1000 := by omega
                have hir : 0 ≤ (i : Int).tmod 32 ∧ (i : Int).tmod 32 < 32 := by
                  rw [Int.tmod_eq_emod_of_nonneg (by omega)]
                  exact ⟨Int.emod_nonneg _ (by decide), Int.emod_lt_of_pos _ (by decide)⟩
                generalize hri : (i : Int).tmod 32 = r at hir
                obtain ⟨hr0, hr1⟩ := hir
                go_upto_region 16 with fail
                clear hgz cx hfb
                generalize hl9 : id + 1 + gx = l9 at *
                have hq1 : id < l9 := by omega
                have hq2 : 1 ≤ l9 := by omega
                have hq3 : l9 ≤ 1000 := by omega
                have hq4 : l9 ≤ 4 * ((i : Int) + 1) := by omega
                have hqn : n < zn + 1 := by omega
                have HNI : Hid ((L.map Se.i).length = n) := Lib.hid (by rw [List.length_map]; exact HN.out.symm)
                have HKE := Lib.hid (cadd_yes p (1 + (zn : Int)) id v L l9 (1 + r) wr HB.out hq2 (by omega) (by omega) (by omega) hq1 (by rw [← HN.out]; omega) (by rw [← HN.out]; omega))
                have HOL : Hid (∀ q, (Value.slice oa n oc).ownBlock = some q → q < wr.heap.size) := Lib.hid (fun q e => HI.out.lt e)
                clear hl9 hg1 hg2 hid0 hid1 hid2 hfull
                go_wp2_with fail
                refine HKE.out.mono ?_
                rintro _ w4 ⟨rfl, ⟨v4, hb⟩, ho⟩
                have HB4 : Hid (CtAt (fun q => (p ≤ q ∧ (Value.slice oa n oc).ownBlock ≠ some q) ∧ q < w4.heap.size) w4 p (1 + (zn : Int)) l9 v4 (L ++ [Se.mk l9 (1 + r)])) := Lib.hid (hb.mono (fun q hq s => ⟨s.elim (fun s => s) (fun s => ⟨by omega, fun e => by have := HOL.out q e; omega⟩), hq⟩))
                have HI4 := Lib.hid (HI.out.only ho (fun q e s => s.2 e))
                have HO4 : Hid (Only (fun q => p ≤ q) w w4) := Lib.hid (HO.out.trans (ho.mono (fun q _ s => s.1)))
                have hs4 : p ≤ w4.heap.size := by have := ho.size; omega
                clear hb ho HKE HI HB HO HOL
                have HOW2 : Hid ((w4.alloc (.cells #[.int .i64 l9] 3)).ownsRow 0 3 1 (Value.slice oa n oc) (L.map Se.i).length (iv (L.map Se.i))) := Lib.hid (HI4.out.only ((Only.refl (fun _ => False) w4).alloc _) (fun _ _ f => f))
                rw [HNI.out] at HOW2
                go_wp2_with (at_builtin; refine append_mine rfl _ _ 38 rfl 3 i1 _ 1 8 Try.underlying38 hj hy0 hy1 hy2 rfl (by decide) _ n _ rfl HOW2.out ⟨w4.heap.size, 0, none⟩ 1 1 (iv [l9]) rfl ?c1 ?c2 ?c3 ?c4 ?c5 ?_)
                case c1 => rfl
                case c2 => exact news_int rfl _
                case c3 => exact iv_ones _
                case c4 => unfold maxLen; omega
                case c5 => omega
                intro v3 w3 hown hgrow hkk
                have hog : Only _ (w4.alloc (.cells #[.int .i64 l9] 3)) w3 := Only.of_grown hgrow
                have HON : Hid (OwnI w3 v3 ((L ++ [Se.mk l9 (1 + r)]).map Se.i)) := Lib.hid (by
                  unfold OwnI
                  rw [List.map_append, iv_append, List.length_append, HNI.out]
                  exact hown)
                have HBN : Hid (∀ q, v3.ownBlock = some q → p ≤ q) := Lib.hid (fun q hq => by
                  rcases hkk q hq with e | e
                  · exact HBK.out q e
                  · have h5 : w4.heap.size ≤ q := by first | omega | (simp only [size_alloc] at e; omega)
                    omega)
                have HBW : Hid (CtAt (fun q => p ≤ q ∧ v3.ownBlock ≠ some q) w3 p (1 + (zn : Int)) l9 v4 (L ++ [Se.mk l9 (1 + r)])) := Lib.hid (((HB4.out.quiet ((Only.refl (fun _ => False) w4).alloc _)).only hog (fun q s e => s.1.2 e)).mono (fun q _ s => ⟨s.1.1, fun e => by
                  rcases hkk q e with e2 | e2
                  · exact s.1.2 e2
                  · have h5 : w4.heap.size ≤ q := by first | omega | (simp only [size_alloc] at e2; omega)
                    have := s.2
                    omega⟩))
                have HON2 : Hid (Only (fun q => p ≤ q) w w3) := Lib.hid ((HO4.out.alloc _).then hog (fun q hq e => HBK.out q e))
                have hs3 : p ≤ w3.heap.size := by have := hog.size; simp only [size_alloc] at this; omega
                have HRN : Hid (Rise (L ++ [Se.mk l9 (1 + r)]) l9) := Lib.hid (HR.out.add hq1 hq2)
                have HLN : Hid ((L ++ [Se.mk l9 (1 + r)]).length ≤ zn + 1) := Lib.hid (by rw [List.length_append, List.length_singleton, ← HN.out]; omega)
                clear hown hgrow hkk HOW2 hog HNI HN HR HBK HI4 HB4 HO4 HRI
                generalize L ++ [Se.mk l9 (1 + r)] = LN at *
                go_wp2_with fail
                go_roundw
                case rel => exact ⟨i + 1, LN, v4, l9, v3, by omega, by go_num, rfl, rfl, HLN.out, by omega, by omega, HON, HBN, HBW, HRN, HON2, hs3⟩
                case measure => simp [intOf]; omega
            · have hp1 : ¬ (0 : Int) < n := by omega
              have hgb := tmod_in x 4 (by decide) (by decide)
              generalize hgz : wrap64 ((IntKind.u64.wrap x).tmod 4) = gx at hgb
              obtain ⟨hg1, hg2⟩ := hgb
              have hid2 : id ≤ 1000 := by omega
              have hir : 0 ≤ (i : Int).tmod 32 ∧ (i : Int).tmod 32 < 32 := by
                rw [Int.tmod_eq_emod_of_nonneg (by omega)]
                exact ⟨Int.emod_nonneg _ (by decide), Int.emod_lt_of_pos _ (by decide)⟩
              generalize hri : (i : Int).tmod 32 = r at hir
              obtain ⟨hr0, hr1⟩ := hir
              go_upto_region 16 with fail
              clear hgz cx hfb
              generalize hl9 : id + 1 + gx = l9 at *
              have hq1 : id < l9 := by omega
              have hq2 : 1 ≤ l9 := by omega
              have hq3 : l9 ≤ 1000 := by omega
              have hq4 : l9 ≤ 4 * ((i : Int) + 1) := by omega
              have hqn : n < zn + 1 := by omega
              have HNI : Hid ((L.map Se.i).length = n) := Lib.hid (by rw [List.length_map]; exact HN.out.symm)
              have HKE := Lib.hid (cadd_yes p (1 + (zn : Int)) id v L l9 (1 + r) wr HB.out hq2 (by omega) (by omega) (by omega) hq1 (by rw [← HN.out]; omega) (by rw [← HN.out]; omega))
              have HOL : Hid (∀ q, (Value.slice oa n oc).ownBlock = some q → q < wr.heap.size) := Lib.hid (fun q e => HI.out.lt e)
              clear hl9 hg1 hg2 hid0 hid1 hid2 hfull
              go_wp2_with fail
              refine HKE.out.mono ?_
              rintro _ w4 ⟨rfl, ⟨v4, hb⟩, ho⟩
              have HB4 : Hid (CtAt (fun q => (p ≤ q ∧ (Value.slice oa n oc).ownBlock ≠ some q) ∧ q < w4.heap.size) w4 p (1 + (zn : Int)) l9 v4 (L ++ [Se.mk l9 (1 + r)])) := Lib.hid (hb.mono (fun q hq s => ⟨s.elim (fun s => s) (fun s => ⟨by omega, fun e => by have := HOL.out q e; omega⟩), hq⟩))
              have HI4 := Lib.hid (HI.out.only ho (fun q e s => s.2 e))
              have HO4 : Hid (Only (fun q => p ≤ q) w w4) := Lib.hid (HO.out.trans (ho.mono (fun q _ s => s.1)))
              have hs4 : p ≤ w4.heap.size := by have := ho.size; omega
              clear hb ho HKE HI HB HO HOL
              have HOW2 : Hid ((w4.alloc (.cells #[.int .i64 l9] 3)).ownsRow 0 3 1 (Value.slice oa n oc) (L.map Se.i).length (iv (L.map Se.i))) := Lib.hid (HI4.out.only ((Only.refl (fun _ => False) w4).alloc _) (fun _ _ f => f))
              rw [HNI.out] at HOW2
              go_wp2_with (at_builtin; refine append_mine rfl _ _ 38 rfl 3 i1 _ 1 8 Try.underlying38 hj hy0 hy1 hy2 rfl (by decide) _ n _ rfl HOW2.out ⟨w4.heap.size, 0, none⟩ 1 1 (iv [l9]) rfl ?c1 ?c2 ?c3 ?c4 ?c5 ?_)
              case c1 => rfl
              case c2 => exact news_int rfl _
              case c3 => exact iv_ones _
              case c4 => unfold maxLen; omega
              case c5 => omega
              intro v3 w3 hown hgrow hkk
              have hog : Only _ (w4.alloc (.cells #[.int .i64 l9] 3)) w3 := Only.of_grown hgrow
              have HON : Hid (OwnI w3 v3 ((L ++ [Se.mk l9 (1 + r)]).map Se.i)) := Lib.hid (by
                unfold OwnI
                rw [List.map_append, iv_append, List.length_append, HNI.out]
                exact hown)
              have HBN : Hid (∀ q, v3.ownBlock = some q → p ≤ q) := Lib.hid (fun q hq => by
                rcases hkk q hq with e | e
                · exact HBK.out q e
                · have h5 : w4.heap.size ≤ q := by first | omega | (simp only [size_alloc] at e; omega)
                  omega)
              have HBW : Hid (CtAt (fun q => p ≤ q ∧ v3.ownBlock ≠ some q) w3 p (1 + (zn : Int)) l9 v4 (L ++ [Se.mk l9 (1 + r)])) := Lib.hid (((HB4.out.quiet ((Only.refl (fun _ => False) w4).alloc _)).only hog (fun q s e => s.1.2 e)).mono (fun q _ s => ⟨s.1.1, fun e => by
                rcases hkk q e with e2 | e2
                · exact s.1.2 e2
                · have h5 : w4.heap.size ≤ q := by first | omega | (simp only [size_alloc] at e2; omega)
                  have := s.2
                  omega⟩))
              have HON2 : Hid (Only (fun q => p ≤ q) w w3) := Lib.hid ((HO4.out.alloc _).then hog (fun q hq e => HBK.out q e))
              have hs3 : p ≤ w3.heap.size := by have := hog.size; simp only [size_alloc] at this; omega
              have HRN : Hid (Rise (L ++ [Se.mk l9 (1 + r)]) l9) := Lib.hid (HR.out.add hq1 hq2)
              have HLN : Hid ((L ++ [Se.mk l9 (1 + r)]).length ≤ zn + 1) := Lib.hid (by rw [List.length_append, List.length_singleton, ← HN.out]; omega)
              clear hown hgrow hkk HOW2 hog HNI HN HR HBK HI4 HB4 HO4 HRI
              generalize L ++ [Se.mk l9 (1 + r)] = LN at *
              go_wp2_with fail
              go_roundw
              case rel => exact ⟨i + 1, LN, v4, l9, v3, by omega, by go_num, rfl, rfl, HLN.out, by omega, by omega, HON, HBN, HBW, HRN, HON2, hs3⟩
              case measure => simp [intOf]; omega
        · have hk2 : ¬ (i : Int) < 60 := by omega
          go_wp2_with fail
          go_meet
          exact ⟨i, L, v, id, dv, hi, rfl, rfl, rfl, hL, hid0, hid1, HI, HBK, HB, HR, HO, hs⟩
      · go_wp2_with fail
        go_meet
        exact ⟨i, L, v, id, dv, hi, rfl, rfl, rfl, hL, hid0, hid1, HI, HBK, HB, HR, HO, hs⟩
  case rest =>
    obtain ⟨i, L, v, id, dv, hi, rfl, rfl, rfl, hL, hid0, hid1, HI, HBK, HB, HR, HO, hs⟩ := hcut
    rename World => wr
    clear HB2 HO2 hs2
    obtain ⟨oa, oc, rfl, hri⟩ := HI.out.reads (HR.out.bd (by omega)) (by rw [List.length_map]; omega)
    have HRI := Lib.hid hri
    have HBD := Lib.hid (HR.out.bd (by omega))
    rw [List.length_map] at HRI ⊢
    clear hri HI
    generalize hn : L.length = n at *
    go_wp2_with fail
    refine (cids_any p (1 + (zn : Int)) id v L wr HB.out).mono ?_
    rintro _ w4 ⟨⟨v', rfl, hov⟩, ho⟩
    have HO4 := Lib.hid ho
    obtain ⟨oa2, oc2, rfl, hri2⟩ := hov.reads HBD.out (by rw [List.length_map]; omega)
    rw [List.length_map, hn] at hri2 ⊢
    have HRI2 := Lib.hid hri2
    clear hri2 hov ho
    go_wp2_with fail
    refine (same_any oa2 oa n _ _ (L.map Se.i) w4 HRI2.out (HRI.out.only HO4.out (fun _ _ f => f))).mono ?_
    rintro _ w5 ⟨rfl, ho⟩
    have HO5 := Lib.hid (HO4.out.trans ho)
    clear ho
    go_wp2_with fail
    refine (clast_any p (1 + (zn : Int)) id v L w5 (HB.out.quiet HO5.out)).mono ?_
    rintro _ w6 ⟨rfl, ho⟩
    have HO6 := Lib.hid (HW.out _ (HO.out.trans ((HO5.out.trans ho).mono (fun _ _ f => f.elim))))
    clear ho
    go_wp2_with fail
    go_ret
    exact ⟨rfl, HO6.out⟩
end Go.Proofs.Ytglcdpggngcdeaa.crd
