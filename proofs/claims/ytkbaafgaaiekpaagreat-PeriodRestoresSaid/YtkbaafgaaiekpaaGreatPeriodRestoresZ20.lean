/- Several texts together: FuE. -/
import Derived.Test.YtkbaafgaaiekpaaGreatPeriodRestoresZ1
import Derived.Test.YtkbaafgaaiekpaaGreatPeriodRestoresZ18
import Derived.Deep.CutRange
import Derived.Deep.CutBlock
open Go.Lib (hid)
namespace Go.Proofs.YtkbaafgaaiekpaaGreat.fnd
open Go.RowKit mem tre
set_option linter.unusedVariables false
def POk (l : List Int) (k : Nat) : Prop := ∀ i, i < k → NodeOk (l.getD i 0) ∧ (l.take i).contains (l.getD i 0) = false
instance (l : List Int) (k : Nat) : Decidable (POk l k) := inferInstanceAs (Decidable (∀ i, i < k → _))
def PathOk (l : List Int) : Prop := (1 ≤ l.length ∧ l.length ≤ 3) ∧ POk l l.length
instance (l : List Int) : Decidable (PathOk l) := inferInstanceAs (Decidable (_ ∧ _))
def LimIn (x : Int) : Prop := -1 ≤ x ∧ x ≤ 9007199254740992
def LOk (l : List Int) (k : Nat) : Prop := ∀ i, i < k → LimIn (l.getD i 0)
instance (x : Int) : Decidable (LimIn x) := inferInstanceAs (Decidable (_ ∧ _))
instance (l : List Int) (k : Nat) : Decidable (LOk l k) := inferInstanceAs (Decidable (∀ i, i < k → _))
theorem ReadsI.take {w : World} {a : Option Addr} {n : Nat} {l : List Int} (h : ReadsI w a n l) (k : Nat) (hk : k ≤ n) : ReadsI w a k (l.take k) := by
  obtain ⟨h1, h2, h3, h4⟩ := h; refine ⟨by rw [List.length_take]; omega, by omega, fun c hc => h3 c (List.mem_of_mem_take hc), ?_⟩; rcases h4 with h4 | ⟨b, off, e, hc⟩
  · exact .inl (by omega)
  · refine .inr ⟨b, off, e, fun j hj => ?_⟩; have e2 : (l.take k).getD j 0 = l.getD j 0 := (by simp [List.getD, hj]); rw [e2]; exact hc j (by omega)
theorem POk.step {l : List Int} {k : Nat} (h : POk l k) (h1 : NodeOk (l.getD k 0)) (h2 : (l.take k).contains (l.getD k 0) = false) : POk l (k + 1) := fun i hi => by
  by_cases e : i = k
  · subst e; exact ⟨h1, h2⟩
  · exact h i (by omega)
theorem LOk.step {l : List Int} {k : Nat} (h : LOk l k) (h1 : LimIn (l.getD k 0)) : LOk l (k + 1) := fun i hi => by
  by_cases e : i = k
  · subst e; exact h1
  · exact h i (by omega)
set_option maxRecDepth 100000 in
set_option maxHeartbeats 8000000 in
theorem ispath_any (a : Option Addr) (n c : Nat) (l : List Int) (w : World) (h : ReadsI w a n l) (hc : n ≤ c) : Calls Tryz.prog 76 #[.slice a n c] w fun e w' => e = .returned (.bool (decide (PathOk l))) ∧ Only (fun _ => False) w w' := by
  have HR := hid h; have hm := h.2.1; unfold maxLen at hm; have hln : l.length = n := h.1; have HLN := hid hln; clear h hln; by_cases hn : 1 ≤ n
  · by_cases hn3 : n ≤ 3
    · have hn3' : (n : Int) ≤ 3 := (by omega); have hn1' : (1 : Int) ≤ n := (by omega); have HNO : Hid (∀ k, k < n → ¬ (NodeOk (l.getD k 0) ∧ (l.take k).contains (l.getD k 0) = false) → decide (PathOk l) = false) := hid (fun k hk q => decide_eq_false (fun r => q (r.2 k (by rw [HLN.out]; exact hk)))); have HYE : Hid (POk l n → decide (PathOk l) = true) := hid (fun q => decide_eq_true ⟨by rw [HLN.out]; omega, by rw [HLN.out]; exact q⟩); generalize decide (PathOk l) = R at *; go_enter Tryz.func76, Tryz.ntmps76
      go_wp2_with fail
      go_loopw [15] (fun iv wr => ∃ k : Nat, k ≤ n ∧ iv = .int .i64 (k : Int) ∧ Hid (POk l k) ∧ Hid (Only (fun _ => False) w wr)) (fun iv _ => n - (intOf iv).toNat)
      case atStart => exact ⟨0, by omega, rfl, hid (fun i hi => by omega), hid (Only.refl _ _)⟩
      case round =>
        obtain ⟨k, hk, rfl, HP, HO⟩ := hrel; rename World => wr
        by_cases h8 : k < n
        · obtain ⟨b, off, rfl, hcell⟩ := HR.out.2.2.2.resolve_left (by omega); have cx := HO.out.cell' (hcell k h8) (fun f => f); have hk0 : (0 : Int) ≤ k := (by omega); have hk1 : (k : Int) < n := (by omega); have hkc : (k : Int) ≤ c := (by omega); have HN2 := hid (HNO.out k h8); have HP2 : Hid (NodeOk (l.getD k 0) → (l.take k).contains (l.getD k 0) = false → POk l (k + 1)) := hid (fun q1 q2 => HP.out.step q1 q2); have hcn := contains_any (some ⟨b, off, none⟩) c (l.take k) (l.getD k 0) wr (by
            rw [List.length_take, HLN.out, Nat.min_eq_left (Nat.le_of_lt h8)]; exact (ReadsI.take HR.out k (Nat.le_of_lt h8)).only HO.out (fun _ _ f => f))
          rw [List.length_take, HLN.out, Nat.min_eq_left (Nat.le_of_lt h8)] at hcn; have HCN := hid hcn; generalize (l.take k).contains (l.getD k 0) = cb at *; generalize l.getD k 0 = x at *; clear hcell hcn; by_cases hx : NodeOk x
          · cases cb
            · have HP3 := hid (HP2.out hx rfl); obtain ⟨x1, x2⟩ := hx; clear HP2 HN2; (go_wp2_with fail); refine (isNode_yes _ _ x1 x2).mono ?_; rintro _ _ ⟨rfl, rfl⟩; (go_wp2_with fail); refine HCN.out.mono ?_; rintro _ _ ⟨rfl, rfl⟩; (go_wp2_with fail); go_roundw
              case rel => exact ⟨k + 1, by omega, by go_num, HP3, HO⟩
              case measure => simp [intOf]; omega
            · have HFA := hid (HN2.out (fun q => by cases q.2)); obtain ⟨x1, x2⟩ := hx; clear HP2 HN2; (go_wp2_with fail); refine (isNode_yes _ _ x1 x2).mono ?_; rintro _ _ ⟨rfl, rfl⟩; (go_wp2_with fail); refine HCN.out.mono ?_; rintro _ _ ⟨rfl, rfl⟩; (go_wp2_with fail); go_ret
              exact ⟨by rw [HFA.out]; rfl, HO.out⟩
          · have HFA := hid (HN2.out (fun q => hx q.1)); have hx' : ¬ (1 ≤ x ∧ x ≤ 32) := hx; clear hx HP2 HN2; (go_wp2_with fail); refine (isNode_no _ _ hx').mono ?_; rintro _ _ ⟨rfl, rfl⟩; (go_wp2_with fail); go_ret
            exact ⟨by rw [HFA.out]; rfl, HO.out⟩
        · obtain rfl : k = n := (by omega); have HFA := hid (HYE.out HP.out); (go_wp2_with fail); go_ret
          exact ⟨by rw [HFA.out]; rfl, HO.out⟩
    · have HF : Hid (decide (PathOk l) = false) := hid (decide_eq_false (fun q => by have := q.1.2; rw [HLN.out] at this; omega)); rw [HF.out]; have hn3' : (3 : Int) < n := (by omega); have hn1' : (1 : Int) ≤ n := (by omega); clear hn hn3; go_enter Tryz.func76, Tryz.ntmps76
      (go_wp2_with fail); go_ret
      exact ⟨rfl, Only.refl _ _⟩
  · have HF : Hid (decide (PathOk l) = false) := hid (decide_eq_false (fun q => by have := q.1.1; rw [HLN.out] at this; omega)); rw [HF.out]; obtain rfl : n = 0 := (by omega); clear hn; go_enter Tryz.func76, Tryz.ntmps76
    (go_wp2_with fail); go_ret
    exact ⟨rfl, Only.refl _ _⟩
theorem contains_step' (l : List Int) (u : Int) (k : Nat) (h : k < l.length) : (l.take (k + 1)).contains u = ((l.take k).contains u || l.getD k 0 == u) := by
  have e : l.getD k 0 = l[k] := (by simp [List.getD, h]); rw [List.take_succ_eq_append_getElem h, List.contains_append, e]; have e2 : [l[k]].contains u = (l[k] == u) := by
    rw [Bool.eq_iff_iff, List.contains_iff_mem, List.mem_singleton, beq_iff_eq]; exact ⟨fun q => q.symm, fun q => q.symm⟩
  rw [e2]
set_option maxRecDepth 100000 in
set_option maxHeartbeats 8000000 in
theorem rpath_any (a : Option Addr) (n c : Nat) (l : List Int) (w : World) (h : ReadsI w a n l) (hc : n ≤ c) : Calls Tryz.prog 104 #[.slice a n c] w fun e w' => e = .returned (.bool (decide (PathOk l))) ∧ Only (fun _ => False) w w' := by
  have HR := hid h; have hm := h.2.1; unfold maxLen at hm; have hln : l.length = n := h.1; have HLN := hid hln; clear h hln; by_cases hn : 1 ≤ n
  · by_cases hn3 : n ≤ 3
    · have hn3' : (n : Int) ≤ 3 := (by omega); have hn1' : (1 : Int) ≤ n := (by omega); have HNO : Hid (∀ k, k < n → ¬ (NodeOk (l.getD k 0) ∧ (l.take k).contains (l.getD k 0) = false) → decide (PathOk l) = false) := hid (fun k hk q => decide_eq_false (fun r => q (r.2 k (by rw [HLN.out]; exact hk)))); have HYE : Hid (POk l n → decide (PathOk l) = true) := hid (fun q => decide_eq_true ⟨by rw [HLN.out]; omega, by rw [HLN.out]; exact q⟩); generalize decide (PathOk l) = R at *; go_enter Tryz.func104, Tryz.ntmps104
      go_wp2_with fail
      go_loopw [3] (fun iv wr => ∃ k : Nat, k ≤ n ∧ iv = .int .i64 (k : Int) ∧ Hid (POk l k) ∧ Hid (Only (fun _ => False) w wr)) (fun iv _ => n - (intOf iv).toNat)
      case atStart => exact ⟨0, by omega, rfl, hid (fun i hi => by omega), hid (Only.refl _ _)⟩
      case round =>
        obtain ⟨k, hk, rfl, HP, HO⟩ := hrel; rename World => wr
        by_cases h8 : k < n
        · obtain ⟨b, off, rfl, hcell⟩ := HR.out.2.2.2.resolve_left (by omega); have HCX : Hid (∀ j, j < n → w.cell? ⟨b, off + j, none⟩ = some (.int .i64 (l.getD j 0))) := hid hcell; have hk0 : (0 : Int) ≤ k := (by omega); have hk1 : (k : Int) < n := (by omega); have HN2 := hid (HNO.out k h8); have HP2 : Hid (NodeOk (l.getD k 0) → (l.take k).contains (l.getD k 0) = false → POk l (k + 1)) := hid (fun q1 q2 => HP.out.step q1 q2); have HCK := hid (hcell k h8); have HTS : Hid (∀ j, j < n → (l.take (j + 1)).contains (l.getD k 0) = ((l.take j).contains (l.getD k 0) || l.getD j 0 == l.getD k 0)) := hid (fun j hj => contains_step' l (l.getD k 0) j (by rw [HLN.out]; exact hj)); have HMO : Hid (∀ j, j < k → l.getD j 0 = l.getD k 0 → (l.take k).contains (l.getD k 0) = true) := hid (fun j hj e => by
            rw [List.contains_iff_mem, ← e]; have hjl : j < (l.take k).length := (by rw [List.length_take, HLN.out]; omega); have : l.getD j 0 = (l.take k)[j] := (by rw [List.getElem_take]; simp [List.getD, show j < l.length by rw [HLN.out]; omega]); rw [this]; exact List.getElem_mem _)
          clear hcell; generalize l.getD k 0 = x at *; go_wp2_with fail
          go_loopw [4] (fun jv wz => ∃ j : Nat, j ≤ k ∧ jv = .int .i64 (j : Int) ∧ Hid ((l.take j).contains x = false) ∧ Hid (Only (fun _ => False) w wz)) (fun jv _ => k - (intOf jv).toNat)
          case atStart => exact ⟨0, by omega, rfl, hid rfl, HO⟩
          case round =>
            obtain ⟨j, hj, rfl, HJ, HO1⟩ := hrel; rename World => wz
            by_cases h9 : j < k
            · have cj := HO1.out.cell' (HCX.out j (by omega)) (fun f => f); have ck := HO1.out.cell' HCK.out (fun f => f); have hj0 : (0 : Int) ≤ j := (by omega); have hj1 : (j : Int) < k := (by omega); have hj2 : (j : Int) < n := (by omega); have hst := HTS.out j (by omega); rw [HJ.out] at hst; have HST := hid hst; have HMJ := hid (HMO.out j h9); clear hst; generalize l.getD j 0 = y at *; (go_upto_region 9 with fail); by_cases hxy : y = x
              · subst hxy; have HFA := hid (HN2.out (fun q => by rw [HMJ.out rfl] at q; cases q.2)); refine wp_region_noPanic ?_; refine late.region (fun w' => ∀ q, w'.cell? q = wz.cell? q) (fun j => [].contains j) (by kernel_rfl) (fun q => by simp) (fun hHeld => ?_); refine sho.lt 0 [2, 3, 8] ?_; refine sho.lt 1 [2, 3, 8] ?_; refine sho.lt 2 [3, 8] ?_; refine sho.lt 3 [8] ?_; refine sho.lt 4 [6, 7, 8] ?_; refine sho.lt 5 [6, 7, 8] ?_; refine sho.lt 6 [7, 8] ?_; refine sho.lt 7 [8] ?_; refine sho.lt 8 [] ?_; refine late.done (by kernel_rfl) ?_ _; refine NoPanic.normal ?_; (go_wp2_with fail); go_ret
                exact ⟨by rw [HFA.out]; rfl, HO1.out.drew⟩
              · have hxb : (y == x) = false := (by simpa using hxy); have HJ2 : Hid ((l.take (j + 1)).contains x = false) := hid (by rw [HST.out, hxb]; rfl); have HO2 := hid HO1.out.drew; clear hxy; refine wp_region_noPanic ?_; refine late.region (fun w' => ∀ q, w'.cell? q = wz.cell? q) (fun j => [].contains j) (by kernel_rfl) (fun q => by simp) (fun hHeld => ?_); refine sho.lt 0 [2, 3, 8] ?_; refine sho.lt 1 [2, 3, 8] ?_; refine sho.lt 2 [3, 8] ?_; refine sho.lt 3 [8] ?_; refine sho.lt 4 [6, 7, 8] ?_; refine sho.lt 5 [6, 7, 8] ?_; refine sho.lt 6 [7, 8] ?_; refine sho.lt 7 [8] ?_; refine sho.lt 8 [] ?_; refine late.done (by kernel_rfl) ?_ _; refine NoPanic.normal ?_; (go_wp2_with fail); go_roundw
                case rel => exact ⟨j + 1, by omega, by go_num, HJ2, HO2⟩
                case measure => simp [intOf]; omega
            · obtain rfl : j = k := (by omega); have ck := HO1.out.cell' HCK.out (fun f => f); by_cases hx : NodeOk x
              · have HP3 := hid (HP2.out hx HJ.out); obtain ⟨x1, x2⟩ := hx; clear HP2 HN2; (go_wp2_with fail); refine (rNode_yes _ _ x1 x2).mono ?_; rintro _ _ ⟨rfl, rfl⟩; (go_wp2_with fail); go_roundw
                case rel => exact ⟨j + 1, by omega, by go_num, HP3, HO1⟩
                case measure => simp [intOf]; omega
              · have HFA := hid (HN2.out (fun q => hx q.1)); have hx' : ¬ (1 ≤ x ∧ x ≤ 32) := hx; clear hx HP2 HN2; (go_wp2_with fail); refine (rNode_no _ _ hx').mono ?_; rintro _ _ ⟨rfl, rfl⟩; (go_wp2_with fail); go_ret
                exact ⟨by rw [HFA.out]; rfl, HO1.out⟩
        · obtain rfl : k = n := (by omega); have HFA := hid (HYE.out HP.out); (go_wp2_with fail); go_ret
          exact ⟨by rw [HFA.out]; rfl, HO.out⟩
    · have HF : Hid (decide (PathOk l) = false) := hid (decide_eq_false (fun q => by have := q.1.2; rw [HLN.out] at this; omega)); rw [HF.out]; have hn3' : (3 : Int) < n := (by omega); have hn1' : (1 : Int) ≤ n := (by omega); clear hn hn3; go_enter Tryz.func104, Tryz.ntmps104
      (go_wp2_with fail); go_ret
      exact ⟨rfl, Only.refl _ _⟩
  · have HF : Hid (decide (PathOk l) = false) := hid (decide_eq_false (fun q => by have := q.1.1; rw [HLN.out] at this; omega)); rw [HF.out]; obtain rfl : n = 0 := (by omega); clear hn; go_enter Tryz.func104, Tryz.ntmps104
    (go_wp2_with fail); go_ret
    exact ⟨rfl, Only.refl _ _⟩
set_option maxRecDepth 100000 in
set_option maxHeartbeats 8000000 in
theorem arelim_any (a : Option Addr) (m c : Nat) (ls : List Int) (a2 : Option Addr) (n c2 : Nat) (w : World) (h : ReadsI w a m ls) (hn : n ≤ maxLen) : Calls Tryz.prog 77 #[.slice a m c, .slice a2 n c2] w fun e w' => e = .returned (.bool (decide (m = n ∧ LOk ls m))) ∧ Only (fun _ => False) w w' := by
  have HR := hid h; have hm := h.2.1; unfold maxLen at hm hn; clear h; by_cases hmn : m = n
  · subst hmn; have HNO : Hid (∀ k, k < m → ¬ LimIn (ls.getD k 0) → decide (m = m ∧ LOk ls m) = false) := hid (fun k hk q => decide_eq_false (fun r => q (r.2 k hk))); have HYE : Hid (LOk ls m → decide (m = m ∧ LOk ls m) = true) := hid (fun q => decide_eq_true ⟨rfl, q⟩); generalize decide (m = m ∧ LOk ls m) = R at *; go_enter Tryz.func77, Tryz.ntmps77
    go_wp2_with fail
    go_loopw [14] (fun iv wr => ∃ k : Nat, k ≤ m ∧ iv = .int .i64 (k : Int) ∧ Hid (LOk ls k) ∧ Hid (Only (fun _ => False) w wr)) (fun iv _ => m - (intOf iv).toNat)
    case atStart => exact ⟨0, by omega, rfl, hid (fun i hi => by omega), hid (Only.refl _ _)⟩
    case round =>
      obtain ⟨k, hk, rfl, HP, HO⟩ := hrel; rename World => wr
      by_cases h8 : k < m
      · obtain ⟨b, off, rfl, hcell⟩ := HR.out.2.2.2.resolve_left (by omega); have cx := HO.out.cell' (hcell k h8) (fun f => f); have hk0 : (0 : Int) ≤ k := (by omega); have hk1 : (k : Int) < m := (by omega); have HN2 := hid (HNO.out k h8); have HP2 : Hid (LimIn (ls.getD k 0) → LOk ls (k + 1)) := hid (fun q1 => HP.out.step q1); generalize ls.getD k 0 = x at *; clear hcell; by_cases hx : LimIn x
        · have HP3 := hid (HP2.out hx); obtain ⟨x1, x2⟩ := hx; clear HP2 HN2; (go_wp2_with fail); go_roundw
          case rel => exact ⟨k + 1, by omega, by go_num, HP3, HO⟩
          case measure => simp [intOf]; omega
        · have HFA := hid (HN2.out hx); by_cases x1 : -1 ≤ x
          · have x2 : ¬ x ≤ 9007199254740992 := fun q => hx ⟨x1, q⟩; clear hx HP2 HN2; (go_wp2_with fail); go_ret
            exact ⟨by rw [HFA.out]; rfl, HO.out⟩
          · clear hx HP2 HN2; (go_wp2_with fail); go_ret
            exact ⟨by rw [HFA.out]; rfl, HO.out⟩
      · obtain rfl : k = m := (by omega); have HFA := hid (HYE.out HP.out); (go_wp2_with fail); go_ret
        exact ⟨by rw [HFA.out]; rfl, HO.out⟩
  · have HF : Hid (decide (m = n ∧ LOk ls m) = false) := hid (decide_eq_false (fun q => hmn q.1)); rw [HF.out]; have hb : ((m : Int) != n) = true := (by simp; omega); clear hmn; go_enter Tryz.func77, Tryz.ntmps77
    (go_wp2_with fail); go_ret
    exact ⟨rfl, Only.refl _ _⟩
set_option maxRecDepth 100000 in
set_option maxHeartbeats 8000000 in
theorem rlimited_any (a2 : Option Addr) (n c2 : Nat) (l : List Int) (a : Option Addr) (m c : Nat) (ls : List Int) (w : World) (h2 : ReadsI w a2 n l) (hc2 : n ≤ c2) (h : ReadsI w a m ls) : Calls Tryz.prog 103 #[.slice a2 n c2, .slice a m c] w fun e w' => e = .returned (.bool (decide (PathOk l ∧ m = n ∧ LOk ls m))) ∧ Only (fun _ => False) w w' := by
  have HR := hid h; have HPA := hid (rpath_any a2 n c2 l w h2 hc2); have hm := h.2.1; have hn := h2.2.1; unfold maxLen at hm hn; clear h h2; by_cases hp : PathOk l
  · have HDP : Hid (decide (PathOk l) = true) := hid (decide_eq_true hp); rw [HDP.out] at HPA; by_cases hmn : m = n
    · subst hmn; have HNO : Hid (∀ k, k < m → ¬ LimIn (ls.getD k 0) → decide (PathOk l ∧ m = m ∧ LOk ls m) = false) := hid (fun k hk q => decide_eq_false (fun r => q (r.2.2 k hk))); have HYE : Hid (LOk ls m → decide (PathOk l ∧ m = m ∧ LOk ls m) = true) := hid (fun q => decide_eq_true ⟨hp, rfl, q⟩); clear hp HDP; generalize decide (PathOk l ∧ m = m ∧ LOk ls m) = R at *; go_enter Tryz.func103, Tryz.ntmps103
      (go_wp2_with fail); refine (HPA.out).mono ?_; rintro _ w1 ⟨rfl, ho⟩; have HO1 := hid ho; replace HR := hid (HR.out.only ho (fun _ _ f => f)); clear ho; go_wp2_with fail
      go_loopw [5] (fun iv wr => ∃ k : Nat, k ≤ m ∧ iv = .int .i64 (k : Int) ∧ Hid (LOk ls k) ∧ Hid (Only (fun _ => False) w1 wr)) (fun iv _ => m - (intOf iv).toNat)
      case atStart => exact ⟨0, by omega, rfl, hid (fun i hi => by omega), hid (Only.refl _ _)⟩
      case round =>
        obtain ⟨k, hk, rfl, HP, HO⟩ := hrel; rename World => wr
        by_cases h8 : k < m
        · obtain ⟨b, off, rfl, hcell⟩ := HR.out.2.2.2.resolve_left (by omega); have cx := HO.out.cell' (hcell k h8) (fun f => f); have hk0 : (0 : Int) ≤ k := (by omega); have hk1 : (k : Int) < m := (by omega); have HN2 := hid (HNO.out k h8); have HP2 : Hid (LimIn (ls.getD k 0) → LOk ls (k + 1)) := hid (fun q1 => HP.out.step q1); generalize ls.getD k 0 = x at *; clear hcell; by_cases hx : LimIn x
          · have HP3 := hid (HP2.out hx); obtain ⟨x1, x2⟩ := hx; clear HP2 HN2; (go_wp2_with fail); go_roundw
            case rel => exact ⟨k + 1, by omega, by go_num, HP3, HO⟩
            case measure => simp [intOf]; omega
          · have HFA := hid (HN2.out hx); by_cases x1 : -1 ≤ x
            · have x2 : ¬ x ≤ 9007199254740992 := fun q => hx ⟨x1, q⟩; clear hx HP2 HN2; (go_wp2_with fail); go_ret
              exact ⟨by rw [HFA.out]; rfl, HO1.out.trans HO.out⟩
            · clear hx HP2 HN2; (go_wp2_with fail); go_ret
              exact ⟨by rw [HFA.out]; rfl, HO1.out.trans HO.out⟩
        · obtain rfl : k = m := (by omega); have HFA := hid (HYE.out HP.out); (go_wp2_with fail); go_ret
          exact ⟨by rw [HFA.out]; rfl, HO1.out.trans HO.out⟩
    · have HF : Hid (decide (PathOk l ∧ m = n ∧ LOk ls m) = false) := hid (decide_eq_false (fun q => hmn q.2.1)); rw [HF.out]; have hb : ((m : Int) != n) = true := (by simp; omega); clear hmn hp HDP; go_enter Tryz.func103, Tryz.ntmps103
      (go_wp2_with fail); refine (HPA.out).mono ?_; rintro _ w1 ⟨rfl, ho⟩; have HO1 := hid ho; clear ho; (go_wp2_with fail); go_ret
      exact ⟨rfl, HO1.out⟩
  · have HDP : Hid (decide (PathOk l) = false) := hid (decide_eq_false hp); rw [HDP.out] at HPA; have HF : Hid (decide (PathOk l ∧ m = n ∧ LOk ls m) = false) := hid (decide_eq_false (fun q => hp q.1)); rw [HF.out]; clear hp HDP; go_enter Tryz.func103, Tryz.ntmps103
    (go_wp2_with fail); refine (HPA.out).mono ?_; rintro _ w1 ⟨rfl, ho⟩; have HO1 := hid ho; clear ho; (go_wp2_with fail); go_ret
    exact ⟨rfl, HO1.out⟩
end Go.Proofs.YtkbaafgaaiekpaaGreat.fnd
