/- Tariffs: in which tier a block is. Tariffs: blocks spread over tiers, one behind the other. Tariffs: a block's tier; so many blocks spread over tiers. -/
import Derived.Test.YtdfghdccbpnohaaTirL
import Derived.Test.YtdfghdccbpnohaaTirB
namespace Go.Proofs.Ytdfghdccbpnohaa.tirw
open Go.RowKit mem tirm intm
set_option linter.unusedVariables false

theorem lit_any (u p n : Int) (q : Nat) (w : World) (hq : w.cell? ⟨q, 0, none⟩ = some (.int .i64 n)) :
    Calls Try.prog 49 #[.agg #[.int .i64 u, .int .i64 p], .pointer (some ⟨q, 0, none⟩)] w fun e w' => e = .returned (.bool (decide (u = 0 ∨ n ≤ u))) ∧ Only (fun _ => False) w w' := by
  have HO : Hid (∀ o, Only (fun _ => False) w (w.alloc o)) := Lib.hid (fun o => (Only.refl _ w).alloc o)
  have hq2 : ∀ o, (w.alloc o).cell? ⟨q, 0, none⟩ = some (.int .i64 n) := fun o => (HO.out o).cell' hq (fun f => f)
  by_cases h0 : u = 0
  · rw [decide_eq_true (.inl h0)]
    subst h0
    go_enter Try.func49, Try.ntmps49
    go_wp2_with fail
    go_ret
    exact ⟨rfl, HO.out _⟩
  · by_cases h1 : n ≤ u
    · rw [decide_eq_true (.inr h1)]
      go_enter Try.func49, Try.ntmps49
      go_wp2_with fail
      go_ret
      exact ⟨rfl, HO.out _⟩
    · rw [decide_eq_false (by omega)]
      have h2 : (u == 0) = false := by simpa using h0
      go_enter Try.func49, Try.ntmps49
      go_wp2_with fail
      go_ret
      exact ⟨rfl, HO.out _⟩

theorem idx_step {ts : List Tr} {k : Nat} (n : Int) (h : k < ts.length) : idxF n k (ts.drop k) = if (ts.getD k default).u = 0 ∨ n ≤ (ts.getD k default).u then (k : Int) else idxF n ((k + 1 : Nat) : Int) (ts.drop (k + 1)) := by
  rw [drop_getT ts k h]
  rfl

set_option maxRecDepth 100000 in
theorem indexf_any (a : Option Addr) (len cap : Nat) (ts : List Tr) (n : Int) (q : Nat) (w : World) (h : ReadsT w a len ts) (hq : w.cell? ⟨q, 0, none⟩ = some (.int .i64 n)) :
    Calls Try.prog 48 #[.slice a len cap, .func (.func 49) #[] #[.pointer (some ⟨q, 0, none⟩)]] w fun e w' => e = .returned (.int .i64 (idxF n 0 ts)) ∧ Only (fun _ => False) w w' := by
  have hm := h.2.1
  have H := Lib.hid h
  have HL : Hid (ts.length = len) := Lib.hid h.1
  have HQ := Lib.hid hq
  clear h hq
  go_enter Try.func48, Try.ntmps48
  go_wp2_with fail
  go_loopw [8] (fun i wr => ∃ k : Nat, k ≤ len ∧ i = .int .i64 k ∧ Hid (idxF n k (ts.drop k) = idxF n 0 ts) ∧ Hid (Only (fun _ => False) w wr)) (fun i _ => len - (intOf i).toNat)
  case atStart => exact ⟨0, by omega, rfl, Lib.hid rfl, Lib.hid (Only.refl _ _)⟩
  case round =>
    obtain ⟨k, hk, rfl, HP, HW⟩ := hrel
    by_cases h8 : k < len
    · obtain ⟨b, off, rfl, hcell⟩ := H.out.2.2.2.resolve_left (by omega)
      obtain ⟨hc0, hc1⟩ := hcell k h8
      have c0 := HW.out.cell' hc0 (fun f => f)
      have c1 := HW.out.cell' hc1 (fun f => f)
      have hst := HP.out
      rw [idx_step n (by rw [HL.out]; exact h8)] at hst
      generalize ts.getD k default = x at *
      obtain ⟨u, p⟩ := x
      dsimp only at c0 c1 hst
      have HST := Lib.hid hst
      clear hcell hc0 hc1 hst
      go_wp2_with fail
      refine (lit_any u p n q wr (HW.out.cell' HQ.out (fun f => f))).mono ?_
      rintro _ w1 ⟨rfl, h1⟩
      have HW1 := Lib.hid (HW.out.trans h1)
      clear h1
      by_cases h2 : u = 0 ∨ n ≤ u
      · rw [decide_eq_true h2]
        have HR : Hid (idxF n 0 ts = k) := Lib.hid (by rw [← HST.out, if_pos h2])
        clear h2
        go_wp2_with fail
        go_ret
        exact ⟨by rw [HR.out]; rfl, HW1.out⟩
      · rw [decide_eq_false h2]
        have HR := HST.out
        rw [if_neg h2] at HR
        replace HR := Lib.hid HR
        clear h2
        go_wp2_with fail
        go_round
        case rel => exact ⟨k + 1, by omega, by go_num, HR, HW1⟩
        case measure => simp [intOf]; omega
    · obtain rfl : k = len := by omega
      have HR : Hid (idxF n 0 ts = -1) := Lib.hid (by rw [← HP.out, List.drop_eq_nil_of_le (by rw [HL.out]; omega)]; rfl)
      go_wp2_with fail
      go_ret
      exact ⟨by rw [HR.out]; rfl, HW.out⟩

set_option maxRecDepth 100000 in
theorem index_any (a : Option Addr) (len cap : Nat) (ts : List Tr) (n : Int) (w : World) (h : ReadsT w a len ts) :
    Calls Try.prog 28 #[.slice a len cap, .int .i64 n] w fun e w' => e = .returned (.int .i64 (idxF n 0 ts)) ∧ Only (fun _ => False) w w' := by
  have HO : Hid (∀ o, Only (fun _ => False) w (w.alloc o)) := Lib.hid (fun o => (Only.refl _ w).alloc o)
  have H := Lib.hid h
  have HC := Lib.hid (indexf_any a len cap ts n w.heap.size (w.alloc (.cells #[.int .i64 n] 3)) (h.only (HO.out _) (fun _ _ f => f)) (alloc_new _ _ _ _ _ _ rfl rfl))
  clear h
  go_enter Try.func28, Try.ntmps28
  go_wp2_with fail
  refine HC.out.mono ?_
  rintro _ w1 ⟨rfl, h1⟩
  have HF := Lib.hid ((HO.out _).trans h1)
  clear h1
  go_wp2_with fail
  go_ret
  exact ⟨rfl, HF.out⟩
end Go.Proofs.Ytdfghdccbpnohaa.tirw

namespace Go.Proofs.Ytdfghdccbpnohaa.tirw
open Go.RowKit mem tirm intm
set_option linter.unusedVariables false

theorem news_line {W : World} {g : Nat} {x y z : Int} (hg : g = W.heap.size) (t : TypeId) : ∀ j u, (encN ⟨x, y, z⟩)[j]? = some u → (W.alloc (.cells #[.int .i64 x, .int .i64 y, .int .i64 z] t)).cell? ((Addr.mk g 0 none).add j) = some u := by
  intro j u hu
  rw [add_none, Nat.zero_add]
  exact alloc_new _ _ _ _ _ _ hg (by rw [← List.getElem?_toArray] at hu; exact hu)
theorem grad_step {ts : List Tr} {k : Nat} (l p : Int) (h : k < ts.length) : gradF l k p (ts.drop k) =
    if p < (if (ts.getD k default).u ≠ 0 then min l (ts.getD k default).u else l) then ⟨k, (if (ts.getD k default).u ≠ 0 then min l (ts.getD k default).u else l) - p, (ts.getD k default).p⟩ :: gradF l ((k + 1 : Nat) : Int) (if (ts.getD k default).u ≠ 0 then min l (ts.getD k default).u else l) (ts.drop (k + 1)) else gradF l ((k + 1 : Nat) : Int) p (ts.drop (k + 1)) := by
  rw [drop_getT ts k h]
  rfl

set_option maxRecDepth 100000 in
set_option maxHeartbeats 2000000 in
theorem grad_any (a : Option Addr) (len cap : Nat) (ts : List Tr) (p l : Int) (w : World) (h : ReadsT w a len ts) (hlen : len ≤ 100) (hp : 0 ≤ p) (hl : l ≤ 1000000000000000000) (hpl : p ≤ 1000000000000000000) :
    Calls Try.prog 29 #[.slice a len cap, .int .i64 p, .int .i64 l] w fun e w' => ∃ v, e = .returned v ∧ OwnN w' v (gradF l 0 p ts) ∧ (∀ q, v.ownBlock = some q → w.heap.size ≤ q) ∧ Only (fun _ => False) w w' := by
  obtain ⟨i0, hi, hz0, hz1, hz2⟩ := info_parts info_line
  have hm := h.2.1
  have H := Lib.hid h
  have HL : Hid (ts.length = len) := Lib.hid h.1
  clear h
  go_enter Try.func29, Try.ntmps29
  go_wp2_with fail
  go_loopw [1, 7, 13] (fun pp sv i wr => ∃ (k : Nat) (p0 : Int) (ls : List Ln) (v : Value), k ≤ len ∧ i = .int .i64 k ∧ pp = .int .i64 p0 ∧ v = sv ∧ 0 ≤ p0 ∧ p0 ≤ 1000000000000000000 ∧ Hid (ls ++ gradF l k p0 (ts.drop k) = gradF l 0 p ts) ∧ Hid (OwnN wr v ls) ∧ ls.length ≤ k ∧ Hid (∀ q, v.ownBlock = some q → w.heap.size ≤ q) ∧ Hid (Only (fun _ => False) w wr)) (fun _ _ i _ => len - (intOf i).toNat)
  case atStart => exact ⟨0, p, [], _, by omega, rfl, rfl, rfl, hp, hpl, Lib.hid (by simp), Lib.hid (OwnN.nil _), by simp, Lib.hid (fun q e => by cases e), Lib.hid (Only.refl _ _)⟩
  case round =>
    obtain ⟨k, p0, ls, v, hk, rfl, rfl, rfl, h0, h1, HP, HOW, hls, HB, HW⟩ := hrel
    by_cases h8 : k < len
    · obtain ⟨b, off, rfl, hcell⟩ := H.out.2.2.2.resolve_left (by omega)
      obtain ⟨hc0, hc1⟩ := hcell k h8
      have c0 := HW.out.cell' hc0 (fun f => f)
      have c1 := HW.out.cell' hc1 (fun f => f)
      have hst := HP.out
      rw [grad_step l p0 (by rw [HL.out]; exact h8)] at hst
      generalize ts.getD k default = x at *
      obtain ⟨u, pr⟩ := x
      dsimp only at c0 c1 hst
      clear hcell hc0 hc1
      by_cases h2 : u = 0
      · simp only [eq_true h2, ne_eq, not_true_eq_false, if_false] at hst
        have HST := Lib.hid hst
        clear hst
        subst h2
        by_cases h3 : p0 < l
        · have HOW2 : Hid (((wr.alloc (.cells #[.int .i64 0, .int .i64 pr] 63)).alloc (.cells #[.int .i64 k, .int .i64 (l - p0), .int .i64 pr] 32)).ownsRow 0 32 3 v ls.length (lvn ls)) := Lib.hid (owns_only (S := fun _ => False) (((Only.refl _ wr).alloc _).alloc _) HOW.out (fun _ _ f => f))
          have HST2 : Hid ((ls ++ [⟨k, l - p0, pr⟩]) ++ gradF l ((k + 1 : Nat) : Int) (l) (ts.drop (k + 1)) = gradF l 0 p ts) := Lib.hid (by rw [← HST.out, if_pos h3]; simp)
          have hwo : Hid (Only (fun _ => False) wr ((wr.alloc (.cells #[.int .i64 0, .int .i64 pr] 63)).alloc (.cells #[.int .i64 k, .int .i64 (l - p0), .int .i64 pr] 32))) := Lib.hid (((Only.refl _ wr).alloc _).alloc _)
          go_wp2_with (at_builtin; refine append_mine rfl _ _ 22 rfl 32 i0 _ 3 24 Try.underlying22 hi hz0 hz1 hz2 rfl (by decide) _ ls.length _ rfl HOW2.out ⟨wr.heap.size + 1, 0, none⟩ 1 1 (encN ⟨k, l - p0, pr⟩) rfl ?c1 ?c2 ?c3 ?c4 ?c5 ?_)
          case c1 => rfl
          case c2 => first | exact news_line (by simp) _ | exact fun j u2 hu2 => hu2
          case c3 => exact lvn_one [⟨k, l - p0, pr⟩]
          case c4 => unfold maxLen; omega
          case c5 => omega
          intro v2 w2 hown hgrow hkk
          have HG := Lib.hid (Only.of_grown hgrow)
          have HOW3 : Hid (OwnN w2 v2 (ls ++ [⟨k, l - p0, pr⟩])) := Lib.hid (by unfold OwnN; rw [List.length_append, lvn_append]; exact hown)
          have HB2 : Hid (∀ q, v2.ownBlock = some q → w.heap.size ≤ q) := Lib.hid (fun q hq => by
            rcases hkk q hq with e | e
            · exact HB.out q e
            · have h1 := HW.out.size
              have h2 := hwo.out.size
              omega)
          have HW2 : Hid (Only (fun _ => False) w w2) := Lib.hid ((HW.out.trans hwo.out).then HG.out (fun q hq e => by have := HB.out q e; omega))
          clear hown hgrow hkk HOW2 HG hwo
          go_wp2_with fail
          go_round
          case rel => exact ⟨k + 1, l, _, v2, by omega, by go_num, rfl, rfl, by omega, by omega, HST2, HOW3, by rw [List.length_append]; simp; omega, HB2, HW2⟩
          case measure => simp [intOf]; omega
        · have HST2 : Hid (ls ++ gradF l ((k + 1 : Nat) : Int) p0 (ts.drop (k + 1)) = gradF l 0 p ts) := Lib.hid (by rw [← HST.out, if_neg h3])
          have HOW2 : Hid (OwnN (wr.alloc (.cells #[.int .i64 0, .int .i64 pr] 63)) v ls) := Lib.hid (HOW.out.only (S := fun _ => False) ((Only.refl _ wr).alloc _) (fun _ _ f => f))
          have HW2 : Hid (Only (fun _ => False) w (wr.alloc (.cells #[.int .i64 0, .int .i64 pr] 63))) := Lib.hid (HW.out.alloc _)
          go_wp2_with fail
          go_round
          case rel => exact ⟨k + 1, p0, ls, _, by omega, by go_num, rfl, rfl, h0, h1, HST2, HOW2, by omega, HB, HW2⟩
          case measure => simp [intOf]; omega
      · simp only [eq_false h2, ne_eq, not_false_eq_true, if_true] at hst
        by_cases hlu : l ≤ u
        · rw [Int.min_eq_left hlu] at hst
          have HST := Lib.hid hst
          clear hst
          by_cases h3 : p0 < l
          · have HOW2 : Hid (((wr.alloc (.cells #[.int .i64 u, .int .i64 pr] 63)).alloc (.cells #[.int .i64 k, .int .i64 (l - p0), .int .i64 pr] 32)).ownsRow 0 32 3 v ls.length (lvn ls)) := Lib.hid (owns_only (S := fun _ => False) (((Only.refl _ wr).alloc _).alloc _) HOW.out (fun _ _ f => f))
            have HST2 : Hid ((ls ++ [⟨k, l - p0, pr⟩]) ++ gradF l ((k + 1 : Nat) : Int) (l) (ts.drop (k + 1)) = gradF l 0 p ts) := Lib.hid (by rw [← HST.out, if_pos h3]; simp)
            have hwo : Hid (Only (fun _ => False) wr ((wr.alloc (.cells #[.int .i64 u, .int .i64 pr] 63)).alloc (.cells #[.int .i64 k, .int .i64 (l - p0), .int .i64 pr] 32))) := Lib.hid (((Only.refl _ wr).alloc _).alloc _)
            go_wp2_with (at_builtin; refine append_mine rfl _ _ 22 rfl 32 i0 _ 3 24 Try.underlying22 hi hz0 hz1 hz2 rfl (by decide) _ ls.length _ rfl HOW2.out ⟨wr.heap.size + 1, 0, none⟩ 1 1 (encN ⟨k, l - p0, pr⟩) rfl ?c1 ?c2 ?c3 ?c4 ?c5 ?_)
            case c1 => rfl
            case c2 => first | exact news_line (by simp) _ | exact fun j u2 hu2 => hu2
            case c3 => exact lvn_one [⟨k, l - p0, pr⟩]
            case c4 => unfold maxLen; omega
            case c5 => omega
            intro v2 w2 hown hgrow hkk
            have HG := Lib.hid (Only.of_grown hgrow)
            have HOW3 : Hid (OwnN w2 v2 (ls ++ [⟨k, l - p0, pr⟩])) := Lib.hid (by unfold OwnN; rw [List.length_append, lvn_append]; exact hown)
            have HB2 : Hid (∀ q, v2.ownBlock = some q → w.heap.size ≤ q) := Lib.hid (fun q hq => by
              rcases hkk q hq with e | e
              · exact HB.out q e
              · have h1 := HW.out.size
                have h2 := hwo.out.size
                omega)
            have HW2 : Hid (Only (fun _ => False) w w2) := Lib.hid ((HW.out.trans hwo.out).then HG.out (fun q hq e => by have := HB.out q e; omega))
            clear hown hgrow hkk HOW2 HG hwo
            go_wp2_with fail
            go_round
            case rel => exact ⟨k + 1, l, _, v2, by omega, by go_num, rfl, rfl, by omega, by omega, HST2, HOW3, by rw [List.length_append]; simp; omega, HB2, HW2⟩
            case measure => simp [intOf]; omega
          · have HST2 : Hid (ls ++ gradF l ((k + 1 : Nat) : Int) p0 (ts.drop (k + 1)) = gradF l 0 p ts) := Lib.hid (by rw [← HST.out, if_neg h3])
            have HOW2 : Hid (OwnN (wr.alloc (.cells #[.int .i64 u, .int .i64 pr] 63)) v ls) := Lib.hid (HOW.out.only (S := fun _ => False) ((Only.refl _ wr).alloc _) (fun _ _ f => f))
            have HW2 : Hid (Only (fun _ => False) w (wr.alloc (.cells #[.int .i64 u, .int .i64 pr] 63))) := Lib.hid (HW.out.alloc _)
            go_wp2_with fail
            go_round
            case rel => exact ⟨k + 1, p0, ls, _, by omega, by go_num, rfl, rfl, h0, h1, HST2, HOW2, by omega, HB, HW2⟩
            case measure => simp [intOf]; omega
        · have hlu2 : u < l := by omega
          rw [Int.min_eq_right (by omega)] at hst
          have HST := Lib.hid hst
          clear hst
          by_cases h3 : p0 < u
          · have HOW2 : Hid (((wr.alloc (.cells #[.int .i64 u, .int .i64 pr] 63)).alloc (.cells #[.int .i64 k, .int .i64 (u - p0), .int .i64 pr] 32)).ownsRow 0 32 3 v ls.length (lvn ls)) := Lib.hid (owns_only (S := fun _ => False) (((Only.refl _ wr).alloc _).alloc _) HOW.out (fun _ _ f => f))
            have HST2 : Hid ((ls ++ [⟨k, u - p0, pr⟩]) ++ gradF l ((k + 1 : Nat) : Int) (u) (ts.drop (k + 1)) = gradF l 0 p ts) := Lib.hid (by rw [← HST.out, if_pos h3]; simp)
            have hwo : Hid (Only (fun _ => False) wr ((wr.alloc (.cells #[.int .i64 u, .int .i64 pr] 63)).alloc (.cells #[.int .i64 k, .int .i64 (u - p0), .int .i64 pr] 32))) := Lib.hid (((Only.refl _ wr).alloc _).alloc _)
            go_wp2_with (at_builtin; refine append_mine rfl _ _ 22 rfl 32 i0 _ 3 24 Try.underlying22 hi hz0 hz1 hz2 rfl (by decide) _ ls.length _ rfl HOW2.out ⟨wr.heap.size + 1, 0, none⟩ 1 1 (encN ⟨k, u - p0, pr⟩) rfl ?c1 ?c2 ?c3 ?c4 ?c5 ?_)
            case c1 => rfl
            case c2 => first | exact news_line (by simp) _ | exact fun j u2 hu2 => hu2
            case c3 => exact lvn_one [⟨k, u - p0, pr⟩]
            case c4 => unfold maxLen; omega
            case c5 => omega
            intro v2 w2 hown hgrow hkk
            have HG := Lib.hid (Only.of_grown hgrow)
            have HOW3 : Hid (OwnN w2 v2 (ls ++ [⟨k, u - p0, pr⟩])) := Lib.hid (by unfold OwnN; rw [List.length_append, lvn_append]; exact hown)
            have HB2 : Hid (∀ q, v2.ownBlock = some q → w.heap.size ≤ q) := Lib.hid (fun q hq => by
              rcases hkk q hq with e | e
              · exact HB.out q e
              · have h1 := HW.out.size
                have h2 := hwo.out.size
                omega)
            have HW2 : Hid (Only (fun _ => False) w w2) := Lib.hid ((HW.out.trans hwo.out).then HG.out (fun q hq e => by have := HB.out q e; omega))
            clear hown hgrow hkk HOW2 HG hwo
            go_wp2_with fail
            go_round
            case rel => exact ⟨k + 1, u, _, v2, by omega, by go_num, rfl, rfl, by omega, by omega, HST2, HOW3, by rw [List.length_append]; simp; omega, HB2, HW2⟩
            case measure => simp [intOf]; omega
          · have HST2 : Hid (ls ++ gradF l ((k + 1 : Nat) : Int) p0 (ts.drop (k + 1)) = gradF l 0 p ts) := Lib.hid (by rw [← HST.out, if_neg h3])
            have HOW2 : Hid (OwnN (wr.alloc (.cells #[.int .i64 u, .int .i64 pr] 63)) v ls) := Lib.hid (HOW.out.only (S := fun _ => False) ((Only.refl _ wr).alloc _) (fun _ _ f => f))
            have HW2 : Hid (Only (fun _ => False) w (wr.alloc (.cells #[.int .i64 u, .int .i64 pr] 63))) := Lib.hid (HW.out.alloc _)
            go_wp2_with fail
            go_round
            case rel => exact ⟨k + 1, p0, ls, _, by omega, by go_num, rfl, rfl, h0, h1, HST2, HOW2, by omega, HB, HW2⟩
            case measure => simp [intOf]; omega
    · obtain rfl : k = len := by omega
      have HR : Hid (ls = gradF l 0 p ts) := Lib.hid (by rw [← HP.out, List.drop_eq_nil_of_le (by rw [HL.out]; omega)]; simp [gradF])
      go_wp2_with fail
      go_ret
      exact ⟨v, rfl, by rw [← HR.out]; exact HOW.out, HB.out, HW.out⟩
end Go.Proofs.Ytdfghdccbpnohaa.tirw

namespace Go.Proofs.Ytdfghdccbpnohaa.tirw
open Go.RowKit mem tirm intm
set_option linter.unusedVariables false

/-- lines in memory, and no error -/
def LinesAt (ls : List Ln) (w : World) (e : Ending) (w' : World) : Prop :=
  ∃ a cap, e = .returned (.tuple #[.slice a ls.length cap, .int .i64 0]) ∧ ReadsN w' a ls.length ls ∧ Only (fun _ => False) w w'

/-- within their bounds -/
def inB (p n : Int) : Prop := 0 ≤ p ∧ p ≤ 1099511627776 ∧ 0 ≤ n ∧ n ≤ 1073741824
set_option maxRecDepth 100000 in
set_option maxHeartbeats 2000000 in
theorem split_no (G M B : Int) (a : Option Addr) (len cap : Nat) (ts : List Tr) (p n : Int) (w : World) (h : ReadsT w a len ts) (hc : tchk G M B ts ≠ 0) :
    Calls Try.prog 16 #[.agg #[.int .i64 G, .int .i64 M, .int .i64 B, .slice a len cap], .int .i64 p, .int .i64 n] w fun e w' => e = .returned (.tuple #[.slice none 0 0, .int .i64 1]) ∧ Only (fun _ => False) w w' := by
  have HO : Hid (∀ o, Only (fun _ => False) w (w.alloc o)) := Lib.hid (fun o => (Only.refl _ w).alloc o)
  have HC := Lib.hid (fun w' (ho : Only (fun _ => False) w w') => tcheck_any G M B a len cap ts w' (h.only ho (fun _ _ f => f)))
  have h2 : (tchk G M B ts != 0) = true := by simpa using hc
  clear h hc
  generalize tchk G M B ts = c at *
  go_enter Try.func16, Try.ntmps16
  go_wp2_with fail
  refine (HC.out _ (HO.out _)).mono ?_
  rintro _ w1 ⟨rfl, h3⟩
  have HF := Lib.hid ((HO.out _).trans h3)
  clear h3
  go_wp2_with fail
  go_ret2
  exact ⟨rfl, HF.out⟩
set_option maxRecDepth 100000 in
set_option maxHeartbeats 2000000 in
theorem split_vol (G B : Int) (a : Option Addr) (len cap : Nat) (ts : List Tr) (p n : Int) (w : World) (h : ReadsT w a len ts) (hc : tchk G 2 B ts = 0) (h1 : 0 ≤ p) (h2 : p ≤ 1099511627776) (h3 : 1 ≤ n) (h4 : n ≤ 1073741824) :
    Calls Try.prog 16 #[.agg #[.int .i64 G, .int .i64 2, .int .i64 B, .slice a len cap], .int .i64 p, .int .i64 n] w (LinesAt [⟨idxF (p + n) 0 ts, n, (ts.getD (idxF (p + n) 0 ts).toNat default).p⟩] w) := by
  have HC := Lib.hid (fun w' (ho : Only (fun _ => False) w w') => tcheck_any G 2 B a len cap ts w' (h.only ho (fun _ _ f => f)))
  have H := Lib.hid h
  obtain ⟨hM0, _, hB0, hl0, hts⟩ := (tchk_ok G 2 B ts).1 hc
  rw [hc] at HC
  have HTS := Lib.hid hts
  obtain ⟨w0, hw0⟩ : ∃ w0, w0 = w.alloc (.cells #[.int .i64 G, .int .i64 2, .int .i64 B, .slice a len cap] 43) := ⟨_, rfl⟩
  have HO0 : Hid (Only (fun _ => False) w w0) := Lib.hid (by rw [hw0]; exact (Only.refl _ w).alloc _)
  have HBX : Hid (w0.cell? ⟨w.heap.size, 3, none⟩ = some (.slice a len cap) ∧ w0.cell? ⟨w.heap.size, 1, none⟩ = some (.int .i64 2)) := Lib.hid (by rw [hw0]; exact ⟨alloc_new _ _ _ _ _ _ rfl rfl, alloc_new _ _ _ _ _ _ rfl rfl⟩)
  have hix := idxF_in (p + n) ts 0 0 hts (by intro e; rw [e] at hl0; simp at hl0)
  have HI := Lib.hid (fun w' (ho : Only (fun _ => False) w w') => index_any a len cap ts (p + n) w' (h.only ho (fun _ _ f => f)))
  obtain ⟨j, hj⟩ : ∃ j : Nat, idxF (p + n) 0 ts = (j : Int) := ⟨(idxF (p + n) 0 ts).toNat, by omega⟩
  have hlt : ts.length = len := h.1
  rw [hj] at HI hix ⊢
  have hjl : j < len := by omega
  obtain ⟨b, off, rfl, hcell⟩ := h.2.2.2.resolve_left (by omega)
  obtain ⟨d0, d1⟩ := hcell j hjl
  have hjt : ((j : Int)).toNat = j := by omega
  rw [hjt]
  have HD := Lib.hid d1
  clear h hc hts hcell d0 d1 hj hix hM0 hB0 hl0 hjt
  generalize (ts.getD j default).p = y at *
  go_enter Try.func16, Try.ntmps16
  go_wp2_with fail
  rw [← hw0]
  clear hw0
  refine (HC.out _ HO0.out).mono ?_
  rintro _ w1 ⟨rfl, h3⟩
  have HF := Lib.hid (HO0.out.trans h3)
  have b3 := h3.cell' HBX.out.1 (fun f => f)
  have b1 := h3.cell' HBX.out.2 (fun f => f)
  clear h3
  go_wp2_with fail
  refine (HI.out _ HF.out).mono ?_
  rintro _ w2 ⟨rfl, h5⟩
  have c3 := h5.cell' b3 (fun f => f)
  have HF2 := Lib.hid (HF.out.trans h5)
  have c1 := HF2.out.cell' HD.out (fun f => f)
  clear h5 b3 b1
  go_wp2_with fail
  refine bodyPost_ret (v := .tuple #[.slice (some ⟨w2.heap.size, 0, none⟩) 1 1, .int .i64 0]) (by simp [results, Try.results16, go_sem]) rfl ⟨some ⟨w2.heap.size, 0, none⟩, 1, rfl, ⟨rfl, .inr ⟨w2.heap.size, 0, rfl, fun i hi => ?_⟩⟩, HF2.out.alloc _⟩
  obtain rfl : i = 0 := by simpa using hi
  exact ⟨alloc_new _ _ _ _ _ _ rfl rfl, alloc_new _ _ _ _ _ _ rfl rfl, alloc_new _ _ _ _ _ _ rfl rfl⟩
set_option maxRecDepth 100000 in
set_option maxHeartbeats 2000000 in
theorem split_grad (G B : Int) (a : Option Addr) (len cap : Nat) (ts : List Tr) (p n : Int) (w : World) (h : ReadsT w a len ts) (hc : tchk G 1 B ts = 0) (h1 : 0 ≤ p) (h2 : p ≤ 1099511627776) (h3 : 1 ≤ n) (h4 : n ≤ 1073741824) :
    Calls Try.prog 16 #[.agg #[.int .i64 G, .int .i64 1, .int .i64 B, .slice a len cap], .int .i64 p, .int .i64 n] w (LinesAt (gradF (p + n) 0 p ts) w) := by
  have HC := Lib.hid (fun w' (ho : Only (fun _ => False) w w') => tcheck_any G 1 B a len cap ts w' (h.only ho (fun _ _ f => f)))
  have H := Lib.hid h
  obtain ⟨hM0, _, hB0, hl0, hts⟩ := (tchk_ok G 1 B ts).1 hc
  rw [hc] at HC
  have HTS := Lib.hid hts
  obtain ⟨w0, hw0⟩ : ∃ w0, w0 = w.alloc (.cells #[.int .i64 G, .int .i64 1, .int .i64 B, .slice a len cap] 43) := ⟨_, rfl⟩
  have HO0 : Hid (Only (fun _ => False) w w0) := Lib.hid (by rw [hw0]; exact (Only.refl _ w).alloc _)
  have HBX : Hid (w0.cell? ⟨w.heap.size, 3, none⟩ = some (.slice a len cap) ∧ w0.cell? ⟨w.heap.size, 1, none⟩ = some (.int .i64 1)) := Lib.hid (by rw [hw0]; exact ⟨alloc_new _ _ _ _ _ _ rfl rfl, alloc_new _ _ _ _ _ _ rfl rfl⟩)
  have hlt : ts.length = len := h.1
  have HI := Lib.hid (fun w' (ho : Only (fun _ => False) w w') => grad_any a len cap ts p (p + n) w' (h.only ho (fun _ _ f => f)) (by omega) h1 (by omega) (by omega))
  clear h hc hts hM0 hB0 hl0
  generalize gradF (p + n) 0 p ts = ls at *
  go_enter Try.func16, Try.ntmps16
  go_wp2_with fail
  rw [← hw0]
  clear hw0
  refine (HC.out _ HO0.out).mono ?_
  rintro _ w1 ⟨rfl, h3⟩
  have HF := Lib.hid (HO0.out.trans h3)
  have b3 := h3.cell' HBX.out.1 (fun f => f)
  have b1 := h3.cell' HBX.out.2 (fun f => f)
  clear h3
  go_wp2_with fail
  refine (HI.out _ HF.out).mono ?_
  rintro _ w2 ⟨v, rfl, hv, _, h5⟩
  obtain ⟨av, cv, rfl, hrv, hcv⟩ := own_readsN hv
  have HF2 := Lib.hid (HF.out.trans h5)
  have HRV := Lib.hid hrv
  clear h5 b3 b1 hv hrv
  go_wp2_with fail
  refine bodyPost_ret (v := .tuple #[.slice av ls.length cv, .int .i64 0]) (by simp [results, Try.results16, go_sem]) rfl ⟨av, cv, rfl, HRV.out, HF2.out⟩
end Go.Proofs.Ytdfghdccbpnohaa.tirw

