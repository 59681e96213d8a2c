/- Tariffs: blocks spread over tiers, one behind the other. -/
import Derived.Test.YtonacdjaimokeaaTirL
namespace Go.Proofs.Ytonacdjaimokeaa.tirw
open Go.RowKit mem tirm intm
set_option linter.unusedVariables false

theorem news_line {W : World} {g : Nat} {x y z : Int} (hg : g = W.heap.size) (t : TypeId) : ∀ j u, (encN ⟨x, y, z⟩)[j]? = some u → (W.alloc (.cells #[.int .i64 x, .int .i64 y, .int .i64 z] t)).cell? ((Addr.mk g 0 none).add j) = some u := by
  intro j u hu
  rw [add_none, Nat.zero_add]
  exact alloc_new _ _ _ _ _ _ hg (by rw [← List.getElem?_toArray] at hu; exact hu)
theorem grad_step {ts : List Tr} {k : Nat} (l p : Int) (h : k < ts.length) : gradF l k p (ts.drop k) =
    if p < (if (ts.getD k default).u ≠ 0 then min l (ts.getD k default).u else l) then ⟨k, (if (ts.getD k default).u ≠ 0 then min l (ts.getD k default).u else l) - p, (ts.getD k default).p⟩ :: gradF l ((k + 1 : Nat) : Int) (if (ts.getD k default).u ≠ 0 then min l (ts.getD k default).u else l) (ts.drop (k + 1)) else gradF l ((k + 1 : Nat) : Int) p (ts.drop (k + 1)) := by
  rw [drop_getT ts k h]
  rfl

set_option maxRecDepth 100000 in
set_option maxHeartbeats 2000000 in
theorem grad_any (a : Option Addr) (len cap : Nat) (ts : List Tr) (p l : Int) (w : World) (h : ReadsT w a len ts) (hlen : len ≤ 100) (hp : 0 ≤ p) (hl : l ≤ 1000000000000000000) (hpl : p ≤ 1000000000000000000) :
    Calls Try.prog 81 #[.slice a len cap, .int .i64 p, .int .i64 l] w fun e w' => ∃ v, e = .returned v ∧ OwnN w' v (gradF l 0 p ts) ∧ (∀ q, v.ownBlock = some q → w.heap.size ≤ q) ∧ Only (fun _ => False) w w' := by
  obtain ⟨i0, hi, hz0, hz1, hz2⟩ := info_parts info_line
  have hm := h.2.1
  have H := Lib.hid h
  have HL : Hid (ts.length = len) := Lib.hid h.1
  clear h
  go_enter Try.func81, Try.ntmps81
  go_wp2_with fail
  go_loopw [1, 7, 13] (fun pp sv i wr => ∃ (k : Nat) (p0 : Int) (ls : List Ln) (v : Value), k ≤ len ∧ i = .int .i64 k ∧ pp = .int .i64 p0 ∧ v = sv ∧ 0 ≤ p0 ∧ p0 ≤ 1000000000000000000 ∧ Hid (ls ++ gradF l k p0 (ts.drop k) = gradF l 0 p ts) ∧ Hid (OwnN wr v ls) ∧ ls.length ≤ k ∧ Hid (∀ q, v.ownBlock = some q → w.heap.size ≤ q) ∧ Hid (Only (fun _ => False) w wr)) (fun _ _ i _ => len - (intOf i).toNat)
  case atStart => exact ⟨0, p, [], _, by omega, rfl, rfl, rfl, hp, hpl, Lib.hid (by simp), Lib.hid (OwnN.nil _), by simp, Lib.hid (fun q e => by cases e), Lib.hid (Only.refl _ _)⟩
  case round =>
    obtain ⟨k, p0, ls, v, hk, rfl, rfl, rfl, h0, h1, HP, HOW, hls, HB, HW⟩ := hrel
    by_cases h8 : k < len
    · obtain ⟨b, off, rfl, hcell⟩ := H.out.2.2.2.resolve_left (by omega)
      obtain ⟨hc0, hc1⟩ := hcell k h8
      have c0 := HW.out.cell' hc0 (fun f => f)
      have c1 := HW.out.cell' hc1 (fun f => f)
      have hst := HP.out
      rw [grad_step l p0 (by rw [HL.out]; exact h8)] at hst
      generalize ts.getD k default = x at *
      obtain ⟨u, pr⟩ := x
      dsimp only at c0 c1 hst
      clear hcell hc0 hc1
      by_cases h2 : u = 0
      · simp only [eq_true h2, ne_eq, not_true_eq_false, if_false] at hst
        have HST := Lib.hid hst
        clear hst
        subst h2
        by_cases h3 : p0 < l
        · have HOW2 : Hid (((wr.alloc (.cells #[.int .i64 0, .int .i64 pr] 109)).alloc (.cells #[.int .i64 k, .int .i64 (l - p0), .int .i64 pr] 111)).ownsRow 0 111 3 v ls.length (lvn ls)) := Lib.hid (owns_only (S := fun _ => False) (((Only.refl _ wr).alloc _).alloc _) HOW.out (fun _ _ f => f))
          have HST2 : Hid ((ls ++ [⟨k, l - p0, pr⟩]) ++ gradF l ((k + 1 : Nat) : Int) (l) (ts.drop (k + 1)) = gradF l 0 p ts) := Lib.hid (by rw [← HST.out, if_pos h3]; simp)
          have hwo : Hid (Only (fun _ => False) wr ((wr.alloc (.cells #[.int .i64 0, .int .i64 pr] 109)).alloc (.cells #[.int .i64 k, .int .i64 (l - p0), .int .i64 pr] 111))) := Lib.hid (((Only.refl _ wr).alloc _).alloc _)
          go_wp2_with (at_builtin; refine append_mine rfl _ _ 32 rfl 111 i0 _ 3 24 Try.underlying32 hi hz0 hz1 hz2 rfl (by decide) _ ls.length _ rfl HOW2.out ⟨wr.heap.size + 1, 0, none⟩ 1 1 (encN ⟨k, l - p0, pr⟩) rfl ?c1 ?c2 ?c3 ?c4 ?c5 ?_)
          case c1 => rfl
          case c2 => first | exact news_line (by simp) _ | exact fun j u2 hu2 => hu2
          case c3 => exact lvn_one [⟨k, l - p0, pr⟩]
          case c4 => unfold maxLen; omega
          case c5 => omega
          intro v2 w2 hown hgrow hkk
          have HG := Lib.hid (Only.of_grown hgrow)
          have HOW3 : Hid (OwnN w2 v2 (ls ++ [⟨k, l - p0, pr⟩])) := Lib.hid (by unfold OwnN; rw [List.length_append, lvn_append]; exact hown)
          have HB2 : Hid (∀ q, v2.ownBlock = some q → w.heap.size ≤ q) := Lib.hid (fun q hq => by
            rcases hkk q hq with e | e
            · exact HB.out q e
            · have h1 := HW.out.size
              have h2 := hwo.out.size
              omega)
          have HW2 : Hid (Only (fun _ => False) w w2) := Lib.hid ((HW.out.trans hwo.out).then HG.out (fun q hq e => by have := HB.out q e; omega))
          clear hown hgrow hkk HOW2 HG hwo
          go_wp2_with fail
          go_round
          case rel => exact ⟨k + 1, l, _, v2, by omega, by go_num, rfl, rfl, by omega, by omega, HST2, HOW3, by rw [List.length_append]; simp; omega, HB2, HW2⟩
          case measure => simp [intOf]; omega
        · have HST2 : Hid (ls ++ gradF l ((k + 1 : Nat) : Int) p0 (ts.drop (k + 1)) = gradF l 0 p ts) := Lib.hid (by rw [← HST.out, if_neg h3])
          have HOW2 : Hid (OwnN (wr.alloc (.cells #[.int .i64 0, .int .i64 pr] 109)) v ls) := Lib.hid (HOW.out.only (S := fun _ => False) ((Only.refl _ wr).alloc _) (fun _ _ f => f))
          have HW2 : Hid (Only (fun _ => False) w (wr.alloc (.cells #[.int .i64 0, .int .i64 pr] 109))) := Lib.hid (HW.out.alloc _)
          go_wp2_with fail
          go_round
          case rel => exact ⟨k + 1, p0, ls, _, by omega, by go_num, rfl, rfl, h0, h1, HST2, HOW2, by omega, HB, HW2⟩
          case measure => simp [intOf]; omega
      · simp only [eq_false h2, ne_eq, not_false_eq_true, if_true] at hst
        by_cases hlu : l ≤ u
        · rw [Int.min_eq_left hlu] at hst
          have HST := Lib.hid hst
          clear hst
          by_cases h3 : p0 < l
          · have HOW2 : Hid (((wr.alloc (.cells #[.int .i64 u, .int .i64 pr] 109)).alloc (.cells #[.int .i64 k, .int .i64 (l - p0), .int .i64 pr] 111)).ownsRow 0 111 3 v ls.length (lvn ls)) := Lib.hid (owns_only (S := fun _ => False) (((Only.refl _ wr).alloc _).alloc _) HOW.out (fun _ _ f => f))
            have HST2 : Hid ((ls ++ [⟨k, l - p0, pr⟩]) ++ gradF l ((k + 1 : Nat) : Int) (l) (ts.drop (k + 1)) = gradF l 0 p ts) := Lib.hid (by rw [← HST.out, if_pos h3]; simp)
            have hwo : Hid (Only (fun _ => False) wr ((wr.alloc (.cells #[.int .i64 u, .int .i64 pr] 109)).alloc (.cells #[.int .i64 k, .int .i64 (l - p0), .int .i64 pr] 111))) := Lib.hid (((Only.refl _ wr).alloc _).alloc _)
            go_wp2_with (at_builtin; refine append_mine rfl _ _ 32 rfl 111 i0 _ 3 24 Try.underlying32 hi hz0 hz1 hz2 rfl (by decide) _ ls.length _ rfl HOW2.out ⟨wr.heap.size + 1, 0, none⟩ 1 1 (encN ⟨k, l - p0, pr⟩) rfl ?c1 ?c2 ?c3 ?c4 ?c5 ?_)
            case c1 => rfl
            case c2 => first | exact news_line (by simp) _ | exact fun j u2 hu2 => hu2
            case c3 => exact lvn_one [⟨k, l - p0, pr⟩]
            case c4 => unfold maxLen; omega
            case c5 => omega
            intro v2 w2 hown hgrow hkk
            have HG := Lib.hid (Only.of_grown hgrow)
            have HOW3 : Hid (OwnN w2 v2 (ls ++ [⟨k, l - p0, pr⟩])) := Lib.hid (by unfold OwnN; rw [List.length_append, lvn_append]; exact hown)
            have HB2 : Hid (∀ q, v2.ownBlock = some q → w.heap.size ≤ q) := Lib.hid (fun q hq => by
              rcases hkk q hq with e | e
              · exact HB.out q e
              · have h1 := HW.out.size
                have h2 := hwo.out.size
                omega)
            have HW2 : Hid (Only (fun _ => False) w w2) := Lib.hid ((HW.out.trans hwo.out).then HG.out (fun q hq e => by have := HB.out q e; omega))
            clear hown hgrow hkk HOW2 HG hwo
            go_wp2_with fail
            go_round
            case rel => exact ⟨k + 1, l, _, v2, by omega, by go_num, rfl, rfl, by omega, by omega, HST2, HOW3, by rw [List.length_append]; simp; omega, HB2, HW2⟩
            case measure => simp [intOf]; omega
          · have HST2 : Hid (ls ++ gradF l ((k + 1 : Nat) : Int) p0 (ts.drop (k + 1)) = gradF l 0 p ts) := Lib.hid (by rw [← HST.out, if_neg h3])
            have HOW2 : Hid (OwnN (wr.alloc (.cells #[.int .i64 u, .int .i64 pr] 109)) v ls) := Lib.hid (HOW.out.only (S := fun _ => False) ((Only.refl _ wr).alloc _) (fun _ _ f => f))
            have HW2 : Hid (Only (fun _ => False) w (wr.alloc (.cells #[.int .i64 u, .int .i64 pr] 109))) := Lib.hid (HW.out.alloc _)
            go_wp2_with fail
            go_round
            case rel => exact ⟨k + 1, p0, ls, _, by omega, by go_num, rfl, rfl, h0, h1, HST2, HOW2, by omega, HB, HW2⟩
            case measure => simp [intOf]; omega
        · have hlu2 : u < l := by omega
          rw [Int.min_eq_right (by omega)] at hst
          have HST := Lib.hid hst
          clear hst
          by_cases h3 : p0 < u
          · have HOW2 : Hid (((wr.alloc (.cells #[.int .i64 u, .int .i64 pr] 109)).alloc (.cells #[.int .i64 k, .int .i64 (u - p0), .int .i64 pr] 111)).ownsRow 0 111 3 v ls.length (lvn ls)) := Lib.hid (owns_only (S := fun _ => False) (((Only.refl _ wr).alloc _).alloc _) HOW.out (fun _ _ f => f))
            have HST2 : Hid ((ls ++ [⟨k, u - p0, pr⟩]) ++ gradF l ((k + 1 : Nat) : Int) (u) (ts.drop (k + 1)) = gradF l 0 p ts) := Lib.hid (by rw [← HST.out, if_pos h3]; simp)
            have hwo : Hid (Only (fun _ => False) wr ((wr.alloc (.cells #[.int .i64 u, .int .i64 pr] 109)).alloc (.cells #[.int .i64 k, .int .i64 (u - p0), .int .i64 pr] 111))) := Lib.hid (((Only.refl _ wr).alloc _).alloc _)
            go_wp2_with (at_builtin; refine append_mine rfl _ _ 32 rfl 111 i0 _ 3 24 Try.underlying32 hi hz0 hz1 hz2 rfl (by decide) _ ls.length _ rfl HOW2.out ⟨wr.heap.size + 1, 0, none⟩ 1 1 (encN ⟨k, u - p0, pr⟩) rfl ?c1 ?c2 ?c3 ?c4 ?c5 ?_)
            case c1 => rfl
            case c2 => first | exact news_line (by simp) _ | exact fun j u2 hu2 => hu2
            case c3 => exact lvn_one [⟨k, u - p0, pr⟩]
            case c4 => unfold maxLen; omega
            case c5 => omega
            intro v2 w2 hown hgrow hkk
            have HG := Lib.hid (Only.of_grown hgrow)
            have HOW3 : Hid (OwnN w2 v2 (ls ++ [⟨k, u - p0, pr⟩])) := Lib.hid (by unfold OwnN; rw [List.length_append, lvn_append]; exact hown)
            have HB2 : Hid (∀ q, v2.ownBlock = some q → w.heap.size ≤ q) := Lib.hid (fun q hq => by
              rcases hkk q hq with e | e
              · exact HB.out q e
              · have h1 := HW.out.size
                have h2 := hwo.out.size
                omega)
            have HW2 : Hid (Only (fun _ => False) w w2) := Lib.hid ((HW.out.trans hwo.out).then HG.out (fun q hq e => by have := HB.out q e; omega))
            clear hown hgrow hkk HOW2 HG hwo
            go_wp2_with fail
            go_round
            case rel => exact ⟨k + 1, u, _, v2, by omega, by go_num, rfl, rfl, by omega, by omega, HST2, HOW3, by rw [List.length_append]; simp; omega, HB2, HW2⟩
            case measure => simp [intOf]; omega
          · have HST2 : Hid (ls ++ gradF l ((k + 1 : Nat) : Int) p0 (ts.drop (k + 1)) = gradF l 0 p ts) := Lib.hid (by rw [← HST.out, if_neg h3])
            have HOW2 : Hid (OwnN (wr.alloc (.cells #[.int .i64 u, .int .i64 pr] 109)) v ls) := Lib.hid (HOW.out.only (S := fun _ => False) ((Only.refl _ wr).alloc _) (fun _ _ f => f))
            have HW2 : Hid (Only (fun _ => False) w (wr.alloc (.cells #[.int .i64 u, .int .i64 pr] 109))) := Lib.hid (HW.out.alloc _)
            go_wp2_with fail
            go_round
            case rel => exact ⟨k + 1, p0, ls, _, by omega, by go_num, rfl, rfl, h0, h1, HST2, HOW2, by omega, HB, HW2⟩
            case measure => simp [intOf]; omega
    · obtain rfl : k = len := by omega
      have HR : Hid (ls = gradF l 0 p ts) := Lib.hid (by rw [← HP.out, List.drop_eq_nil_of_le (by rw [HL.out]; omega)]; simp [gradF])
      go_wp2_with fail
      go_ret
      exact ⟨v, rfl, by rw [← HR.out]; exact HOW.out, HB.out, HW.out⟩
end Go.Proofs.Ytonacdjaimokeaa.tirw
