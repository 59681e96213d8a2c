/- Tariffs: the document's split. -/
import Derived.Test.YtonacdjaimokeaaTirP
namespace Go.Proofs.Ytonacdjaimokeaa.tirw
open Go.RowKit mem tirm intm
set_option linter.unusedVariables false

set_option maxRecDepth 100000 in
set_option maxHeartbeats 2000000 in
theorem rsplit_vol (G B : Int) (a : Option Addr) (len cap : Nat) (ts : List Tr) (p n : Int) (w : World) (h : ReadsT w a len ts) (hc : tchk G 2 B ts = 0) (h1 : 0 ≤ p) (h2 : p ≤ 1099511627776) (h3 : 1 ≤ n) (h4 : n ≤ 1073741824) :
    Calls Try.prog 57 #[.agg #[.int .i64 G, .int .i64 2, .int .i64 B, .slice a len cap], .int .i64 p, .int .i64 n] w (LinesAt [⟨idxF (p + n) 0 ts, n, (ts.getD (idxF (p + n) 0 ts).toNat default).p⟩] w) := by
  have H := Lib.hid h
  have HL : Hid (ts.length = len) := Lib.hid h.1
  have HC := Lib.hid (fun w' (ho : Only (fun _ => False) w w') => rtcheck_any G 2 B a len cap ts w' (h.only ho (fun _ _ f => f)))
  rw [hc] at HC
  obtain ⟨hM0, _, hB0, hl0, hts⟩ := (tchk_ok G 2 B ts).1 hc
  have hlen : len ≤ 6 := by have := h.1; omega
  have hlen1 : 1 ≤ len := by have := h.1; omega
  have hn0 : (n == 0) = false := by simp; omega
  obtain ⟨w0, hw0⟩ : ∃ w0, w0 = w.alloc (.cells #[.int .i64 G, .int .i64 2, .int .i64 B, .slice a len cap] 24) := ⟨_, rfl⟩
  have HO0 : Hid (Only (fun _ => False) w w0) := Lib.hid (by rw [hw0]; exact (Only.refl _ w).alloc _)
  have HBX : Hid (TarAt w0 w.heap.size G 2 B (.slice a len cap)) := Lib.hid (by rw [hw0]; exact ⟨alloc_new _ _ _ _ _ _ rfl rfl, alloc_new _ _ _ _ _ _ rfl rfl, alloc_new _ _ _ _ _ _ rfl rfl, alloc_new _ _ _ _ _ _ rfl rfl⟩)
  have hix := idxF_in (p + n) ts 0 0 hts (by intro e; rw [e] at hl0; simp at hl0)
  have HI := Lib.hid (fun w' (ho : Only (fun _ => False) w w') => rIndex_yes G 2 B a len cap ts (p + n) w' (h.only ho (fun _ _ f => f)) (by omega) hc)
  obtain ⟨j, hj⟩ : ∃ j : Nat, idxF (p + n) 0 ts = (j : Int) := ⟨(idxF (p + n) 0 ts).toNat, by omega⟩
  rw [hj] at HI hix ⊢
  have hjl : j < len := by have := h.1; omega
  obtain ⟨b, off, rfl, hcell⟩ := h.2.2.2.resolve_left (by omega)
  obtain ⟨d0, d1⟩ := hcell j hjl
  have hjt : ((j : Int)).toNat = j := by omega
  rw [hjt]
  have HD := Lib.hid d1
  clear h hc hts hcell d0 d1 hj hix hM0 hB0 hl0 hjt
  generalize (ts.getD j default).p = y at *
  go_enter Try.func57, Try.ntmps57
  go_wp2_with fail
  rw [← hw0]
  clear hw0
  refine (HC.out _ HO0.out).mono ?_
  rintro _ w1 ⟨rfl, h5⟩
  have H1 := Lib.hid h5
  clear h5
  obtain ⟨b0, b1, b2, b3⟩ := HBX.out.only H1.out (fun f => f)
  go_wp2_with fail
  refine (HI.out _ (HO0.out.trans H1.out)).mono ?_
  rintro _ w2 ⟨rfl, h5⟩
  have H2 := Lib.hid (H1.out.trans h5)
  clear h5 b0 b1 b2 b3
  obtain ⟨b0, b1, b2, b3⟩ := HBX.out.only H2.out (fun f => f)
  have c1 := (HO0.out.trans H2.out).cell' HD.out (fun f => f)
  go_wp2_with fail
  refine bodyPost_ret (v := .tuple #[.slice (some ⟨w2.heap.size, 0, none⟩) 1 1, .int .i64 0]) (by simp [results, Try.results57, go_sem]) rfl ⟨some ⟨w2.heap.size, 0, none⟩, 1, rfl, ⟨rfl, .inr ⟨w2.heap.size, 0, rfl, fun i hi => ?_⟩⟩, (HO0.out.trans H2.out).alloc _⟩
  obtain rfl : i = 0 := by simpa using hi
  exact ⟨alloc_new _ _ _ _ _ _ rfl rfl, alloc_new _ _ _ _ _ _ rfl rfl, alloc_new _ _ _ _ _ _ rfl rfl⟩

/-- how far the tier ahead goes -/
def pru (ts : List Tr) (k : Nat) : Int := if k = 0 then 0 else (ts.getD (k - 1) default).u
theorem gradR_step {ts : List Tr} {k : Nat} (q l v : Int) (h : k < ts.length) : gradR q l k v (ts.drop k) =
    if max q v < (if 0 < (ts.getD k default).u then min l (ts.getD k default).u else l) then ⟨k, (if 0 < (ts.getD k default).u then min l (ts.getD k default).u else l) - max q v, (ts.getD k default).p⟩ :: gradR q l ((k + 1 : Nat) : Int) (ts.getD k default).u (ts.drop (k + 1)) else gradR q l ((k + 1 : Nat) : Int) (ts.getD k default).u (ts.drop (k + 1)) := by
  rw [drop_getT ts k h]
  rfl
set_option maxRecDepth 100000 in
set_option maxHeartbeats 8000000 in
theorem rsplit_grad (G B : Int) (a : Option Addr) (len cap : Nat) (ts : List Tr) (p n : Int) (w : World) (h : ReadsT w a len ts) (hc : tchk G 1 B ts = 0) (h1 : 0 ≤ p) (h2 : p ≤ 1099511627776) (h3 : 1 ≤ n) (h4 : n ≤ 1073741824) :
    Calls Try.prog 57 #[.agg #[.int .i64 G, .int .i64 1, .int .i64 B, .slice a len cap], .int .i64 p, .int .i64 n] w (LinesAt (gradR p (p + n) 0 0 ts) w) := by
  obtain ⟨i0, hi, hz0, hz1, hz2⟩ := info_parts info_line
  have H := Lib.hid h
  have HL : Hid (ts.length = len) := Lib.hid h.1
  have HC := Lib.hid (fun w' (ho : Only (fun _ => False) w w') => rtcheck_any G 1 B a len cap ts w' (h.only ho (fun _ _ f => f)))
  rw [hc] at HC
  obtain ⟨hM0, _, hB0, hl0, hts⟩ := (tchk_ok G 1 B ts).1 hc
  have hlen : len ≤ 6 := by have := h.1; omega
  have hlen1 : 1 ≤ len := by have := h.1; omega
  have hn0 : (n == 0) = false := by simp; omega
  obtain ⟨w0, hw0⟩ : ∃ w0, w0 = w.alloc (.cells #[.int .i64 G, .int .i64 1, .int .i64 B, .slice a len cap] 24) := ⟨_, rfl⟩
  have HO0 : Hid (Only (fun _ => False) w w0) := Lib.hid (by rw [hw0]; exact (Only.refl _ w).alloc _)
  have HBX : Hid (TarAt w0 w.heap.size G 1 B (.slice a len cap)) := Lib.hid (by rw [hw0]; exact ⟨alloc_new _ _ _ _ _ _ rfl rfl, alloc_new _ _ _ _ _ _ rfl rfl, alloc_new _ _ _ _ _ _ rfl rfl, alloc_new _ _ _ _ _ _ rfl rfl⟩)
  obtain ⟨b, off, rfl, hcell⟩ := h.2.2.2.resolve_left (by omega)
  have HCE := Lib.hid hcell
  clear h hc hts hcell hM0 hB0 hl0
  go_enter Try.func57, Try.ntmps57
  go_wp2_with fail
  rw [← hw0]
  clear hw0
  refine (HC.out _ HO0.out).mono ?_
  rintro _ w1 ⟨rfl, h5⟩
  have H1 := Lib.hid h5
  clear h5
  obtain ⟨b0, b1, b2, b3⟩ := HBX.out.only H1.out (fun f => f)
  go_wp2_with fail
  try simp only [hn0]
  go_loopw [9, 10] (fun sv i wr => ∃ (k : Nat) (ls : List Ln) (v : Value), k ≤ len ∧ i = .int .i64 k ∧ v = sv ∧ Hid (ls ++ gradR p (p + n) k (pru ts k) (ts.drop k) = gradR p (p + n) 0 0 ts) ∧ Hid (OwnN wr v ls) ∧ ls.length ≤ k ∧ Hid (∀ q, v.ownBlock = some q → w0.heap.size ≤ q) ∧ Hid (Only (fun _ => False) w0 wr)) (fun _ i _ => len - (intOf i).toNat)
  case atStart => exact ⟨0, [], _, by omega, rfl, rfl, Lib.hid (by simp [pru]), Lib.hid (OwnN.nil _), by simp, Lib.hid (fun q e => by cases e), H1⟩
  case round =>
    obtain ⟨k, ls, v, hk, rfl, rfl, HP, HOW, hls, HB, HW⟩ := hrel
    obtain ⟨b0, b1, b2, b3⟩ := HBX.out.only HW.out (fun f => f)
    by_cases h8 : k < len
    · obtain ⟨hc0, hc1⟩ := HCE.out k h8
      have c0 := (HO0.out.trans HW.out).cell' hc0 (fun f => f)
      have c1 := (HO0.out.trans HW.out).cell' hc1 (fun f => f)
      have hst := HP.out
      rw [gradR_step p (p + n) (pru ts k) (by rw [HL.out]; exact h8)] at hst
      obtain ⟨x, hx⟩ : ∃ x, ts.getD k default = x := ⟨_, rfl⟩
      rw [hx] at c0 c1 hst
      obtain ⟨u, pr⟩ := x
      dsimp only at c0 c1 hst
      have HPN : Hid (pru ts (k + 1) = u) := Lib.hid (by unfold pru; rw [if_neg (by omega), show k + 1 - 1 = k by omega, hx])
      clear hc0 hc1 hx
      rcases k with _ | m
      · simp at c0 c1
        rw [show ((0 : Nat) : Int) = 0 from rfl]
        have hmx : max p (pru ts 0) = p := by unfold pru; simp; omega
        rw [hmx] at hst
        clear hmx
        have hus : u ≤ 0 ∨ (0 < u ∧ p + n ≤ u) ∨ (0 < u ∧ u < p + n) := by omega
        rcases hus with hu | hu | hu
        · have hhi : (if 0 < u then min (p + n) u else (p + n)) = (p + n) := by rw [if_neg (by omega)]
          rw [hhi] at hst
          have HST := Lib.hid hst
          clear hst hhi
          have hu1 := hu
          by_cases h9 : p < (p + n)
          · have HOW2 : Hid ((wr.alloc (.cells #[.int .i64 0, .int .i64 ((p + n) - p), .int .i64 pr] 111)).ownsRow 0 111 3 v ls.length (lvn ls)) := Lib.hid (owns_only (S := fun _ => False) ((Only.refl _ wr).alloc _) HOW.out (fun _ _ f => f))
            have HST2 : Hid ((ls ++ [⟨0, (p + n) - p, pr⟩]) ++ gradR p (p + n) ((0 + 1 : Nat) : Int) (pru ts (0 + 1)) (ts.drop (0 + 1)) = gradR p (p + n) 0 0 ts) := Lib.hid (by rw [HPN.out, ← HST.out, if_pos h9]; simp)
            have hwo : Hid (Only (fun _ => False) wr (wr.alloc (.cells #[.int .i64 0, .int .i64 ((p + n) - p), .int .i64 pr] 111))) := Lib.hid ((Only.refl _ wr).alloc _)
            go_wp2_with (at_builtin; refine append_mine rfl _ _ 32 rfl 111 i0 _ 3 24 Try.underlying32 hi hz0 hz1 hz2 rfl (by decide) _ ls.length _ rfl HOW2.out ⟨wr.heap.size, 0, none⟩ 1 1 (encN ⟨0, (p + n) - p, pr⟩) rfl ?c1 ?c2 ?c3 ?c4 ?c5 ?_)
            case c1 => rfl
            case c2 => first | exact news_line rfl _ | exact fun j u2 hu2 => hu2
            case c3 => exact lvn_one [⟨0, (p + n) - p, pr⟩]
            case c4 => unfold maxLen; omega
            case c5 => omega
            intro v2 w2 hown hgrow hkk
            have HG := Lib.hid (Only.of_grown hgrow)
            have HOW3 : Hid (OwnN w2 v2 (ls ++ [⟨0, (p + n) - p, pr⟩])) := Lib.hid (by unfold OwnN; rw [List.length_append, lvn_append]; exact hown)
            have HB2 : Hid (∀ q, v2.ownBlock = some q → w0.heap.size ≤ q) := Lib.hid (fun q hq => by
              rcases hkk q hq with e | e
              · exact HB.out q e
              · have h1 := HW.out.size
                have h2 := hwo.out.size
                omega)
            have HW2 : Hid (Only (fun _ => False) w0 w2) := Lib.hid ((HW.out.trans hwo.out).then HG.out (fun q hq e => by have := HB.out q e; omega))
            clear hown hgrow hkk HOW2 HG hwo
            go_wp2_with fail
            go_roundw
            case rel => exact ⟨0 + 1, _, v2, by omega, by go_num, rfl, HST2, HOW3, by rw [List.length_append, List.length_singleton]; omega, HB2, HW2⟩
            case measure => simp [intOf]; omega
          · exfalso
            omega
        · have hhi : (if 0 < u then min (p + n) u else (p + n)) = (p + n) := by rw [if_pos hu.1]; omega
          rw [hhi] at hst
          have HST := Lib.hid hst
          clear hst hhi
          obtain ⟨hu1, hu2⟩ := hu
          by_cases h9 : p < (p + n)
          · have HOW2 : Hid ((wr.alloc (.cells #[.int .i64 0, .int .i64 ((p + n) - p), .int .i64 pr] 111)).ownsRow 0 111 3 v ls.length (lvn ls)) := Lib.hid (owns_only (S := fun _ => False) ((Only.refl _ wr).alloc _) HOW.out (fun _ _ f => f))
            have HST2 : Hid ((ls ++ [⟨0, (p + n) - p, pr⟩]) ++ gradR p (p + n) ((0 + 1 : Nat) : Int) (pru ts (0 + 1)) (ts.drop (0 + 1)) = gradR p (p + n) 0 0 ts) := Lib.hid (by rw [HPN.out, ← HST.out, if_pos h9]; simp)
            have hwo : Hid (Only (fun _ => False) wr (wr.alloc (.cells #[.int .i64 0, .int .i64 ((p + n) - p), .int .i64 pr] 111))) := Lib.hid ((Only.refl _ wr).alloc _)
            go_wp2_with (at_builtin; refine append_mine rfl _ _ 32 rfl 111 i0 _ 3 24 Try.underlying32 hi hz0 hz1 hz2 rfl (by decide) _ ls.length _ rfl HOW2.out ⟨wr.heap.size, 0, none⟩ 1 1 (encN ⟨0, (p + n) - p, pr⟩) rfl ?c1 ?c2 ?c3 ?c4 ?c5 ?_)
            case c1 => rfl
            case c2 => first | exact news_line rfl _ | exact fun j u2 hu2 => hu2
            case c3 => exact lvn_one [⟨0, (p + n) - p, pr⟩]
            case c4 => unfold maxLen; omega
            case c5 => omega
            intro v2 w2 hown hgrow hkk
            have HG := Lib.hid (Only.of_grown hgrow)
            have HOW3 : Hid (OwnN w2 v2 (ls ++ [⟨0, (p + n) - p, pr⟩])) := Lib.hid (by unfold OwnN; rw [List.length_append, lvn_append]; exact hown)
            have HB2 : Hid (∀ q, v2.ownBlock = some q → w0.heap.size ≤ q) := Lib.hid (fun q hq => by
              rcases hkk q hq with e | e
              · exact HB.out q e
              · have h1 := HW.out.size
                have h2 := hwo.out.size
                omega)
            have HW2 : Hid (Only (fun _ => False) w0 w2) := Lib.hid ((HW.out.trans hwo.out).then HG.out (fun q hq e => by have := HB.out q e; omega))
            clear hown hgrow hkk HOW2 HG hwo
            go_wp2_with fail
            go_roundw
            case rel => exact ⟨0 + 1, _, v2, by omega, by go_num, rfl, HST2, HOW3, by rw [List.length_append, List.length_singleton]; omega, HB2, HW2⟩
            case measure => simp [intOf]; omega
          · exfalso
            omega
        · have hhi : (if 0 < u then min (p + n) u else (p + n)) = u := by rw [if_pos hu.1]; omega
          rw [hhi] at hst
          have HST := Lib.hid hst
          clear hst hhi
          obtain ⟨hu1, hu2⟩ := hu
          by_cases h9 : p < u
          · have HOW2 : Hid ((wr.alloc (.cells #[.int .i64 0, .int .i64 (u - p), .int .i64 pr] 111)).ownsRow 0 111 3 v ls.length (lvn ls)) := Lib.hid (owns_only (S := fun _ => False) ((Only.refl _ wr).alloc _) HOW.out (fun _ _ f => f))
            have HST2 : Hid ((ls ++ [⟨0, u - p, pr⟩]) ++ gradR p (p + n) ((0 + 1 : Nat) : Int) (pru ts (0 + 1)) (ts.drop (0 + 1)) = gradR p (p + n) 0 0 ts) := Lib.hid (by rw [HPN.out, ← HST.out, if_pos h9]; simp)
            have hwo : Hid (Only (fun _ => False) wr (wr.alloc (.cells #[.int .i64 0, .int .i64 (u - p), .int .i64 pr] 111))) := Lib.hid ((Only.refl _ wr).alloc _)
            go_wp2_with (at_builtin; refine append_mine rfl _ _ 32 rfl 111 i0 _ 3 24 Try.underlying32 hi hz0 hz1 hz2 rfl (by decide) _ ls.length _ rfl HOW2.out ⟨wr.heap.size, 0, none⟩ 1 1 (encN ⟨0, u - p, pr⟩) rfl ?c1 ?c2 ?c3 ?c4 ?c5 ?_)
            case c1 => rfl
            case c2 => first | exact news_line rfl _ | exact fun j u2 hu2 => hu2
            case c3 => exact lvn_one [⟨0, u - p, pr⟩]
            case c4 => unfold maxLen; omega
            case c5 => omega
            intro v2 w2 hown hgrow hkk
            have HG := Lib.hid (Only.of_grown hgrow)
            have HOW3 : Hid (OwnN w2 v2 (ls ++ [⟨0, u - p, pr⟩])) := Lib.hid (by unfold OwnN; rw [List.length_append, lvn_append]; exact hown)
            have HB2 : Hid (∀ q, v2.ownBlock = some q → w0.heap.size ≤ q) := Lib.hid (fun q hq => by
              rcases hkk q hq with e | e
              · exact HB.out q e
              · have h1 := HW.out.size
                have h2 := hwo.out.size
                omega)
            have HW2 : Hid (Only (fun _ => False) w0 w2) := Lib.hid ((HW.out.trans hwo.out).then HG.out (fun q hq e => by have := HB.out q e; omega))
            clear hown hgrow hkk HOW2 HG hwo
            go_wp2_with fail
            go_roundw
            case rel => exact ⟨0 + 1, _, v2, by omega, by go_num, rfl, HST2, HOW3, by rw [List.length_append, List.length_singleton]; omega, HB2, HW2⟩
            case measure => simp [intOf]; omega
          · have HST2 : Hid (ls ++ gradR p (p + n) ((0 + 1 : Nat) : Int) (pru ts (0 + 1)) (ts.drop (0 + 1)) = gradR p (p + n) 0 0 ts) := Lib.hid (by rw [HPN.out, ← HST.out, if_neg h9])
            go_wp2_with fail
            go_roundw
            case rel => exact ⟨0 + 1, ls, _, by omega, by go_num, rfl, HST2, HOW, by omega, HB, HW⟩
            case measure => simp [intOf]; omega
      · obtain ⟨hm0, _⟩ := HCE.out m (by omega)
        have cm := (HO0.out.trans HW.out).cell' hm0 (fun f => f)
        have hpm : pru ts (m + 1) = (ts.getD m default).u := by unfold pru; rw [if_neg (by omega)]; rfl
        rw [hpm] at hst
        generalize (ts.getD m default).u = vv at *
        clear hm0 hpm
        rcases Int.lt_trichotomy p vv with hlo | hlo | hlo
        · have hmx : max p vv = vv := by omega
          rw [hmx] at hst
          clear hmx
          have hus : u ≤ 0 ∨ (0 < u ∧ p + n ≤ u) ∨ (0 < u ∧ u < p + n) := by omega
          rcases hus with hu | hu | hu
          · have hhi : (if 0 < u then min (p + n) u else (p + n)) = (p + n) := by rw [if_neg (by omega)]
            rw [hhi] at hst
            have HST := Lib.hid hst
            clear hst hhi
            have hu1 := hu
            by_cases h9 : vv < (p + n)
            · have HOW2 : Hid ((wr.alloc (.cells #[.int .i64 ((m : Int) + 1), .int .i64 ((p + n) - vv), .int .i64 pr] 111)).ownsRow 0 111 3 v ls.length (lvn ls)) := Lib.hid (owns_only (S := fun _ => False) ((Only.refl _ wr).alloc _) HOW.out (fun _ _ f => f))
              have HST2 : Hid ((ls ++ [⟨((m : Int) + 1), (p + n) - vv, pr⟩]) ++ gradR p (p + n) (((m + 1) + 1 : Nat) : Int) (pru ts ((m + 1) + 1)) (ts.drop ((m + 1) + 1)) = gradR p (p + n) 0 0 ts) := Lib.hid (by rw [HPN.out, ← HST.out, if_pos h9]; simp)
              have hwo : Hid (Only (fun _ => False) wr (wr.alloc (.cells #[.int .i64 ((m : Int) + 1), .int .i64 ((p + n) - vv), .int .i64 pr] 111))) := Lib.hid ((Only.refl _ wr).alloc _)
              go_wp2_with (at_builtin; refine append_mine rfl _ _ 32 rfl 111 i0 _ 3 24 Try.underlying32 hi hz0 hz1 hz2 rfl (by decide) _ ls.length _ rfl HOW2.out ⟨wr.heap.size, 0, none⟩ 1 1 (encN ⟨((m : Int) + 1), (p + n) - vv, pr⟩) rfl ?c1 ?c2 ?c3 ?c4 ?c5 ?_)
              case c1 => rfl
              case c2 => first | exact news_line rfl _ | exact fun j u2 hu2 => hu2
              case c3 => exact lvn_one [⟨((m : Int) + 1), (p + n) - vv, pr⟩]
              case c4 => unfold maxLen; omega
              case c5 => omega
              intro v2 w2 hown hgrow hkk
              have HG := Lib.hid (Only.of_grown hgrow)
              have HOW3 : Hid (OwnN w2 v2 (ls ++ [⟨((m : Int) + 1), (p + n) - vv, pr⟩])) := Lib.hid (by unfold OwnN; rw [List.length_append, lvn_append]; exact hown)
              have HB2 : Hid (∀ q, v2.ownBlock = some q → w0.heap.size ≤ q) := Lib.hid (fun q hq => by
                rcases hkk q hq with e | e
                · exact HB.out q e
                · have h1 := HW.out.size
                  have h2 := hwo.out.size
                  omega)
              have HW2 : Hid (Only (fun _ => False) w0 w2) := Lib.hid ((HW.out.trans hwo.out).then HG.out (fun q hq e => by have := HB.out q e; omega))
              clear hown hgrow hkk HOW2 HG hwo
              go_wp2_with fail
              go_roundw
              case rel => exact ⟨(m + 1) + 1, _, v2, by omega, by go_num, rfl, HST2, HOW3, by rw [List.length_append, List.length_singleton]; omega, HB2, HW2⟩
              case measure => simp [intOf]; omega
            · have HST2 : Hid (ls ++ gradR p (p + n) (((m + 1) + 1 : Nat) : Int) (pru ts ((m + 1) + 1)) (ts.drop ((m + 1) + 1)) = gradR p (p + n) 0 0 ts) := Lib.hid (by rw [HPN.out, ← HST.out, if_neg h9])
              go_wp2_with fail
              go_roundw
              case rel => exact ⟨(m + 1) + 1, ls, _, by omega, by go_num, rfl, HST2, HOW, by omega, HB, HW⟩
              case measure => simp [intOf]; omega
          · have hhi : (if 0 < u then min (p + n) u else (p + n)) = (p + n) := by rw [if_pos hu.1]; omega
            rw [hhi] at hst
            have HST := Lib.hid hst
            clear hst hhi
            obtain ⟨hu1, hu2⟩ := hu
            by_cases h9 : vv < (p + n)
            · have HOW2 : Hid ((wr.alloc (.cells #[.int .i64 ((m : Int) + 1), .int .i64 ((p + n) - vv), .int .i64 pr] 111)).ownsRow 0 111 3 v ls.length (lvn ls)) := Lib.hid (owns_only (S := fun _ => False) ((Only.refl _ wr).alloc _) HOW.out (fun _ _ f => f))
              have HST2 : Hid ((ls ++ [⟨((m : Int) + 1), (p + n) - vv, pr⟩]) ++ gradR p (p + n) (((m + 1) + 1 : Nat) : Int) (pru ts ((m + 1) + 1)) (ts.drop ((m + 1) + 1)) = gradR p (p + n) 0 0 ts) := Lib.hid (by rw [HPN.out, ← HST.out, if_pos h9]; simp)
              have hwo : Hid (Only (fun _ => False) wr (wr.alloc (.cells #[.int .i64 ((m : Int) + 1), .int .i64 ((p + n) - vv), .int .i64 pr] 111))) := Lib.hid ((Only.refl _ wr).alloc _)
              go_wp2_with (at_builtin; refine append_mine rfl _ _ 32 rfl 111 i0 _ 3 24 Try.underlying32 hi hz0 hz1 hz2 rfl (by decide) _ ls.length _ rfl HOW2.out ⟨wr.heap.size, 0, none⟩ 1 1 (encN ⟨((m : Int) + 1), (p + n) - vv, pr⟩) rfl ?c1 ?c2 ?c3 ?c4 ?c5 ?_)
              case c1 => rfl
              case c2 => first | exact news_line rfl _ | exact fun j u2 hu2 => hu2
              case c3 => exact lvn_one [⟨((m : Int) + 1), (p + n) - vv, pr⟩]
              case c4 => unfold maxLen; omega
              case c5 => omega
              intro v2 w2 hown hgrow hkk
              have HG := Lib.hid (Only.of_grown hgrow)
              have HOW3 : Hid (OwnN w2 v2 (ls ++ [⟨((m : Int) + 1), (p + n) - vv, pr⟩])) := Lib.hid (by unfold OwnN; rw [List.length_append, lvn_append]; exact hown)
              have HB2 : Hid (∀ q, v2.ownBlock = some q → w0.heap.size ≤ q) := Lib.hid (fun q hq => by
                rcases hkk q hq with e | e
                · exact HB.out q e
                · have h1 := HW.out.size
                  have h2 := hwo.out.size
                  omega)
              have HW2 : Hid (Only (fun _ => False) w0 w2) := Lib.hid ((HW.out.trans hwo.out).then HG.out (fun q hq e => by have := HB.out q e; omega))
              clear hown hgrow hkk HOW2 HG hwo
              go_wp2_with fail
              go_roundw
              case rel => exact ⟨(m + 1) + 1, _, v2, by omega, by go_num, rfl, HST2, HOW3, by rw [List.length_append, List.length_singleton]; omega, HB2, HW2⟩
              case measure => simp [intOf]; omega
            · have HST2 : Hid (ls ++ gradR p (p + n) (((m + 1) + 1 : Nat) : Int) (pru ts ((m + 1) + 1)) (ts.drop ((m + 1) + 1)) = gradR p (p + n) 0 0 ts) := Lib.hid (by rw [HPN.out, ← HST.out, if_neg h9])
              go_wp2_with fail
              go_roundw
              case rel => exact ⟨(m + 1) + 1, ls, _, by omega, by go_num, rfl, HST2, HOW, by omega, HB, HW⟩
              case measure => simp [intOf]; omega
          · have hhi : (if 0 < u then min (p + n) u else (p + n)) = u := by rw [if_pos hu.1]; omega
            rw [hhi] at hst
            have HST := Lib.hid hst
            clear hst hhi
            obtain ⟨hu1, hu2⟩ := hu
            by_cases h9 : vv < u
            · have HOW2 : Hid ((wr.alloc (.cells #[.int .i64 ((m : Int) + 1), .int .i64 (u - vv), .int .i64 pr] 111)).ownsRow 0 111 3 v ls.length (lvn ls)) := Lib.hid (owns_only (S := fun _ => False) ((Only.refl _ wr).alloc _) HOW.out (fun _ _ f => f))
              have HST2 : Hid ((ls ++ [⟨((m : Int) + 1), u - vv, pr⟩]) ++ gradR p (p + n) (((m + 1) + 1 : Nat) : Int) (pru ts ((m + 1) + 1)) (ts.drop ((m + 1) + 1)) = gradR p (p + n) 0 0 ts) := Lib.hid (by rw [HPN.out, ← HST.out, if_pos h9]; simp)
              have hwo : Hid (Only (fun _ => False) wr (wr.alloc (.cells #[.int .i64 ((m : Int) + 1), .int .i64 (u - vv), .int .i64 pr] 111))) := Lib.hid ((Only.refl _ wr).alloc _)
              go_wp2_with (at_builtin; refine append_mine rfl _ _ 32 rfl 111 i0 _ 3 24 Try.underlying32 hi hz0 hz1 hz2 rfl (by decide) _ ls.length _ rfl HOW2.out ⟨wr.heap.size, 0, none⟩ 1 1 (encN ⟨((m : Int) + 1), u - vv, pr⟩) rfl ?c1 ?c2 ?c3 ?c4 ?c5 ?_)
              case c1 => rfl
              case c2 => first | exact news_line rfl _ | exact fun j u2 hu2 => hu2
              case c3 => exact lvn_one [⟨((m : Int) + 1), u - vv, pr⟩]
              case c4 => unfold maxLen; omega
              case c5 => omega
              intro v2 w2 hown hgrow hkk
              have HG := Lib.hid (Only.of_grown hgrow)
              have HOW3 : Hid (OwnN w2 v2 (ls ++ [⟨((m : Int) + 1), u - vv, pr⟩])) := Lib.hid (by unfold OwnN; rw [List.length_append, lvn_append]; exact hown)
              have HB2 : Hid (∀ q, v2.ownBlock = some q → w0.heap.size ≤ q) := Lib.hid (fun q hq => by
                rcases hkk q hq with e | e
                · exact HB.out q e
                · have h1 := HW.out.size
                  have h2 := hwo.out.size
                  omega)
              have HW2 : Hid (Only (fun _ => False) w0 w2) := Lib.hid ((HW.out.trans hwo.out).then HG.out (fun q hq e => by have := HB.out q e; omega))
              clear hown hgrow hkk HOW2 HG hwo
              go_wp2_with fail
              go_roundw
              case rel => exact ⟨(m + 1) + 1, _, v2, by omega, by go_num, rfl, HST2, HOW3, by rw [List.length_append, List.length_singleton]; omega, HB2, HW2⟩
              case measure => simp [intOf]; omega
            · have HST2 : Hid (ls ++ gradR p (p + n) (((m + 1) + 1 : Nat) : Int) (pru ts ((m + 1) + 1)) (ts.drop ((m + 1) + 1)) = gradR p (p + n) 0 0 ts) := Lib.hid (by rw [HPN.out, ← HST.out, if_neg h9])
              go_wp2_with fail
              go_roundw
              case rel => exact ⟨(m + 1) + 1, ls, _, by omega, by go_num, rfl, HST2, HOW, by omega, HB, HW⟩
              case measure => simp [intOf]; omega
        · subst hlo
          have hmx : max p p = p := by omega
          rw [hmx] at hst
          clear hmx
          have hus : u ≤ 0 ∨ (0 < u ∧ p + n ≤ u) ∨ (0 < u ∧ u < p + n) := by omega
          rcases hus with hu | hu | hu
          · have hhi : (if 0 < u then min (p + n) u else (p + n)) = (p + n) := by rw [if_neg (by omega)]
            rw [hhi] at hst
            have HST := Lib.hid hst
            clear hst hhi
            have hu1 := hu
            by_cases h9 : p < (p + n)
            · have HOW2 : Hid ((wr.alloc (.cells #[.int .i64 ((m : Int) + 1), .int .i64 ((p + n) - p), .int .i64 pr] 111)).ownsRow 0 111 3 v ls.length (lvn ls)) := Lib.hid (owns_only (S := fun _ => False) ((Only.refl _ wr).alloc _) HOW.out (fun _ _ f => f))
              have HST2 : Hid ((ls ++ [⟨((m : Int) + 1), (p + n) - p, pr⟩]) ++ gradR p (p + n) (((m + 1) + 1 : Nat) : Int) (pru ts ((m + 1) + 1)) (ts.drop ((m + 1) + 1)) = gradR p (p + n) 0 0 ts) := Lib.hid (by rw [HPN.out, ← HST.out, if_pos h9]; simp)
              have hwo : Hid (Only (fun _ => False) wr (wr.alloc (.cells #[.int .i64 ((m : Int) + 1), .int .i64 ((p + n) - p), .int .i64 pr] 111))) := Lib.hid ((Only.refl _ wr).alloc _)
              go_wp2_with (at_builtin; refine append_mine rfl _ _ 32 rfl 111 i0 _ 3 24 Try.underlying32 hi hz0 hz1 hz2 rfl (by decide) _ ls.length _ rfl HOW2.out ⟨wr.heap.size, 0, none⟩ 1 1 (encN ⟨((m : Int) + 1), (p + n) - p, pr⟩) rfl ?c1 ?c2 ?c3 ?c4 ?c5 ?_)
              case c1 => rfl
              case c2 => first | exact news_line rfl _ | exact fun j u2 hu2 => hu2
              case c3 => exact lvn_one [⟨((m : Int) + 1), (p + n) - p, pr⟩]
              case c4 => unfold maxLen; omega
              case c5 => omega
              intro v2 w2 hown hgrow hkk
              have HG := Lib.hid (Only.of_grown hgrow)
              have HOW3 : Hid (OwnN w2 v2 (ls ++ [⟨((m : Int) + 1), (p + n) - p, pr⟩])) := Lib.hid (by unfold OwnN; rw [List.length_append, lvn_append]; exact hown)
              have HB2 : Hid (∀ q, v2.ownBlock = some q → w0.heap.size ≤ q) := Lib.hid (fun q hq => by
                rcases hkk q hq with e | e
                · exact HB.out q e
                · have h1 := HW.out.size
                  have h2 := hwo.out.size
                  omega)
              have HW2 : Hid (Only (fun _ => False) w0 w2) := Lib.hid ((HW.out.trans hwo.out).then HG.out (fun q hq e => by have := HB.out q e; omega))
              clear hown hgrow hkk HOW2 HG hwo
              go_wp2_with fail
              go_roundw
              case rel => exact ⟨(m + 1) + 1, _, v2, by omega, by go_num, rfl, HST2, HOW3, by rw [List.length_append, List.length_singleton]; omega, HB2, HW2⟩
              case measure => simp [intOf]; omega
            · exfalso
              omega
          · have hhi : (if 0 < u then min (p + n) u else (p + n)) = (p + n) := by rw [if_pos hu.1]; omega
            rw [hhi] at hst
            have HST := Lib.hid hst
            clear hst hhi
            obtain ⟨hu1, hu2⟩ := hu
            by_cases h9 : p < (p + n)
            · have HOW2 : Hid ((wr.alloc (.cells #[.int .i64 ((m : Int) + 1), .int .i64 ((p + n) - p), .int .i64 pr] 111)).ownsRow 0 111 3 v ls.length (lvn ls)) := Lib.hid (owns_only (S := fun _ => False) ((Only.refl _ wr).alloc _) HOW.out (fun _ _ f => f))
              have HST2 : Hid ((ls ++ [⟨((m : Int) + 1), (p + n) - p, pr⟩]) ++ gradR p (p + n) (((m + 1) + 1 : Nat) : Int) (pru ts ((m + 1) + 1)) (ts.drop ((m + 1) + 1)) = gradR p (p + n) 0 0 ts) := Lib.hid (by rw [HPN.out, ← HST.out, if_pos h9]; simp)
              have hwo : Hid (Only (fun _ => False) wr (wr.alloc (.cells #[.int .i64 ((m : Int) + 1), .int .i64 ((p + n) - p), .int .i64 pr] 111))) := Lib.hid ((Only.refl _ wr).alloc _)
              go_wp2_with (at_builtin; refine append_mine rfl _ _ 32 rfl 111 i0 _ 3 24 Try.underlying32 hi hz0 hz1 hz2 rfl (by decide) _ ls.length _ rfl HOW2.out ⟨wr.heap.size, 0, none⟩ 1 1 (encN ⟨((m : Int) + 1), (p + n) - p, pr⟩) rfl ?c1 ?c2 ?c3 ?c4 ?c5 ?_)
              case c1 => rfl
              case c2 => first | exact news_line rfl _ | exact fun j u2 hu2 => hu2
              case c3 => exact lvn_one [⟨((m : Int) + 1), (p + n) - p, pr⟩]
              case c4 => unfold maxLen; omega
              case c5 => omega
              intro v2 w2 hown hgrow hkk
              have HG := Lib.hid (Only.of_grown hgrow)
              have HOW3 : Hid (OwnN w2 v2 (ls ++ [⟨((m : Int) + 1), (p + n) - p, pr⟩])) := Lib.hid (by unfold OwnN; rw [List.length_append, lvn_append]; exact hown)
              have HB2 : Hid (∀ q, v2.ownBlock = some q → w0.heap.size ≤ q) := Lib.hid (fun q hq => by
                rcases hkk q hq with e | e
                · exact HB.out q e
                · have h1 := HW.out.size
                  have h2 := hwo.out.size
                  omega)
              have HW2 : Hid (Only (fun _ => False) w0 w2) := Lib.hid ((HW.out.trans hwo.out).then HG.out (fun q hq e => by have := HB.out q e; omega))
              clear hown hgrow hkk HOW2 HG hwo
              go_wp2_with fail
              go_roundw
              case rel => exact ⟨(m + 1) + 1, _, v2, by omega, by go_num, rfl, HST2, HOW3, by rw [List.length_append, List.length_singleton]; omega, HB2, HW2⟩
              case measure => simp [intOf]; omega
            · exfalso
              omega
          · have hhi : (if 0 < u then min (p + n) u else (p + n)) = u := by rw [if_pos hu.1]; omega
            rw [hhi] at hst
            have HST := Lib.hid hst
            clear hst hhi
            obtain ⟨hu1, hu2⟩ := hu
            by_cases h9 : p < u
            · have HOW2 : Hid ((wr.alloc (.cells #[.int .i64 ((m : Int) + 1), .int .i64 (u - p), .int .i64 pr] 111)).ownsRow 0 111 3 v ls.length (lvn ls)) := Lib.hid (owns_only (S := fun _ => False) ((Only.refl _ wr).alloc _) HOW.out (fun _ _ f => f))
              have HST2 : Hid ((ls ++ [⟨((m : Int) + 1), u - p, pr⟩]) ++ gradR p (p + n) (((m + 1) + 1 : Nat) : Int) (pru ts ((m + 1) + 1)) (ts.drop ((m + 1) + 1)) = gradR p (p + n) 0 0 ts) := Lib.hid (by rw [HPN.out, ← HST.out, if_pos h9]; simp)
              have hwo : Hid (Only (fun _ => False) wr (wr.alloc (.cells #[.int .i64 ((m : Int) + 1), .int .i64 (u - p), .int .i64 pr] 111))) := Lib.hid ((Only.refl _ wr).alloc _)
              go_wp2_with (at_builtin; refine append_mine rfl _ _ 32 rfl 111 i0 _ 3 24 Try.underlying32 hi hz0 hz1 hz2 rfl (by decide) _ ls.length _ rfl HOW2.out ⟨wr.heap.size, 0, none⟩ 1 1 (encN ⟨((m : Int) + 1), u - p, pr⟩) rfl ?c1 ?c2 ?c3 ?c4 ?c5 ?_)
              case c1 => rfl
              case c2 => first | exact news_line rfl _ | exact fun j u2 hu2 => hu2
              case c3 => exact lvn_one [⟨((m : Int) + 1), u - p, pr⟩]
              case c4 => unfold maxLen; omega
              case c5 => omega
              intro v2 w2 hown hgrow hkk
              have HG := Lib.hid (Only.of_grown hgrow)
              have HOW3 : Hid (OwnN w2 v2 (ls ++ [⟨((m : Int) + 1), u - p, pr⟩])) := Lib.hid (by unfold OwnN; rw [List.length_append, lvn_append]; exact hown)
              have HB2 : Hid (∀ q, v2.ownBlock = some q → w0.heap.size ≤ q) := Lib.hid (fun q hq => by
                rcases hkk q hq with e | e
                · exact HB.out q e
                · have h1 := HW.out.size
                  have h2 := hwo.out.size
                  omega)
              have HW2 : Hid (Only (fun _ => False) w0 w2) := Lib.hid ((HW.out.trans hwo.out).then HG.out (fun q hq e => by have := HB.out q e; omega))
              clear hown hgrow hkk HOW2 HG hwo
              go_wp2_with fail
              go_roundw
              case rel => exact ⟨(m + 1) + 1, _, v2, by omega, by go_num, rfl, HST2, HOW3, by rw [List.length_append, List.length_singleton]; omega, HB2, HW2⟩
              case measure => simp [intOf]; omega
            · have HST2 : Hid (ls ++ gradR p (p + n) (((m + 1) + 1 : Nat) : Int) (pru ts ((m + 1) + 1)) (ts.drop ((m + 1) + 1)) = gradR p (p + n) 0 0 ts) := Lib.hid (by rw [HPN.out, ← HST.out, if_neg h9])
              go_wp2_with fail
              go_roundw
              case rel => exact ⟨(m + 1) + 1, ls, _, by omega, by go_num, rfl, HST2, HOW, by omega, HB, HW⟩
              case measure => simp [intOf]; omega
        · have hmx : max p vv = p := by omega
          rw [hmx] at hst
          clear hmx
          have hus : u ≤ 0 ∨ (0 < u ∧ p + n ≤ u) ∨ (0 < u ∧ u < p + n) := by omega
          rcases hus with hu | hu | hu
          · have hhi : (if 0 < u then min (p + n) u else (p + n)) = (p + n) := by rw [if_neg (by omega)]
            rw [hhi] at hst
            have HST := Lib.hid hst
            clear hst hhi
            have hu1 := hu
            by_cases h9 : p < (p + n)
            · have HOW2 : Hid ((wr.alloc (.cells #[.int .i64 ((m : Int) + 1), .int .i64 ((p + n) - p), .int .i64 pr] 111)).ownsRow 0 111 3 v ls.length (lvn ls)) := Lib.hid (owns_only (S := fun _ => False) ((Only.refl _ wr).alloc _) HOW.out (fun _ _ f => f))
              have HST2 : Hid ((ls ++ [⟨((m : Int) + 1), (p + n) - p, pr⟩]) ++ gradR p (p + n) (((m + 1) + 1 : Nat) : Int) (pru ts ((m + 1) + 1)) (ts.drop ((m + 1) + 1)) = gradR p (p + n) 0 0 ts) := Lib.hid (by rw [HPN.out, ← HST.out, if_pos h9]; simp)
              have hwo : Hid (Only (fun _ => False) wr (wr.alloc (.cells #[.int .i64 ((m : Int) + 1), .int .i64 ((p + n) - p), .int .i64 pr] 111))) := Lib.hid ((Only.refl _ wr).alloc _)
              go_wp2_with (at_builtin; refine append_mine rfl _ _ 32 rfl 111 i0 _ 3 24 Try.underlying32 hi hz0 hz1 hz2 rfl (by decide) _ ls.length _ rfl HOW2.out ⟨wr.heap.size, 0, none⟩ 1 1 (encN ⟨((m : Int) + 1), (p + n) - p, pr⟩) rfl ?c1 ?c2 ?c3 ?c4 ?c5 ?_)
              case c1 => rfl
              case c2 => first | exact news_line rfl _ | exact fun j u2 hu2 => hu2
              case c3 => exact lvn_one [⟨((m : Int) + 1), (p + n) - p, pr⟩]
              case c4 => unfold maxLen; omega
              case c5 => omega
              intro v2 w2 hown hgrow hkk
              have HG := Lib.hid (Only.of_grown hgrow)
              have HOW3 : Hid (OwnN w2 v2 (ls ++ [⟨((m : Int) + 1), (p + n) - p, pr⟩])) := Lib.hid (by unfold OwnN; rw [List.length_append, lvn_append]; exact hown)
              have HB2 : Hid (∀ q, v2.ownBlock = some q → w0.heap.size ≤ q) := Lib.hid (fun q hq => by
                rcases hkk q hq with e | e
                · exact HB.out q e
                · have h1 := HW.out.size
                  have h2 := hwo.out.size
                  omega)
              have HW2 : Hid (Only (fun _ => False) w0 w2) := Lib.hid ((HW.out.trans hwo.out).then HG.out (fun q hq e => by have := HB.out q e; omega))
              clear hown hgrow hkk HOW2 HG hwo
              go_wp2_with fail
              go_roundw
              case rel => exact ⟨(m + 1) + 1, _, v2, by omega, by go_num, rfl, HST2, HOW3, by rw [List.length_append, List.length_singleton]; omega, HB2, HW2⟩
              case measure => simp [intOf]; omega
            · exfalso
              omega
          · have hhi : (if 0 < u then min (p + n) u else (p + n)) = (p + n) := by rw [if_pos hu.1]; omega
            rw [hhi] at hst
            have HST := Lib.hid hst
            clear hst hhi
            obtain ⟨hu1, hu2⟩ := hu
            by_cases h9 : p < (p + n)
            · have HOW2 : Hid ((wr.alloc (.cells #[.int .i64 ((m : Int) + 1), .int .i64 ((p + n) - p), .int .i64 pr] 111)).ownsRow 0 111 3 v ls.length (lvn ls)) := Lib.hid (owns_only (S := fun _ => False) ((Only.refl _ wr).alloc _) HOW.out (fun _ _ f => f))
              have HST2 : Hid ((ls ++ [⟨((m : Int) + 1), (p + n) - p, pr⟩]) ++ gradR p (p + n) (((m + 1) + 1 : Nat) : Int) (pru ts ((m + 1) + 1)) (ts.drop ((m + 1) + 1)) = gradR p (p + n) 0 0 ts) := Lib.hid (by rw [HPN.out, ← HST.out, if_pos h9]; simp)
              have hwo : Hid (Only (fun _ => False) wr (wr.alloc (.cells #[.int .i64 ((m : Int) + 1), .int .i64 ((p + n) - p), .int .i64 pr] 111))) := Lib.hid ((Only.refl _ wr).alloc _)
              go_wp2_with (at_builtin; refine append_mine rfl _ _ 32 rfl 111 i0 _ 3 24 Try.underlying32 hi hz0 hz1 hz2 rfl (by decide) _ ls.length _ rfl HOW2.out ⟨wr.heap.size, 0, none⟩ 1 1 (encN ⟨((m : Int) + 1), (p + n) - p, pr⟩) rfl ?c1 ?c2 ?c3 ?c4 ?c5 ?_)
              case c1 => rfl
              case c2 => first | exact news_line rfl _ | exact fun j u2 hu2 => hu2
              case c3 => exact lvn_one [⟨((m : Int) + 1), (p + n) - p, pr⟩]
              case c4 => unfold maxLen; omega
              case c5 => omega
              intro v2 w2 hown hgrow hkk
              have HG := Lib.hid (Only.of_grown hgrow)
              have HOW3 : Hid (OwnN w2 v2 (ls ++ [⟨((m : Int) + 1), (p + n) - p, pr⟩])) := Lib.hid (by unfold OwnN; rw [List.length_append, lvn_append]; exact hown)
              have HB2 : Hid (∀ q, v2.ownBlock = some q → w0.heap.size ≤ q) := Lib.hid (fun q hq => by
                rcases hkk q hq with e | e
                · exact HB.out q e
                · have h1 := HW.out.size
                  have h2 := hwo.out.size
                  omega)
              have HW2 : Hid (Only (fun _ => False) w0 w2) := Lib.hid ((HW.out.trans hwo.out).then HG.out (fun q hq e => by have := HB.out q e; omega))
              clear hown hgrow hkk HOW2 HG hwo
              go_wp2_with fail
              go_roundw
              case rel => exact ⟨(m + 1) + 1, _, v2, by omega, by go_num, rfl, HST2, HOW3, by rw [List.length_append, List.length_singleton]; omega, HB2, HW2⟩
              case measure => simp [intOf]; omega
            · exfalso
              omega
          · have hhi : (if 0 < u then min (p + n) u else (p + n)) = u := by rw [if_pos hu.1]; omega
            rw [hhi] at hst
            have HST := Lib.hid hst
            clear hst hhi
            obtain ⟨hu1, hu2⟩ := hu
            by_cases h9 : p < u
            · have HOW2 : Hid ((wr.alloc (.cells #[.int .i64 ((m : Int) + 1), .int .i64 (u - p), .int .i64 pr] 111)).ownsRow 0 111 3 v ls.length (lvn ls)) := Lib.hid (owns_only (S := fun _ => False) ((Only.refl _ wr).alloc _) HOW.out (fun _ _ f => f))
              have HST2 : Hid ((ls ++ [⟨((m : Int) + 1), u - p, pr⟩]) ++ gradR p (p + n) (((m + 1) + 1 : Nat) : Int) (pru ts ((m + 1) + 1)) (ts.drop ((m + 1) + 1)) = gradR p (p + n) 0 0 ts) := Lib.hid (by rw [HPN.out, ← HST.out, if_pos h9]; simp)
              have hwo : Hid (Only (fun _ => False) wr (wr.alloc (.cells #[.int .i64 ((m : Int) + 1), .int .i64 (u - p), .int .i64 pr] 111))) := Lib.hid ((Only.refl _ wr).alloc _)
              go_wp2_with (at_builtin; refine append_mine rfl _ _ 32 rfl 111 i0 _ 3 24 Try.underlying32 hi hz0 hz1 hz2 rfl (by decide) _ ls.length _ rfl HOW2.out ⟨wr.heap.size, 0, none⟩ 1 1 (encN ⟨((m : Int) + 1), u - p, pr⟩) rfl ?c1 ?c2 ?c3 ?c4 ?c5 ?_)
              case c1 => rfl
              case c2 => first | exact news_line rfl _ | exact fun j u2 hu2 => hu2
              case c3 => exact lvn_one [⟨((m : Int) + 1), u - p, pr⟩]
              case c4 => unfold maxLen; omega
              case c5 => omega
              intro v2 w2 hown hgrow hkk
              have HG := Lib.hid (Only.of_grown hgrow)
              have HOW3 : Hid (OwnN w2 v2 (ls ++ [⟨((m : Int) + 1), u - p, pr⟩])) := Lib.hid (by unfold OwnN; rw [List.length_append, lvn_append]; exact hown)
              have HB2 : Hid (∀ q, v2.ownBlock = some q → w0.heap.size ≤ q) := Lib.hid (fun q hq => by
                rcases hkk q hq with e | e
                · exact HB.out q e
                · have h1 := HW.out.size
                  have h2 := hwo.out.size
                  omega)
              have HW2 : Hid (Only (fun _ => False) w0 w2) := Lib.hid ((HW.out.trans hwo.out).then HG.out (fun q hq e => by have := HB.out q e; omega))
              clear hown hgrow hkk HOW2 HG hwo
              go_wp2_with fail
              go_roundw
              case rel => exact ⟨(m + 1) + 1, _, v2, by omega, by go_num, rfl, HST2, HOW3, by rw [List.length_append, List.length_singleton]; omega, HB2, HW2⟩
              case measure => simp [intOf]; omega
            · have HST2 : Hid (ls ++ gradR p (p + n) (((m + 1) + 1 : Nat) : Int) (pru ts ((m + 1) + 1)) (ts.drop ((m + 1) + 1)) = gradR p (p + n) 0 0 ts) := Lib.hid (by rw [HPN.out, ← HST.out, if_neg h9])
              go_wp2_with fail
              go_roundw
              case rel => exact ⟨(m + 1) + 1, ls, _, by omega, by go_num, rfl, HST2, HOW, by omega, HB, HW⟩
              case measure => simp [intOf]; omega
    · obtain rfl : k = len := by omega
      have HR : Hid (ls = gradR p (p + n) 0 0 ts) := Lib.hid (by rw [← HP.out, List.drop_eq_nil_of_le (by rw [HL.out]; omega)]; simp [gradR])
      obtain ⟨av, cv, rfl, hrv, hcv⟩ := own_readsN HOW.out
      have HRV := Lib.hid hrv
      clear hrv
      go_wp2_with fail
      refine bodyPost_ret (v := .tuple #[.slice av ls.length cv, .int .i64 0]) (by simp [results, Try.results57, go_sem]) rfl ⟨av, cv, by rw [← HR.out], by rw [← HR.out]; exact HRV.out, HO0.out.trans HW.out⟩
end Go.Proofs.Ytonacdjaimokeaa.tirw
