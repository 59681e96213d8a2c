/- Lines: the document's Merge: its walk. -/
import Derived.Test.YtdfghdccbpnohaaTirN1
import Derived.Test.YtdfghdccbpnohaaLnsA
import Derived.Deep.RegionHeld3
import Derived.Deep.CutRange
import Derived.Deep.CutBlock
import Derived.Test.YtdfghdccbpnohaaHeldL
namespace Go.Proofs.Ytdfghdccbpnohaa.tirw
open Go.RowKit mem tirm intm bigm bigw
set_option linter.unusedVariables false

theorem small_wrap (a : Nat) (h : a ≤ 100000) : wrap64 (a : Int) = (a : Int) ∧ IntKind.i64.wrap (a : Int) = (a : Int) := by
  rw [wrap64_eq, wrap_i64]; omega
theorem ins_ar {a m : Nat} (h : a + 1 ≤ m) (hm : m ≤ 20000) : (wrap64 (a : Int) = (a : Int) ∧ IntKind.i64.wrap (a : Int) = (a : Int)) ∧ (0 : Int) ≤ (a : Int) ∧ (a : Int) < (m : Int) + 1 ∧ (a : Int) + 1 < (m : Int) + 1 ∧ (0 : Int) < (a : Int) + 1 ∧ a < m + 1 ∧ a + 1 < m + 1 := by
  rw [wrap64_eq, wrap_i64]; omega
theorem ms_ar {k n : Nat} (h : k < n) : n - (k + 1) < n - k := by omega
theorem ins_eq {xt sk xp yt yb yp : Int} (h : ltN ⟨xt, sk, xp⟩ ⟨yt, yb, yp⟩) (hc : ¬ xt < yt) : yt = xt ∧ xp < yp := by
  unfold ltN at h
  dsimp only at h
  omega
theorem ins_no {xt sk xp yt yb yp : Int} (h : ¬ ltN ⟨xt, sk, xp⟩ ⟨yt, yb, yp⟩) : ¬ xt < yt ∧ (¬ yt = xt ∨ ¬ xp < yp) := by
  unfold ltN at h
  dsimp only at h
  omega
theorem split_last (A : List Ln) : A = [] ∨ ∃ A' y, A = A' ++ [y] := by
  rcases List.eq_nil_or_concat A with h | ⟨A', y, h⟩
  · exact .inl h
  · exact .inr ⟨A', y, by rw [h, List.concat_eq_append]⟩
theorem ne_facts {a b : Int} (h : a ≠ b) : (a == b) = false ∧ (a != b) = true := by constructor <;> simpa using h
theorem fB_next {f g : Bool} {a b : Ln} (h : f = (g && !decide (lk a b))) (hn : ¬ lk a b) : f = g := by rw [h, decide_eq_false hn]; simp
theorem fB_stop {f g : Bool} {a b : Ln} (h : f = (g && !decide (lk a b))) (hn : lk a b) : f = false := by rw [h, decide_eq_true hn]; simp

theorem UptoOf.ok {S M : List Ln} (h : UptoOf S S.length M) : okM S := by
  intro x hx
  obtain ⟨y, hy, hl⟩ := (h.keys x).2 (by rw [List.take_length]; exact ⟨x, hx, lk_refl x⟩)
  have h1 := h.ints y hy
  rw [h.blocks y hy] at h1
  rw [sumK_lk hl S]
  exact h1
set_option maxRecDepth 100000 in
set_option maxHeartbeats 20000000 in
theorem rmerge_any (a1 a2 : Option Addr) (n1 n2 c1 c2 : Nat) (la lb : List Ln) (w : World) (h1 : ReadsN w a1 n1 la) (h2 : ReadsN w a2 n2 lb) (hn1 : n1 ≤ 10000) (hn2 : n2 ≤ 10000) (hi1 : LnsI la) (hi2 : LnsI lb) :
    Calls Try.prog 6 #[.slice a1 n1 c1, .slice a2 n2 c2] w (MergedAt (la ++ lb) w) := by
  obtain ⟨i0, hi, hz0, hz1, hz2⟩ := info_parts info_line
  obtain ⟨i1, hj, hy0, hy1, hy2⟩ := info_parts info_i64
  have hal : (la ++ lb).length ≤ 20000 := by rw [List.length_append, h1.1, h2.1]; omega
  have hai : LnsI (la ++ lb) := fun x hx => (List.mem_append.1 hx).elim (hi1 x) (hi2 x)
  have HOW : Hid (OwnN (w.alloc (.cells #[] 32)) (.slice (some ⟨w.heap.size, 0, none⟩) 0 0) []) := Lib.hid (World.ownsRow_lit w #[] 0 (Nat.zero_le _) (by decide) rfl)
  have HR1 := Lib.hid (h1.only (S := fun _ => False) ((Only.refl _ w).alloc (.cells #[] 32)) (fun _ _ f => f))
  have HR2 := Lib.hid h2
  have HAI := Lib.hid hai
  have HAL := Lib.hid hal
  have HL1 := Lib.hid h1.1
  clear h1 h2 hi1 hi2 hal hai
  go_enter Try.func6, Try.ntmps6
  go_wp2_with (at_builtin; refine append_lines rfl _ _ rfl _ _ rfl HOW.out a1 n1 c1 la rfl HR1.out (by rw [List.length_nil]; omega) ?_)
  intro v1 w1 hown1 hgrow1 hk1
  have HO1 : Hid (Only (fun _ => False) w w1) := Lib.hid (((Only.refl _ w).alloc _).then (Only.of_grown hgrow1) (fun q hq e => by
    have : w.heap.size = q := by simpa [Value.ownBlock] using e
    omega))
  have HB1 : Hid (∀ q, v1.ownBlock = some q → w.heap.size ≤ q) := Lib.hid (fun q hq => by
    rcases hk1 q hq with e | e
    · have : w.heap.size = q := by simpa [Value.ownBlock] using e
      omega
    · omega)
  have HOW1 := Lib.hid hown1
  clear hown1 hgrow1 hk1
  go_wp2_with (at_builtin; refine append_lines rfl _ _ rfl v1 la rfl HOW1.out a2 n2 c2 lb rfl (HR2.out.only HO1.out (fun _ _ f => f)) (by rw [HL1.out]; omega) ?_)
  intro v2 w2 hown2 hgrow2 hk2
  have HO2 : Hid (Only (fun _ => False) w w2) := Lib.hid (HO1.out.then (Only.of_grown hgrow2) (fun q hq e => by have := HB1.out q e; omega))
  have HB2 : Hid (∀ q, v2.ownBlock = some q → w.heap.size ≤ q) := Lib.hid (fun q hq => by
    rcases hk2 q hq with e | e
    · exact HB1.out q e
    · have := HO1.out.size; omega)
  clear HOW HOW1 HR1 HR2 HB1 HO1 hgrow2 hk2 HL1
  generalize la ++ lb = S at *
  obtain ⟨va, cs, rfl, hrd, -⟩ := own_readsN hown2
  have HRS := Lib.hid hrd
  clear hown2 hrd HB2
  have hs2 : S.length ≤ 20000 := HAL.out
  go_wp2_with fail
  go_loopw [7, 8] (fun ov iv wr => ∃ (i : Nat) (M : List Ln) (mv : Value), i ≤ S.length ∧ iv = .int .i64 i ∧ mv = ov ∧ M.length ≤ i ∧ Hid (UptoOf S i M) ∧ Hid (OwnN wr mv M) ∧ Hid (∀ q, mv.ownBlock = some q → w2.heap.size ≤ q) ∧ Hid (Only (fun _ => False) w2 wr)) (fun _ iv _ => S.length - (intOf iv).toNat)
  case atStart => exact ⟨0, [], _, by omega, rfl, rfl, by simp, Lib.hid (UptoOf.nil S), Lib.hid (OwnN.nil _), Lib.hid (fun q e => by cases e), Lib.hid (Only.refl _ _)⟩
  case round =>
    obtain ⟨i, M, mv, hil, rfl, rfl, hml, HU, HOW, HBK, HO⟩ := hrel
    obtain ⟨av, cv, rfl, -, -⟩ := own_readsN HOW.out
    by_cases h8 : i < S.length
    · have HXI := Lib.hid (HAI.out _ (getN_mem S i h8))
      have HXM := Lib.hid (getN_mem S i h8)
      have HAR : Hid (M.length ≤ 20000 ∧ i + 1 ≤ S.length ∧ M.length + 1 ≤ i + 1 ∧ i < S.length) := Lib.hid (by omega)
      obtain ⟨b, off, rfl, hcell⟩ := HRS.out.2.resolve_left (by omega)
      have HC := Lib.hid hcell
      obtain ⟨hx0, hx1, hx2⟩ := hcell i h8
      clear hcell
      have HFS := Lib.hid (fun k hk => fB_succ (S.getD i default) S k hk)
      have HLS := Lib.hid (fun k hk => likes_succ (S.getD i default) S k hk)
      have HSK := Lib.hid (fun hf => HU.out.skip h8 hf)
      have HPT := Lib.hid (fun (A B : List Ln) (x : Ln) (e : A ++ B = M) => (fun (h : UptoOf S i (A ++ B)) => h.put (x := x) h8))
      have hmr : fB (S.getD i default) S 0 = true := by simp [fB]
      have hlr : likes (S.getD i default) (S.take 0) = [] := by simp [likes]
      have HF0 := Lib.hid hmr
      have HL0 := Lib.hid hlr
      clear hmr hlr
      generalize S.getD i default = x at *
      obtain ⟨xt, xb, xp⟩ := x
      dsimp only at hx0 hx1 hx2
      go_wp2_with fail
      go_loopw [9, 10] (fun fv kv wx => ∃ k : Nat, k ≤ i ∧ kv = .int .i64 k ∧ fv = .bool (fB ⟨xt, xb, xp⟩ S k) ∧ Hid (Only (fun _ => False) wr wx)) (fun _ kv _ => i - (intOf kv).toNat)
      case atStart => exact ⟨0, by omega, rfl, by rw [HF0.out], Lib.hid (Only.refl _ _)⟩
      case round =>
        obtain ⟨k, hk, rfl, rfl, HOX⟩ := hrel
        have HOA := Lib.hid (HO.out.trans HOX.out)
        have e0 := HOA.out.cell' hx0 (fun f => f)
        have e2 := HOA.out.cell' hx2 (fun f => f)
        by_cases h9 : k < i
        · have hst := HFS.out k (by omega)
          obtain ⟨d0, _, d2⟩ := HC.out k (by omega)
          replace d0 := HOA.out.cell' d0 (fun f => f)
          replace d2 := HOA.out.cell' d2 (fun f => f)
          have hkS : (k : Int) < (S.length : Int) := by omega
          have hiS : (i : Int) < (S.length : Int) := by omega
          have hk0 : (0 : Int) ≤ (k : Int) := by omega
          have hi0 : (0 : Int) ≤ (i : Int) := by omega
          have hki : (k : Int) < (i : Int) := by omega
          generalize S.getD k default = y at *
          obtain ⟨yt, yb, yp⟩ := y
          dsimp only at d0 d2
          cases hfk : fB ⟨xt, xb, xp⟩ S k with
          | false =>
            have HN : Hid (fB ⟨xt, xb, xp⟩ S (k + 1) = false) := Lib.hid (by rw [hst, hfk]; rfl)
            clear hst hfk
            go_wp2_with fail
            go_quiet (fail)
            go_wp2_with fail
            go_roundw
            case rel => exact ⟨k + 1, by omega, by go_num, by rw [HN.out], Lib.hid (only_drewN HOX.out _)⟩
            case measure => simp [intOf]; omega
          | true =>
            by_cases ht : yt = xt
            · subst ht
              by_cases hp : yp = xp
              · subst hp
                have HN : Hid (fB ⟨yt, xb, yp⟩ S (k + 1) = false) := Lib.hid (fB_stop hst ⟨rfl, rfl⟩)
                clear hst hfk
                go_wp2_with fail
                go_quiet (fail)
                go_wp2_with fail
                go_roundw
                case rel => exact ⟨k + 1, by omega, by go_num, by rw [HN.out], Lib.hid (only_drewN HOX.out _)⟩
                case measure => simp [intOf]; omega
              · obtain ⟨n1', n2'⟩ := ne_facts hp
                have HN : Hid (fB ⟨yt, xb, xp⟩ S (k + 1) = true) := Lib.hid ((fB_next hst (fun e => hp e.2)).trans hfk)
                clear hst hfk
                go_wp2_with fail
                go_quiet (fail)
                go_wp2_with fail
                go_roundw
                case rel => exact ⟨k + 1, by omega, by go_num, by rw [HN.out], Lib.hid (only_drewN HOX.out _)⟩
                case measure => simp [intOf]; omega
            · obtain ⟨n1', n2'⟩ := ne_facts ht
              have HN : Hid (fB ⟨xt, xb, xp⟩ S (k + 1) = true) := Lib.hid ((fB_next hst (fun e => ht e.1)).trans hfk)
              clear hst hfk
              go_wp2_with fail
              go_quiet (fail)
              go_wp2_with fail
              go_roundw
              case rel => exact ⟨k + 1, by omega, by go_num, by rw [HN.out], Lib.hid (only_drewN HOX.out _)⟩
              case measure => simp [intOf]; omega
        · obtain rfl : k = i := by omega
          cases hfk : fB ⟨xt, xb, xp⟩ S k with
          | false =>
            have HUN := Lib.hid (HSK.out hfk)
            have HOW2 := Lib.hid (HOW.out.only HOX.out (fun _ _ f => f))
            clear hfk
            go_wp2_with fail
            go_roundw
            case rel => exact ⟨k + 1, M, .slice av M.length cv, by omega, by go_num, rfl, by omega, HUN, HOW2, HBK, HOA⟩
            case measure => simp [intOf]; omega
          | true =>
            have HFK := Lib.hid hfk
            clear hfk
            go_wp2_with fail
            rename World => wx
            go_loopw [11, 12] (fun nv kv wy => ∃ (j : Nat) (v : Value) (xs : List Int), j ≤ S.length ∧ kv = .int .i64 j ∧ v = nv ∧ xs.length ≤ j ∧ Hid (xs = likes ⟨xt, xb, xp⟩ (S.take j)) ∧ Hid (OwnI wy v xs) ∧ Hid (∀ q, v.ownBlock = some q → wx.heap.size ≤ q) ∧ Hid (Only (fun _ => False) wx wy)) (fun _ kv _ => S.length - (intOf kv).toNat)
            case atStart => exact ⟨0, _, [], by omega, rfl, rfl, by simp, Lib.hid HL0.out.symm, Lib.hid (OwnI.nil _), Lib.hid (fun q e => by cases e), Lib.hid (Only.refl _ _)⟩
            case round =>
              clear e0 e2
              obtain ⟨j, v, xs, hj', rfl, rfl, hxl, HXS, HOI, HBI, HOY⟩ := hrel
              have HXL := Lib.hid hxl
              clear hxl
              have HOB := Lib.hid (HOA.out.trans HOY.out)
              have e0 := HOB.out.cell' hx0 (fun f => f)
              have e2 := HOB.out.cell' hx2 (fun f => f)
              by_cases h7 : j < S.length
              · have hst := HLS.out j h7
                obtain ⟨d0, d1, d2⟩ := HC.out j h7
                replace d0 := HOB.out.cell' d0 (fun f => f)
                replace d1 := HOB.out.cell' d1 (fun f => f)
                replace d2 := HOB.out.cell' d2 (fun f => f)
                have hkS : (j : Int) < (S.length : Int) := by omega
                have hiS : (k : Int) < (S.length : Int) := by omega
                have hk0 : (0 : Int) ≤ (j : Int) := by omega
                have hi0 : (0 : Int) ≤ (k : Int) := by omega
                generalize S.getD j default = y at *
                obtain ⟨yt, yb, yp⟩ := y
                dsimp only at d0 d1 d2 hst
                have HOWN : Hid (∀ w', Only (fun _ => False) wr w' → w'.ownsRow 0 3 1 v xs.length (iv xs)) := Lib.hid (fun w' ho => HOI.out.only ho (fun _ _ f => f))
                by_cases ht : yt = xt
                · subst ht
                  by_cases hp : yp = xp
                  · subst hp
                    have HN : Hid (xs ++ [yb] = likes ⟨yt, xb, yp⟩ (S.take (j + 1))) := Lib.hid (by rw [hst, if_pos ⟨rfl, rfl⟩, ← HXS.out])
                    clear hst
                    go_wp2_with fail
                    go_quiet (fail)
                    go_wp2_with (at_builtin; refine append_mine rfl _ _ 36 rfl 3 i1 _ 1 8 Try.underlying36 hj hy0 hy1 hy2 rfl (by decide) _ xs.length _ rfl (HOWN.out _ (by repeat' (with_reducible first | exact Only.refl _ _ | refine Only.drew ?_ | refine only_drewN ?_ _ | refine Only.alloc ?_ _))) ⟨wr.heap.size, 0, none⟩ 1 1 (iv [yb]) rfl ?c1 ?c2 ?c3 ?c4 ?c5 ?_)
                    case c1 => rfl
                    case c2 => exact news_int rfl _
                    case c3 => exact iv_one [yb]
                    case c4 => have := HXL.out; unfold maxLen; omega
                    case c5 => have := HXL.out; omega
                    intro v3 w3 hown hgrow hkk
                    have HON : Hid (OwnI w3 v3 (xs ++ [yb])) := Lib.hid (by unfold OwnI; rw [List.length_append, iv_append]; exact hown)
                    have HBN : Hid (∀ q, v3.ownBlock = some q → wx.heap.size ≤ q) := Lib.hid (fun q hq => by
                      rcases hkk q hq with e | e
                      · exact HBI.out q e
                      · have h5 : wr.heap.size ≤ q := by omega
                        have := HOY.out.size
                        omega)
                    have HON2 : Hid (Only (fun _ => False) wx w3) := Lib.hid ((HOY.out.trans (by repeat' (with_reducible first | exact Only.refl _ _ | refine Only.drew ?_ | refine only_drewN ?_ _ | refine Only.alloc ?_ _))).then (Only.of_grown hgrow) (fun q hq e => by have := HBI.out q e; omega))
                    clear hown hgrow hkk
                    go_wp2_with fail
                    go_roundw
                    case rel => exact ⟨j + 1, v3, xs ++ [yb], by omega, by go_num, rfl, by rw [List.length_append]; have := HXL.out; simp; omega, HN, HON, HBN, HON2⟩
                    case measure => simp [intOf]; omega
                  · obtain ⟨n1', n2'⟩ := ne_facts hp
                    have HN : Hid (xs = likes ⟨yt, xb, xp⟩ (S.take (j + 1))) := Lib.hid (by rw [hst, if_neg (fun e => hp e.2.symm), List.append_nil, ← HXS.out])
                    clear hst
                    go_wp2_with fail
                    go_quiet (fail)
                    go_wp2_with fail
                    go_roundw
                    case rel => exact ⟨j + 1, v, xs, by omega, by go_num, rfl, by have := HXL.out; omega, HN, Lib.hid (HOWN.out _ (only_drewN (Only.refl _ _) _)), HBI, Lib.hid (only_drewN HOY.out _)⟩
                    case measure => simp [intOf]; omega
                · obtain ⟨n1', n2'⟩ := ne_facts ht
                  have HN : Hid (xs = likes ⟨xt, xb, xp⟩ (S.take (j + 1))) := Lib.hid (by rw [hst, if_neg (fun e => ht e.1.symm), List.append_nil, ← HXS.out])
                  clear hst
                  go_wp2_with fail
                  go_quiet (fail)
                  go_wp2_with fail
                  go_roundw
                  case rel => exact ⟨j + 1, v, xs, by omega, by go_num, rfl, by have := HXL.out; omega, HN, Lib.hid (HOWN.out _ (only_drewN (Only.refl _ _) _)), HBI, Lib.hid (only_drewN HOY.out _)⟩
                  case measure => simp [intOf]; omega
              · obtain rfl : j = S.length := by omega
                have hxs := HXS.out
                rw [List.take_length] at hxs
                have hxi : ∀ c ∈ xs, InI c := by
                  rw [hxs]
                  intro c hc
                  unfold likes at hc
                  obtain ⟨y, hy, rfl⟩ := List.mem_map.1 hc
                  exact (HAI.out y (List.mem_filter.1 hy).1).2.1
                obtain ⟨an, cn, rfl, hrdn⟩ := OwnI.reads HOI.out hxi (by have := HXL.out; omega)
                have HSM := Lib.hid (rsum_any an xs.length cn xs wr hrdn)
                have hsum : xs.sum = sumK ⟨xt, xb, xp⟩ S := by rw [hxs]; rfl
                rw [hsum] at HSM
                clear hsum hrdn hxi hxs
                have HKS : Hid (∃ sk, sumK ⟨xt, xb, xp⟩ S = sk) := Lib.hid ⟨_, rfl⟩
                obtain ⟨sk, hsk⟩ := HKS.out
                rw [hsk] at HSM
                replace hsk := Lib.hid hsk
                clear HKS
                generalize xs.length = xl at *
                go_wp2_with fail
                refine HSM.out.mono ?_
                rintro _ w4 ⟨rfl, h4⟩
                have H4 := Lib.hid (HOB.out.trans h4)
                have HOW4 := Lib.hid (HOW.out.only (HOX.out.trans (HOY.out.trans h4)) (fun _ _ f => f))
                clear h4 e0 e2 HSM HOI HXS
                cases hii : isInt sk with
                | false =>
                  have HF : Hid (MergedAt S w (.returned (.tuple #[.slice none 0 0, .bool false])) w4) := Lib.hid (.inr ⟨not_ok HXM.out (by rw [hsk.out, hii]), rfl, HO2.out.trans H4.out⟩)
                  generalize intOr sk = mi at *
                  clear hii
                  go_wp2_with fail
                  go_ret2
                  exact HF.out
                | true =>
                  have e : intOr sk = sk := by unfold intOr; rw [hii]; rfl
                  rw [e]
                  have HII := Lib.hid hii
                  clear e hii
                  have e0 := H4.out.cell' hx0 (fun f => f)
                  have e2 := H4.out.cell' hx2 (fun f => f)
                  have HS4 : Hid (∀ w', Only (fun _ => False) w4 w' → Only (fun _ => False) w4 w' ∧ w'.cell? ⟨b, off + k * 3, none⟩ = some (.int .i64 xt) ∧ w'.cell? ⟨b, off + k * 3 + 2, none⟩ = some (.int .i64 xp)) := Lib.hid (fun w' ho => ⟨ho, ho.cell' e0 (fun f => f), ho.cell' e2 (fun f => f)⟩)
                  have hkS : (k : Int) < (S.length : Int) := by omega
                  have hk0 : (0 : Int) ≤ (k : Int) := by omega
                  go_wp2_with fail
                  go_region_held3 (fun w' => Only (fun _ => False) w4 w' ∧ w'.cell? ⟨b, off + k * 3, none⟩ = some (.int .i64 xt) ∧ w'.cell? ⟨b, off + k * 3 + 2, none⟩ = some (.int .i64 xp))
                    ((refine HS4.out _ ?_; first | with_reducible exact Only.refl _ _ | with_reducible exact (Only.refl _ _).drew | with_reducible exact (Only.refl _ _).alloc _ | with_reducible exact ((Only.refl _ _).alloc _).drew | with_reducible exact ((Only.refl _ _).drew).alloc _))
                    (fail)
                  obtain ⟨w5, hw5⟩ : ∃ w5, w5 = (w4.alloc (.cells #[.int .i64 xt, .int .i64 sk, .int .i64 xp] 32)).drew := ⟨_, rfl⟩
                  have HO5 : Hid (Only (fun _ => False) w4 w5) := Lib.hid (by rw [hw5]; exact ((Only.refl _ _).alloc _).drew)
                  have HX5 : Hid ((w5.cell? ⟨w4.heap.size, 0, none⟩ = some (.int .i64 xt) ∧ w5.cell? ⟨w4.heap.size, 1, none⟩ = some (.int .i64 sk) ∧ w5.cell? ⟨w4.heap.size, 2, none⟩ = some (.int .i64 xp)) ∧ w4.heap.size < w5.heap.size) := Lib.hid (by rw [hw5]; exact ⟨⟨alloc_new _ _ _ _ _ _ rfl rfl, alloc_new _ _ _ _ _ _ rfl rfl, alloc_new _ _ _ _ _ _ rfl rfl⟩, by simp⟩)
                  rw [← hw5]
                  go_split_ands
                  clear hw5 e0 e2
                  obtain ⟨⟨f0, f1, f2⟩, _⟩ := HX5.out
                  have HOWN : Hid (∀ w', Only (fun _ => False) w5 w' → w'.ownsRow 0 32 3 (.slice av M.length cv) M.length (lvn M)) := Lib.hid (fun w' ho => HOW4.out.only (HO5.out.trans ho) (fun _ _ f => f))
                  go_wp2_with (at_builtin; refine append_mine rfl _ _ 22 rfl 32 i0 _ 3 24 Try.underlying22 hi hz0 hz1 hz2 rfl (by decide) _ M.length _ rfl (HOWN.out _ (by repeat' (with_reducible first | exact Only.refl _ _ | refine Only.drew ?_ | refine only_drewN ?_ _ | refine Only.alloc ?_ _))) ⟨w5.heap.size, 0, none⟩ 1 1 (encN ⟨xt, sk, xp⟩) rfl ?c1 ?c2 ?c3 ?c4 ?c5 ?_)
                  case c1 => rfl
                  case c2 => exact news_line rfl _
                  case c3 => exact lvn_one [⟨xt, sk, xp⟩]
                  case c4 => unfold maxLen; omega
                  case c5 => omega
                  intro v6 w6 hown hgrow hkk
                  obtain ⟨g, c6, rfl, -, hgl, -, -⟩ := owns_form hown (by omega)
                  have HON : Hid (OwnN w6 (.slice (some ⟨g, 0, none⟩) (M.length + 1) c6) (M ++ [⟨xt, sk, xp⟩])) := Lib.hid (by unfold OwnN; rw [List.length_append, lvn_append]; exact hown)
                  have HLT : Hid (∀ q, (Value.slice av M.length cv).ownBlock = some q → q < w4.heap.size) := Lib.hid (fun q hq => (World.ownsRow.lt HOW4.out q hq).2)
                  have HGB : Hid (w2.heap.size ≤ g ∧ g ≠ w4.heap.size) := Lib.hid (by
                    have h5 := H4.out.size
                    have h6 := HX5.out.2
                    rcases hkk g rfl with e | e
                    · have h7 := HBK.out g e
                      have h8 := HLT.out g e
                      omega
                    · have h9 : w5.heap.size ≤ g := by first | omega | (simp at e; omega)
                      omega)
                  have HBG : Hid (∀ q, (Value.slice (some ⟨g, 0, none⟩) (M.length + 1) c6).ownBlock = some q → w2.heap.size ≤ q) := Lib.hid (fun q e => by
                    have e' : g = q := by simpa [Value.ownBlock] using e
                    have := HGB.out.1
                    omega)
                  have HG6 := Lib.hid (Only.of_grown hgrow)
                  have HO6 : Hid (Only (fun _ => False) w2 w6) := Lib.hid ((H4.out.trans (HO5.out.trans (by repeat' (with_reducible first | exact Only.refl _ _ | refine Only.drew ?_ | refine only_drewN ?_ _ | refine Only.alloc ?_ _)))).then HG6.out (fun q hq e => by have := HBK.out q e; omega))
                  have HX6 : Hid (w6.cell? ⟨w4.heap.size, 0, none⟩ = some (.int .i64 xt) ∧ w6.cell? ⟨w4.heap.size, 1, none⟩ = some (.int .i64 sk) ∧ w6.cell? ⟨w4.heap.size, 2, none⟩ = some (.int .i64 xp)) := Lib.hid (by
                    have ho : Only (fun _ => False) w5 _ := (Only.refl (fun _ => False) w5).alloc (.cells #[.int .i64 xt, .int .i64 sk, .int .i64 xp] 32)
                    have hne : ¬ (Value.slice av M.length cv).ownBlock = some w4.heap.size := fun e => by have := HLT.out _ e; omega
                    exact ⟨HG6.out.cell' (ho.cell' f0 (fun f => f)) hne, HG6.out.cell' (ho.cell' f1 (fun f => f)) hne, HG6.out.cell' (ho.cell' f2 (fun f => f)) hne⟩)
                  clear hown hgrow hkk f0 f1 f2 HG6 HOWN HX5
                  have hxeq : Hid (lk ⟨xt, sk, xp⟩ ⟨xt, xb, xp⟩) := Lib.hid ⟨rfl, rfl⟩
                  have HML : Hid (M.length ≤ 20000) := Lib.hid HAR.out.1
                  have HFIN : Hid (∀ (A B : List Ln) (wz : World), A ++ B = M → (∀ y ∈ B, ltN ⟨xt, sk, xp⟩ y) → (A = [] ∨ ∃ z, A.getLast? = some z ∧ ¬ ltN ⟨xt, sk, xp⟩ z) → Only (fun q => q = g) w6 wz → Hid (UptoOf S (k + 1) (A ++ ⟨xt, sk, xp⟩ :: B)) ∧ Hid (Only (fun _ => False) w2 wz) ∧ (A ++ (⟨xt, sk, xp⟩ : Ln) :: B).length ≤ k + 1) := Lib.hid (fun A B wz hAB hLB hLA hO => ⟨Lib.hid (HPT.out A B ⟨xt, sk, xp⟩ hAB (by rw [hAB]; exact HU.out) hxeq.out HFK.out hsk.out.symm HII.out hLB hLA), Lib.hid (HO6.out.then hO (fun q hq e => by have e' : q = g := e; have := HGB.out.1; omega)), by rw [List.length_append, List.length_cons, ← Nat.add_assoc, ← List.length_append, hAB]; exact HAR.out.2.2.1⟩)
                  clear HAI HAL HRS HC HFS HLS HSK HF0 HL0 HO HOX HOA HOB HOW HOW4 HXI HXM HS4 HLT HO5 H4 HBK hn1 hn2 hx0 hx1 hx2 hj hy0 hy1 hy2 hi hz0 hz1 hz2 HPT HFK HII HO6 hxeq HU hsk
                  go_wp2_with fail
                  go_loopw [15] (fun tv wz => ∃ (t : Nat) (A B : List Ln), tv = .int .i64 t ∧ A.length = t ∧ Hid (A ++ B = M) ∧ Hid (OwnN wz (.slice (some ⟨g, 0, none⟩) (M.length + 1) c6) (A ++ ⟨xt, sk, xp⟩ :: B)) ∧ Hid (∀ y ∈ B, ltN ⟨xt, sk, xp⟩ y) ∧ Hid (Only (fun q => q = g) w6 wz)) (fun tv _ => (intOf tv).toNat)
                  case atStart => exact ⟨M.length, M, [], rfl, rfl, Lib.hid (by simp), HON, Lib.hid (fun y hy => by cases hy), Lib.hid (Only.refl _ _)⟩
                  case round =>
                    clear HON
                    obtain ⟨t, A, B, rfl, hAl, HAB, HON, HLB, HOZ⟩ := hrel
                    have HAL2 := Lib.hid hAl
                    have HTM : Hid (t ≤ M.length) := Lib.hid (by have h5 := HAB.out; rw [← h5, List.length_append]; omega)
                    clear hAl
                    have hgne : ¬ (w4.heap.size = g) := fun e => HGB.out.2 e.symm
                    obtain ⟨b0, b1, b2⟩ := HX6.out
                    replace b0 := HOZ.out.cell' b0 hgne
                    replace b1 := HOZ.out.cell' b1 hgne
                    replace b2 := HOZ.out.cell' b2 hgne
                    by_cases h0 : t = 0
                    · as_aux_lemma =>
                        subst h0
                        have hA0 : A = [] := List.eq_nil_of_length_eq_zero HAL2.out
                        have HEX : Hid (∀ n : Nat, _) := Lib.hid (fun n : Nat => HFIN.out A B (wr.drewN n) HAB.out HLB.out (.inl hA0) (only_drewN HOZ.out _))
                        have HOXX : Hid (∀ n : Nat, OwnN (wr.drewN n) (.slice (some ⟨g, 0, none⟩) (M.length + 1) c6) (A ++ ⟨xt, sk, xp⟩ :: B)) := Lib.hid (fun n : Nat => HON.out.only (S := fun _ => False) (only_drewN (Only.refl _ _) _) (fun _ _ f => f))
                        clear hA0 HFIN HON HOZ HLB HAB
                        go_wp2_with fail
                        go_quiet (fail)
                        obtain ⟨HUN, HOW9, hlm⟩ := HEX.out nq
                        have HOX9 := Lib.hid (HOXX.out nq)
                        have hlm := Lib.hid hlm
                        go_wp2_with fail
                        go_roundw
                        case rel => exact ⟨k + 1, _, .slice (some ⟨g, 0, none⟩) (M.length + 1) c6, HAR.out.2.1, by go_num, rfl, hlm.out, HUN, HOX9, HBG, HOW9⟩
                        case measure => (simp [intOf]; first | exact ms_ar HAR.out.2.2.2 | exact HAR.out.2.2.2 | omega)
                    · obtain ⟨a, rfl⟩ : ∃ a, t = a + 1 := ⟨t - 1, by omega⟩
                      rcases split_last A with rfl | ⟨A', y, rfl⟩
                      · have := HAL2.out; simp at this
                      · have hal : A'.length = a := by have h5 := HAL2.out; rw [List.length_append] at h5; simpa using h5
                        have ha : A' ++ [y] ++ (⟨xt, sk, xp⟩ : Ln) :: B = A' ++ y :: ⟨xt, sk, xp⟩ :: B := by simp
                        have HB' : Hid (A' ++ (y :: B) = M) := Lib.hid (by rw [← HAB.out]; simp)
                        have hon := HON.out
                        rw [ha] at hon
                        have hln : (A' ++ y :: (⟨xt, sk, xp⟩ : Ln) :: B).length = M.length + 1 := by rw [← HB'.out]; simp only [List.length_append, List.length_cons]; omega
                        have hg1 : (A' ++ y :: (⟨xt, sk, xp⟩ : Ln) :: B).getD a default = y := by rw [← hal]; simp [List.getD]
                        obtain ⟨⟨m1, m2⟩, m3, m4, m5, m6, m7, m8⟩ := ins_ar HTM.out HML.out
                        obtain ⟨⟨d0, d1, d2⟩, -, -, -⟩ := own_cell hon a hln.symm m7
                        rw [hg1] at d0 d1 d2
                        have HON1 := Lib.hid hon
                        have HLN1 := Lib.hid hln
                        have HALN := Lib.hid hal
                        clear hon ha hg1 hal hln m7 m8 HON h0
                        obtain ⟨yt, yb, yp⟩ := y
                        dsimp only at d0 d1 d2
                        by_cases hlt : ltN ⟨xt, sk, xp⟩ ⟨yt, yb, yp⟩
                        · have HLB2 : Hid (∀ z ∈ (⟨yt, yb, yp⟩ : Ln) :: B, ltN ⟨xt, sk, xp⟩ z) := Lib.hid (fun z hz => by
                            rcases List.mem_cons.1 hz with rfl | hz
                            · exact hlt
                            · exact HLB.out z hz)
                          clear HLB HAB HAL2
                          by_cases hc : xt < yt
                          · clear hlt
                            as_aux_lemma =>
                              go_wp2_with fail
                              go_quiet (fail)
                              go_upto_region 25 with fail
                              obtain ⟨wz, hwz⟩ : ∃ x, x = wr.drewN nq := ⟨_, rfl⟩
                              rw [← hwz]
                              have HZR : Hid (Only (fun _ => False) wr wz) := Lib.hid (by rw [hwz]; exact only_drewN (Only.refl _ _) _)
                              clear hwz d0 d1 d2
                              have HRW : Hid (∀ w', Only (fun _ => False) wz w' → OwnN w' (.slice (some ⟨g, 0, none⟩) (A' ++ (⟨yt, yb, yp⟩ : Ln) :: (⟨xt, sk, xp⟩ : Ln) :: B).length c6) (A' ++ (⟨yt, yb, yp⟩ : Ln) :: (⟨xt, sk, xp⟩ : Ln) :: B)) := Lib.hid (fun w' h => by rw [HLN1.out]; exact HON1.out.only (HZR.out.trans h) (fun _ _ f => f))
                              have HXC : Hid (∀ w', Only (fun q => q = g) wz w' → w'.cell? ⟨w4.heap.size, 0, none⟩ = some (.int .i64 xt) ∧ w'.cell? ⟨w4.heap.size, 1, none⟩ = some (.int .i64 sk) ∧ w'.cell? ⟨w4.heap.size, 2, none⟩ = some (.int .i64 xp)) := Lib.hid (fun w' h => ⟨h.cell' (HZR.out.cell' b0 (fun f => f)) hgne, h.cell' (HZR.out.cell' b1 (fun f => f)) hgne, h.cell' (HZR.out.cell' b2 (fun f => f)) hgne⟩)
                              have HGA : Hid ((A' ++ (⟨yt, yb, yp⟩ : Ln) :: (⟨xt, sk, xp⟩ : Ln) :: B).getD a default = ⟨yt, yb, yp⟩) := Lib.hid (by rw [← HALN.out]; simp [List.getD])
                              obtain ⟨-, -, -, -, m7, m8⟩ := (ins_ar HTM.out HML.out).2
                              have HM : Hid (a < (A' ++ (⟨yt, yb, yp⟩ : Ln) :: (⟨xt, sk, xp⟩ : Ln) :: B).length ∧ a + 1 < (A' ++ (⟨yt, yb, yp⟩ : Ln) :: (⟨xt, sk, xp⟩ : Ln) :: B).length) := Lib.hid (by rw [HLN1.out]; exact ⟨m7, m8⟩)
                              have HSL : Hid (∀ w', Only (fun _ => False) wz w' → w'.cell? ⟨w4.heap.size, 0, none⟩ = some (.int .i64 xt) ∧ w'.cell? ⟨w4.heap.size, 1, none⟩ = some (.int .i64 sk) ∧ w'.cell? ⟨w4.heap.size, 2, none⟩ = some (.int .i64 xp) ∧ w'.cell? ⟨g, a * 3, none⟩ = some (.int .i64 yt) ∧ w'.cell? ⟨g, a * 3 + 1, none⟩ = some (.int .i64 yb) ∧ w'.cell? ⟨g, a * 3 + 2, none⟩ = some (.int .i64 yp)) := Lib.hid (fun w' h => by
                                obtain ⟨x0, x1, x2⟩ := HXC.out w' (h.mono (fun _ _ f => f.elim))
                                obtain ⟨⟨y0, y1, y2⟩, -, -, -⟩ := own_cell (HRW.out w' h) a rfl HM.out.1
                                rw [HGA.out] at y0 y1 y2
                                exact ⟨x0, x1, x2, y0, y1, y2⟩)
                              have m9 : (0 : Int) ≤ (a : Int) + 1 := Int.le_of_lt m6
                              have HZR2 := HZR
                              clear b0 b1 b2 m7 m8 HZR
                              refine wp_region_noPanic ?_
                              refine late.region (fun w' => w'.cell? ⟨w4.heap.size, 0, none⟩ = some (.int .i64 xt) ∧ w'.cell? ⟨w4.heap.size, 1, none⟩ = some (.int .i64 sk) ∧ w'.cell? ⟨w4.heap.size, 2, none⟩ = some (.int .i64 xp) ∧ w'.cell? ⟨g, a * 3, none⟩ = some (.int .i64 yt) ∧ w'.cell? ⟨g, a * 3 + 1, none⟩ = some (.int .i64 yb) ∧ w'.cell? ⟨g, a * 3 + 2, none⟩ = some (.int .i64 yp)) (fun j => [14].contains j) (by kernel_rfl) (HSL.out _ (Only.refl _ _).drew) (fun hHeld => ?_)
                              obtain ⟨z0, hz0⟩ : ∃ x, x = wz.drew := ⟨_, rfl⟩
                              rw [← hz0] at hHeld ⊢
                              have hot : Hid (Only (fun _ => False) wz z0) := Lib.hid (by rw [hz0]; exact (Only.refl _ _).drew)
                              have HZ0 : Hid (Only (fun q => q = g) wz z0) := Lib.hid (hot.out.mono (fun _ _ f => f.elim))
                              clear hz0
                              have HSWD := Lib.hid (own_swap HLN1.out.symm (by have h := HRW.out _ hot.out; rw [HLN1.out] at h; exact h))
                              obtain ⟨⟨u0, u1, u2⟩, s0, s1, s2⟩ := own_cell (HRW.out _ hot.out) (a + 1) rfl HM.out.2
                              refine late.take (i := 0) [11, 12, 13, 14] (v := ?_) rfl (by kernel_rfl) (by kernel_rfl) (by kernel_rfl) (by kernel_rfl) (fun _ _ _ h => h) (Or.inl ⟨by rfl, ?_⟩) (by assumption) ?_
                              rotate_left 1
                              · intro w' hSw
                                try dsimp only at hSw
                                go_simp
                                try with_reducible rfl
                              try simp only [List.getElem_toArray, List.getElem_cons_zero, Act.put, List.setIfInBounds_toArray, List.set_cons_zero, List.set_cons_succ]
                              refine late.take (i := 1) [11, 12, 13, 14] (v := ?_) rfl (by kernel_rfl) (by kernel_rfl) (by kernel_rfl) (by kernel_rfl) (fun _ _ _ h => h) (Or.inl ⟨by rfl, ?_⟩) (by assumption) ?_
                              rotate_left 1
                              · intro w' hSw
                                try dsimp only at hSw
                                go_simp
                                try with_reducible rfl
                              try simp only [List.getElem_toArray, List.getElem_cons_zero, List.getElem_cons_succ, Act.put, List.setIfInBounds_toArray, List.set_cons_zero, List.set_cons_succ]
                              refine late.take (i := 2) [13, 14] (v := ?_) rfl (by kernel_rfl) (by kernel_rfl) (by kernel_rfl) (by kernel_rfl) (fun _ _ _ h => h) (Or.inl ⟨by rfl, ?_⟩) (by assumption) ?_
                              rotate_left 1
                              · intro w' hSw
                                try dsimp only at hSw
                                go_simp
                                try with_reducible rfl
                              try simp only [List.getElem_toArray, List.getElem_cons_zero, List.getElem_cons_succ, Act.put, List.setIfInBounds_toArray, List.set_cons_zero, List.set_cons_succ]
                              refine late.take (i := 3) [4, 13, 14] (v := ?_) rfl (by kernel_rfl) (by kernel_rfl) (by kernel_rfl) (by kernel_rfl) (fun _ _ _ h => h) (Or.inl ⟨by rfl, ?_⟩) (by assumption) ?_
                              rotate_left 1
                              · intro w' hSw
                                try dsimp only at hSw
                                go_simp
                                try with_reducible rfl
                              try simp only [List.getElem_toArray, List.getElem_cons_zero, List.getElem_cons_succ, Act.put, List.setIfInBounds_toArray, List.set_cons_zero, List.set_cons_succ]
                              refine late.take (i := 4) [13, 14] (v := ?_) rfl (by kernel_rfl) (by kernel_rfl) (by kernel_rfl) (by kernel_rfl) (fun _ _ _ h => h) (Or.inl ⟨by rfl, ?_⟩) (by assumption) ?_
                              rotate_left 1
                              · intro w' hSw
                                try dsimp only at hSw
                                go_simp
                                try with_reducible rfl
                              try simp only [List.getElem_toArray, List.getElem_cons_zero, List.getElem_cons_succ, Act.put, List.setIfInBounds_toArray, List.set_cons_zero, List.set_cons_succ]
                              refine late.take (i := 5) [8, 9, 11, 12, 13, 14] (v := ?_) rfl (by kernel_rfl) (by kernel_rfl) (by kernel_rfl) (by kernel_rfl) (fun _ _ _ h => h) (Or.inl ⟨by rfl, ?_⟩) (by assumption) ?_
                              rotate_left 1
                              · intro w' hSw
                                try dsimp only at hSw
                                go_simp
                                try with_reducible rfl
                              try simp only [List.getElem_toArray, List.getElem_cons_zero, List.getElem_cons_succ, Act.put, List.setIfInBounds_toArray, List.set_cons_zero, List.set_cons_succ]
                              refine late.take (i := 6) [7, 8, 9, 11, 12, 13, 14] (v := ?_) rfl (by kernel_rfl) (by kernel_rfl) (by kernel_rfl) (by kernel_rfl) (fun _ _ _ h => h) (Or.inl ⟨by rfl, ?_⟩) (by assumption) ?_
                              rotate_left 1
                              · intro w' hSw
                                try dsimp only at hSw
                                go_simp
                                try with_reducible rfl
                              try simp only [List.getElem_toArray, List.getElem_cons_zero, List.getElem_cons_succ, Act.put, List.setIfInBounds_toArray, List.set_cons_zero, List.set_cons_succ]
                              refine late.take (i := 7) [8, 9, 11, 12, 13, 14] (v := ?_) rfl (by kernel_rfl) (by kernel_rfl) (by kernel_rfl) (by kernel_rfl) (fun _ _ _ h => h) (Or.inl ⟨by rfl, ?_⟩) (by assumption) ?_
                              rotate_left 1
                              · intro w' hSw
                                try dsimp only at hSw
                                go_simp
                                try with_reducible rfl
                              try simp only [List.getElem_toArray, List.getElem_cons_zero, List.getElem_cons_succ, Act.put, List.setIfInBounds_toArray, List.set_cons_zero, List.set_cons_succ]
                              refine late.take (i := 8) [9, 11, 12, 13, 14] (v := ?_) rfl (by kernel_rfl) (by kernel_rfl) (by kernel_rfl) (by kernel_rfl) (fun _ _ _ h => h) (Or.inl ⟨by rfl, ?_⟩) (by assumption) ?_
                              rotate_left 1
                              · intro w' hSw
                                try dsimp only at hSw
                                go_simp
                                try with_reducible rfl
                              try simp only [List.getElem_toArray, List.getElem_cons_zero, List.getElem_cons_succ, Act.put, List.setIfInBounds_toArray, List.set_cons_zero, List.set_cons_succ]
                              refine late.take (i := 9) [11, 12, 13, 14] (v := ?_) rfl (by kernel_rfl) (by kernel_rfl) (by kernel_rfl) (by kernel_rfl) (fun _ _ _ h => h) (Or.inl ⟨by rfl, ?_⟩) (by assumption) ?_
                              rotate_left 1
                              · intro w' hSw
                                try dsimp only at hSw
                                go_simp
                                try with_reducible rfl
                              try simp only [List.getElem_toArray, List.getElem_cons_zero, List.getElem_cons_succ, Act.put, List.setIfInBounds_toArray, List.set_cons_zero, List.set_cons_succ]
                              refine late.take (i := 10) [13, 14] (v := ?_) rfl (by kernel_rfl) (by kernel_rfl) (by kernel_rfl) (by kernel_rfl) (fun _ _ _ h => h) (Or.inl ⟨by rfl, ?_⟩) (by assumption) ?_
                              rotate_left 1
                              · intro w' hSw
                                try dsimp only at hSw
                                go_simp
                                try with_reducible rfl
                              try simp only [List.getElem_toArray, List.getElem_cons_zero, List.getElem_cons_succ, Act.put, List.setIfInBounds_toArray, List.set_cons_zero, List.set_cons_succ]
                              refine late.take (i := 11) [12, 13, 14] (v := ?_) rfl (by kernel_rfl) (by kernel_rfl) (by kernel_rfl) (by kernel_rfl) (fun _ _ _ h => h) (Or.inl ⟨by rfl, ?_⟩) (by assumption) ?_
                              rotate_left 1
                              · intro w' hSw
                                try dsimp only at hSw
                                go_simp
                                try with_reducible rfl
                              try simp only [List.getElem_toArray, List.getElem_cons_zero, List.getElem_cons_succ, Act.put, List.setIfInBounds_toArray, List.set_cons_zero, List.set_cons_succ]
                              refine late.ready (rs := [12]) (by kernel_rfl) (by simp) ?_
                              refine late.Each.cons rfl (fun K hK => ?_) late.Each.nil
                              try simp only [List.getElem_toArray, List.getElem_cons_zero, List.getElem_cons_succ]
                              go_simp
                              obtain ⟨W9, hW9⟩ : ∃ W, W = put3 z0 g (a + 1) ⟨yt, yb, yp⟩ := ⟨_, rfl⟩
                              have hw9 := hW9
                              unfold put3 at hw9
                              dsimp only at hw9
                              rw [← hw9]
                              clear hw9
                              have HA9 := Lib.hid (own_put (HRW.out _ hot.out) (a + 1) (⟨yt, yb, yp⟩ : Ln) HM.out.2)
                              rw [← hW9] at HA9
                              have HW9 := Lib.hid hW9
                              clear hW9
                              have hot9 : Hid (Only (fun q => q = g) wz W9) := Lib.hid ((hot.out.mono (fun _ _ f => f.elim)).trans HA9.out.2)
                              clear u0 u1 u2 s0 s1 s2
                              have hg9 : ((A' ++ (⟨yt, yb, yp⟩ : Ln) :: (⟨xt, sk, xp⟩ : Ln) :: B).set (a + 1) (⟨yt, yb, yp⟩ : Ln)).getD a default = ⟨yt, yb, yp⟩ := by
                                have h5 := HGA.out
                                simp only [List.getD] at h5 ⊢
                                rw [List.getElem?_set_ne (by omega)]
                                exact h5
                              obtain ⟨⟨d0, d1, d2⟩, r0, r1, r2⟩ := own_cell HA9.out.1 a (by rw [List.length_set]) HM.out.1
                              rw [hg9] at d0 d1 d2
                              dsimp only at d0 d1 d2
                              clear hg9
                              obtain ⟨b0, b1, b2⟩ := HXC.out W9 hot9.out
                              refine hK.out _ _ (fun _ => ⟨b0, b1, b2, d0, d1, d2⟩) (fun hHeld1 => ?_)
                              replace hHeld1 := hHeld1 rfl
                              clear hK K
                              clear hHeld hot HSL
                              try simp only [List.getElem_toArray, List.getElem_cons_zero, List.getElem_cons_succ, Act.put, List.setIfInBounds_toArray, List.set_cons_zero, List.set_cons_succ]
                              refine late.take (i := 13) [14] (v := ?_) rfl (by kernel_rfl) (by kernel_rfl) (by kernel_rfl) (by kernel_rfl) (fun _ _ _ h => h) (Or.inl ⟨by rfl, ?_⟩) (by assumption) ?_
                              rotate_left 1
                              · intro w' hSw
                                try dsimp only at hSw
                                go_simp
                                try with_reducible rfl
                              try simp only [List.getElem_toArray, List.getElem_cons_zero, List.getElem_cons_succ, Act.put, List.setIfInBounds_toArray, List.set_cons_zero, List.set_cons_succ]
                              refine late.ready (rs := [14]) (by kernel_rfl) (by simp) ?_
                              refine late.Each.cons rfl (fun K hK => ?_) late.Each.nil
                              try simp only [List.getElem_toArray, List.getElem_cons_zero, List.getElem_cons_succ]
                              go_simp
                              obtain ⟨W10, hW10⟩ : ∃ W, W = put3 W9 g a ⟨xt, sk, xp⟩ := ⟨_, rfl⟩
                              have hw10 := hW10
                              unfold put3 at hw10
                              dsimp only at hw10
                              rw [← hw10]
                              clear hw10
                              have HSX := HSWD.out
                              rw [HALN.out, ← HW9.out, ← hW10] at HSX
                              have hot10 : Hid (Only (fun q => q = g) wz W10) := Lib.hid (HZ0.out.trans HSX.2)
                              have HNX := Lib.hid HSX.1
                              clear HSX hW10 d0 d1 d2 r0 r1 r2 b0 b1 b2
                              refine hK.out _ _ (fun h => by cases h) (fun _ => ?_)
                              clear hK K
                              try simp only [List.getElem_toArray, List.getElem_cons_zero, List.getElem_cons_succ, Act.put, List.setIfInBounds_toArray, List.set_cons_zero, List.set_cons_succ]
                              refine late.done (by kernel_rfl) ?_ _
                              refine NoPanic.normal ?_
                              go_wp2_with fail
                              go_roundw
                              case rel => exact ⟨a, A', (⟨yt, yb, yp⟩ : Ln) :: B, by go_num, HALN.out, HB', HNX, HLB2, Lib.hid (HOZ.out.trans ((HZR2.out.mono (fun _ _ f => f.elim)).trans hot10.out))⟩
                              case measure => (simp [intOf])
                          · obtain ⟨hc2, hc3⟩ := ins_eq hlt hc
                            subst hc2
                            clear hlt hc
                            as_aux_lemma =>
                              go_wp2_with fail
                              go_quiet (fail)
                              go_upto_region 25 with fail
                              obtain ⟨wz, hwz⟩ : ∃ x, x = wr.drewN nq := ⟨_, rfl⟩
                              rw [← hwz]
                              have HZR : Hid (Only (fun _ => False) wr wz) := Lib.hid (by rw [hwz]; exact only_drewN (Only.refl _ _) _)
                              clear hwz d0 d1 d2
                              have HRW : Hid (∀ w', Only (fun _ => False) wz w' → OwnN w' (.slice (some ⟨g, 0, none⟩) (A' ++ (⟨yt, yb, yp⟩ : Ln) :: (⟨yt, sk, xp⟩ : Ln) :: B).length c6) (A' ++ (⟨yt, yb, yp⟩ : Ln) :: (⟨yt, sk, xp⟩ : Ln) :: B)) := Lib.hid (fun w' h => by rw [HLN1.out]; exact HON1.out.only (HZR.out.trans h) (fun _ _ f => f))
                              have HXC : Hid (∀ w', Only (fun q => q = g) wz w' → w'.cell? ⟨w4.heap.size, 0, none⟩ = some (.int .i64 yt) ∧ w'.cell? ⟨w4.heap.size, 1, none⟩ = some (.int .i64 sk) ∧ w'.cell? ⟨w4.heap.size, 2, none⟩ = some (.int .i64 xp)) := Lib.hid (fun w' h => ⟨h.cell' (HZR.out.cell' b0 (fun f => f)) hgne, h.cell' (HZR.out.cell' b1 (fun f => f)) hgne, h.cell' (HZR.out.cell' b2 (fun f => f)) hgne⟩)
                              have HGA : Hid ((A' ++ (⟨yt, yb, yp⟩ : Ln) :: (⟨yt, sk, xp⟩ : Ln) :: B).getD a default = ⟨yt, yb, yp⟩) := Lib.hid (by rw [← HALN.out]; simp [List.getD])
                              obtain ⟨-, -, -, -, m7, m8⟩ := (ins_ar HTM.out HML.out).2
                              have HM : Hid (a < (A' ++ (⟨yt, yb, yp⟩ : Ln) :: (⟨yt, sk, xp⟩ : Ln) :: B).length ∧ a + 1 < (A' ++ (⟨yt, yb, yp⟩ : Ln) :: (⟨yt, sk, xp⟩ : Ln) :: B).length) := Lib.hid (by rw [HLN1.out]; exact ⟨m7, m8⟩)
                              have HSL : Hid (∀ w', Only (fun _ => False) wz w' → w'.cell? ⟨w4.heap.size, 0, none⟩ = some (.int .i64 yt) ∧ w'.cell? ⟨w4.heap.size, 1, none⟩ = some (.int .i64 sk) ∧ w'.cell? ⟨w4.heap.size, 2, none⟩ = some (.int .i64 xp) ∧ w'.cell? ⟨g, a * 3, none⟩ = some (.int .i64 yt) ∧ w'.cell? ⟨g, a * 3 + 1, none⟩ = some (.int .i64 yb) ∧ w'.cell? ⟨g, a * 3 + 2, none⟩ = some (.int .i64 yp)) := Lib.hid (fun w' h => by
                                obtain ⟨x0, x1, x2⟩ := HXC.out w' (h.mono (fun _ _ f => f.elim))
                                obtain ⟨⟨y0, y1, y2⟩, -, -, -⟩ := own_cell (HRW.out w' h) a rfl HM.out.1
                                rw [HGA.out] at y0 y1 y2
                                exact ⟨x0, x1, x2, y0, y1, y2⟩)
                              have m9 : (0 : Int) ≤ (a : Int) + 1 := Int.le_of_lt m6
                              have HZR2 := HZR
                              clear b0 b1 b2 m7 m8 HZR
                              refine wp_region_noPanic ?_
                              refine late.region (fun w' => w'.cell? ⟨w4.heap.size, 0, none⟩ = some (.int .i64 yt) ∧ w'.cell? ⟨w4.heap.size, 1, none⟩ = some (.int .i64 sk) ∧ w'.cell? ⟨w4.heap.size, 2, none⟩ = some (.int .i64 xp) ∧ w'.cell? ⟨g, a * 3, none⟩ = some (.int .i64 yt) ∧ w'.cell? ⟨g, a * 3 + 1, none⟩ = some (.int .i64 yb) ∧ w'.cell? ⟨g, a * 3 + 2, none⟩ = some (.int .i64 yp)) (fun j => [14].contains j) (by kernel_rfl) (HSL.out _ (Only.refl _ _).drew) (fun hHeld => ?_)
                              obtain ⟨z0, hz0⟩ : ∃ x, x = wz.drew := ⟨_, rfl⟩
                              rw [← hz0] at hHeld ⊢
                              have hot : Hid (Only (fun _ => False) wz z0) := Lib.hid (by rw [hz0]; exact (Only.refl _ _).drew)
                              have HZ0 : Hid (Only (fun q => q = g) wz z0) := Lib.hid (hot.out.mono (fun _ _ f => f.elim))
                              clear hz0
                              have HSWD := Lib.hid (own_swap HLN1.out.symm (by have h := HRW.out _ hot.out; rw [HLN1.out] at h; exact h))
                              obtain ⟨⟨u0, u1, u2⟩, s0, s1, s2⟩ := own_cell (HRW.out _ hot.out) (a + 1) rfl HM.out.2
                              refine late.take (i := 0) [11, 12, 13, 14] (v := ?_) rfl (by kernel_rfl) (by kernel_rfl) (by kernel_rfl) (by kernel_rfl) (fun _ _ _ h => h) (Or.inl ⟨by rfl, ?_⟩) (by assumption) ?_
                              rotate_left 1
                              · intro w' hSw
                                try dsimp only at hSw
                                go_simp
                                try with_reducible rfl
                              try simp only [List.getElem_toArray, List.getElem_cons_zero, Act.put, List.setIfInBounds_toArray, List.set_cons_zero, List.set_cons_succ]
                              refine late.take (i := 1) [11, 12, 13, 14] (v := ?_) rfl (by kernel_rfl) (by kernel_rfl) (by kernel_rfl) (by kernel_rfl) (fun _ _ _ h => h) (Or.inl ⟨by rfl, ?_⟩) (by assumption) ?_
                              rotate_left 1
                              · intro w' hSw
                                try dsimp only at hSw
                                go_simp
                                try with_reducible rfl
                              try simp only [List.getElem_toArray, List.getElem_cons_zero, List.getElem_cons_succ, Act.put, List.setIfInBounds_toArray, List.set_cons_zero, List.set_cons_succ]
                              refine late.take (i := 2) [13, 14] (v := ?_) rfl (by kernel_rfl) (by kernel_rfl) (by kernel_rfl) (by kernel_rfl) (fun _ _ _ h => h) (Or.inl ⟨by rfl, ?_⟩) (by assumption) ?_
                              rotate_left 1
                              · intro w' hSw
                                try dsimp only at hSw
                                go_simp
                                try with_reducible rfl
                              try simp only [List.getElem_toArray, List.getElem_cons_zero, List.getElem_cons_succ, Act.put, List.setIfInBounds_toArray, List.set_cons_zero, List.set_cons_succ]
                              refine late.take (i := 3) [4, 13, 14] (v := ?_) rfl (by kernel_rfl) (by kernel_rfl) (by kernel_rfl) (by kernel_rfl) (fun _ _ _ h => h) (Or.inl ⟨by rfl, ?_⟩) (by assumption) ?_
                              rotate_left 1
                              · intro w' hSw
                                try dsimp only at hSw
                                go_simp
                                try with_reducible rfl
                              try simp only [List.getElem_toArray, List.getElem_cons_zero, List.getElem_cons_succ, Act.put, List.setIfInBounds_toArray, List.set_cons_zero, List.set_cons_succ]
                              refine late.take (i := 4) [13, 14] (v := ?_) rfl (by kernel_rfl) (by kernel_rfl) (by kernel_rfl) (by kernel_rfl) (fun _ _ _ h => h) (Or.inl ⟨by rfl, ?_⟩) (by assumption) ?_
                              rotate_left 1
                              · intro w' hSw
                                try dsimp only at hSw
                                go_simp
                                try with_reducible rfl
                              try simp only [List.getElem_toArray, List.getElem_cons_zero, List.getElem_cons_succ, Act.put, List.setIfInBounds_toArray, List.set_cons_zero, List.set_cons_succ]
                              refine late.take (i := 5) [8, 9, 11, 12, 13, 14] (v := ?_) rfl (by kernel_rfl) (by kernel_rfl) (by kernel_rfl) (by kernel_rfl) (fun _ _ _ h => h) (Or.inl ⟨by rfl, ?_⟩) (by assumption) ?_
                              rotate_left 1
                              · intro w' hSw
                                try dsimp only at hSw
                                go_simp
                                try with_reducible rfl
                              try simp only [List.getElem_toArray, List.getElem_cons_zero, List.getElem_cons_succ, Act.put, List.setIfInBounds_toArray, List.set_cons_zero, List.set_cons_succ]
                              refine late.take (i := 6) [7, 8, 9, 11, 12, 13, 14] (v := ?_) rfl (by kernel_rfl) (by kernel_rfl) (by kernel_rfl) (by kernel_rfl) (fun _ _ _ h => h) (Or.inl ⟨by rfl, ?_⟩) (by assumption) ?_
                              rotate_left 1
                              · intro w' hSw
                                try dsimp only at hSw
                                go_simp
                                try with_reducible rfl
                              try simp only [List.getElem_toArray, List.getElem_cons_zero, List.getElem_cons_succ, Act.put, List.setIfInBounds_toArray, List.set_cons_zero, List.set_cons_succ]
                              refine late.take (i := 7) [8, 9, 11, 12, 13, 14] (v := ?_) rfl (by kernel_rfl) (by kernel_rfl) (by kernel_rfl) (by kernel_rfl) (fun _ _ _ h => h) (Or.inl ⟨by rfl, ?_⟩) (by assumption) ?_
                              rotate_left 1
                              · intro w' hSw
                                try dsimp only at hSw
                                go_simp
                                try with_reducible rfl
                              try simp only [List.getElem_toArray, List.getElem_cons_zero, List.getElem_cons_succ, Act.put, List.setIfInBounds_toArray, List.set_cons_zero, List.set_cons_succ]
                              refine late.take (i := 8) [9, 11, 12, 13, 14] (v := ?_) rfl (by kernel_rfl) (by kernel_rfl) (by kernel_rfl) (by kernel_rfl) (fun _ _ _ h => h) (Or.inl ⟨by rfl, ?_⟩) (by assumption) ?_
                              rotate_left 1
                              · intro w' hSw
                                try dsimp only at hSw
                                go_simp
                                try with_reducible rfl
                              try simp only [List.getElem_toArray, List.getElem_cons_zero, List.getElem_cons_succ, Act.put, List.setIfInBounds_toArray, List.set_cons_zero, List.set_cons_succ]
                              refine late.take (i := 9) [11, 12, 13, 14] (v := ?_) rfl (by kernel_rfl) (by kernel_rfl) (by kernel_rfl) (by kernel_rfl) (fun _ _ _ h => h) (Or.inl ⟨by rfl, ?_⟩) (by assumption) ?_
                              rotate_left 1
                              · intro w' hSw
                                try dsimp only at hSw
                                go_simp
                                try with_reducible rfl
                              try simp only [List.getElem_toArray, List.getElem_cons_zero, List.getElem_cons_succ, Act.put, List.setIfInBounds_toArray, List.set_cons_zero, List.set_cons_succ]
                              refine late.take (i := 10) [13, 14] (v := ?_) rfl (by kernel_rfl) (by kernel_rfl) (by kernel_rfl) (by kernel_rfl) (fun _ _ _ h => h) (Or.inl ⟨by rfl, ?_⟩) (by assumption) ?_
                              rotate_left 1
                              · intro w' hSw
                                try dsimp only at hSw
                                go_simp
                                try with_reducible rfl
                              try simp only [List.getElem_toArray, List.getElem_cons_zero, List.getElem_cons_succ, Act.put, List.setIfInBounds_toArray, List.set_cons_zero, List.set_cons_succ]
                              refine late.take (i := 11) [12, 13, 14] (v := ?_) rfl (by kernel_rfl) (by kernel_rfl) (by kernel_rfl) (by kernel_rfl) (fun _ _ _ h => h) (Or.inl ⟨by rfl, ?_⟩) (by assumption) ?_
                              rotate_left 1
                              · intro w' hSw
                                try dsimp only at hSw
                                go_simp
                                try with_reducible rfl
                              try simp only [List.getElem_toArray, List.getElem_cons_zero, List.getElem_cons_succ, Act.put, List.setIfInBounds_toArray, List.set_cons_zero, List.set_cons_succ]
                              refine late.ready (rs := [12]) (by kernel_rfl) (by simp) ?_
                              refine late.Each.cons rfl (fun K hK => ?_) late.Each.nil
                              try simp only [List.getElem_toArray, List.getElem_cons_zero, List.getElem_cons_succ]
                              go_simp
                              obtain ⟨W9, hW9⟩ : ∃ W, W = put3 z0 g (a + 1) ⟨yt, yb, yp⟩ := ⟨_, rfl⟩
                              have hw9 := hW9
                              unfold put3 at hw9
                              dsimp only at hw9
                              rw [← hw9]
                              clear hw9
                              have HA9 := Lib.hid (own_put (HRW.out _ hot.out) (a + 1) (⟨yt, yb, yp⟩ : Ln) HM.out.2)
                              rw [← hW9] at HA9
                              have HW9 := Lib.hid hW9
                              clear hW9
                              have hot9 : Hid (Only (fun q => q = g) wz W9) := Lib.hid ((hot.out.mono (fun _ _ f => f.elim)).trans HA9.out.2)
                              clear u0 u1 u2 s0 s1 s2
                              have hg9 : ((A' ++ (⟨yt, yb, yp⟩ : Ln) :: (⟨yt, sk, xp⟩ : Ln) :: B).set (a + 1) (⟨yt, yb, yp⟩ : Ln)).getD a default = ⟨yt, yb, yp⟩ := by
                                have h5 := HGA.out
                                simp only [List.getD] at h5 ⊢
                                rw [List.getElem?_set_ne (by omega)]
                                exact h5
                              obtain ⟨⟨d0, d1, d2⟩, r0, r1, r2⟩ := own_cell HA9.out.1 a (by rw [List.length_set]) HM.out.1
                              rw [hg9] at d0 d1 d2
                              dsimp only at d0 d1 d2
                              clear hg9
                              obtain ⟨b0, b1, b2⟩ := HXC.out W9 hot9.out
                              refine hK.out _ _ (fun _ => ⟨b0, b1, b2, d0, d1, d2⟩) (fun hHeld1 => ?_)
                              replace hHeld1 := hHeld1 rfl
                              clear hK K
                              clear hHeld hot HSL
                              try simp only [List.getElem_toArray, List.getElem_cons_zero, List.getElem_cons_succ, Act.put, List.setIfInBounds_toArray, List.set_cons_zero, List.set_cons_succ]
                              refine late.take (i := 13) [14] (v := ?_) rfl (by kernel_rfl) (by kernel_rfl) (by kernel_rfl) (by kernel_rfl) (fun _ _ _ h => h) (Or.inl ⟨by rfl, ?_⟩) (by assumption) ?_
                              rotate_left 1
                              · intro w' hSw
                                try dsimp only at hSw
                                go_simp
                                try with_reducible rfl
                              try simp only [List.getElem_toArray, List.getElem_cons_zero, List.getElem_cons_succ, Act.put, List.setIfInBounds_toArray, List.set_cons_zero, List.set_cons_succ]
                              refine late.ready (rs := [14]) (by kernel_rfl) (by simp) ?_
                              refine late.Each.cons rfl (fun K hK => ?_) late.Each.nil
                              try simp only [List.getElem_toArray, List.getElem_cons_zero, List.getElem_cons_succ]
                              go_simp
                              obtain ⟨W10, hW10⟩ : ∃ W, W = put3 W9 g a ⟨yt, sk, xp⟩ := ⟨_, rfl⟩
                              have hw10 := hW10
                              unfold put3 at hw10
                              dsimp only at hw10
                              rw [← hw10]
                              clear hw10
                              have HSX := HSWD.out
                              rw [HALN.out, ← HW9.out, ← hW10] at HSX
                              have hot10 : Hid (Only (fun q => q = g) wz W10) := Lib.hid (HZ0.out.trans HSX.2)
                              have HNX := Lib.hid HSX.1
                              clear HSX hW10 d0 d1 d2 r0 r1 r2 b0 b1 b2
                              refine hK.out _ _ (fun h => by cases h) (fun _ => ?_)
                              clear hK K
                              try simp only [List.getElem_toArray, List.getElem_cons_zero, List.getElem_cons_succ, Act.put, List.setIfInBounds_toArray, List.set_cons_zero, List.set_cons_succ]
                              refine late.done (by kernel_rfl) ?_ _
                              refine NoPanic.normal ?_
                              go_wp2_with fail
                              go_roundw
                              case rel => exact ⟨a, A', (⟨yt, yb, yp⟩ : Ln) :: B, by go_num, HALN.out, HB', HNX, HLB2, Lib.hid (HOZ.out.trans ((HZR2.out.mono (fun _ _ f => f.elim)).trans hot10.out))⟩
                              case measure => (simp [intOf])
                        · have HLA : Hid (A' ++ [(⟨yt, yb, yp⟩ : Ln)] = [] ∨ ∃ z, (A' ++ [(⟨yt, yb, yp⟩ : Ln)]).getLast? = some z ∧ ¬ ltN ⟨xt, sk, xp⟩ z) := Lib.hid (.inr ⟨_, by simp, hlt⟩)
                          have hq : ¬ xt < yt ∧ (¬ yt = xt ∨ ¬ xp < yp) := ins_no hlt
                          have HON2 : Hid (OwnN wr (.slice (some ⟨g, 0, none⟩) (M.length + 1) c6) (A' ++ [(⟨yt, yb, yp⟩ : Ln)] ++ ⟨xt, sk, xp⟩ :: B)) := Lib.hid (by have h5 := HON1.out; simpa using h5)
                          have HEX : Hid (∀ n : Nat, _) := Lib.hid (fun n : Nat => HFIN.out _ B (wr.drewN n) HAB.out HLB.out HLA.out (only_drewN HOZ.out _))
                          have HOXX : Hid (∀ n : Nat, OwnN (wr.drewN n) (.slice (some ⟨g, 0, none⟩) (M.length + 1) c6) (A' ++ [(⟨yt, yb, yp⟩ : Ln)] ++ ⟨xt, sk, xp⟩ :: B)) := Lib.hid (fun n : Nat => HON2.out.only (S := fun _ => False) (only_drewN (Only.refl _ _) _) (fun _ _ f => f))
                          obtain ⟨q1, q2⟩ := hq
                          clear hlt HON1 HLN1 HALN HAL2 HB' HFIN HLA HON2 HLB HAB HOZ
                          by_cases hc : yt = xt
                          · have q3 : ¬ xp < yp := q2.resolve_left (fun e => e hc)
                            subst hc
                            clear q2
                            as_aux_lemma =>
                              go_wp2_with fail
                              go_quiet (fail)
                              obtain ⟨HUN, HOW9, hlm⟩ := HEX.out nq
                              have HOX9 := Lib.hid (HOXX.out nq)
                              have hlm := Lib.hid hlm
                              go_wp2_with fail
                              go_roundw
                              case rel => exact ⟨k + 1, _, .slice (some ⟨g, 0, none⟩) (M.length + 1) c6, HAR.out.2.1, by go_num, rfl, hlm.out, HUN, HOX9, HBG, HOW9⟩
                              case measure => (simp [intOf]; first | exact ms_ar HAR.out.2.2.2 | exact HAR.out.2.2.2 | omega)
                          · have n1' := (ne_facts hc).1
                            clear q2 hc
                            as_aux_lemma =>
                              go_wp2_with fail
                              have q1F : decide (xt < yt) = false := decide_eq_false (by omega)
                              have q1G : (xt < yt) = False := eq_false (by omega)
                              clear q1
                              go_quiet (fail)
                              obtain ⟨HUN, HOW9, hlm⟩ := HEX.out nq
                              have HOX9 := Lib.hid (HOXX.out nq)
                              have hlm := Lib.hid hlm
                              go_wp2_with fail
                              go_roundw
                              case rel => exact ⟨k + 1, _, .slice (some ⟨g, 0, none⟩) (M.length + 1) c6, HAR.out.2.1, by go_num, rfl, hlm.out, HUN, HOX9, HBG, HOW9⟩
                              case measure => (simp [intOf]; first | exact ms_ar HAR.out.2.2.2 | exact HAR.out.2.2.2 | omega)
    · obtain rfl : i = S.length := by omega
      obtain ⟨ax, cx, hvx, hrx, _⟩ := own_readsN HOW.out
      have HM2 := HU.out.merge
      have HOK : okM S := UptoOf.ok HU.out
      have e1 : av = ax := by injection hvx
      rw [← e1] at hrx
      have HF : Hid (MergedAt S w (.returned (.tuple #[.slice av M.length cv, .bool true])) wr) := Lib.hid (.inl ⟨HOK, M, av, cv, rfl, HM2, hrx, (fun y hy => by
        have h1 := HBK.out y.block (by subst hy; rfl)
        have h2 := HO2.out.size
        omega), HO2.out.trans HO.out⟩)
      go_wp2_with fail
      go_ret2
      exact HF.out
end Go.Proofs.Ytdfghdccbpnohaa.tirw
