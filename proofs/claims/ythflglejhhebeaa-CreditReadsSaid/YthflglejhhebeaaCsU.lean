/- Sessions with grants: what the program writes of one. -/
import Derived.Test.YthflglejhhebeaaZ1
import Derived.Test.YthflglejhhebeaaZ3
import Derived.Test.YthflglejhhebeaaCsA
import Derived.Deep.CutRange
namespace Go.Proofs.Ythflglejhhebeaa.cs
open Go.RowKit mem rwg codm codp codw
set_option linter.unusedVariables false

theorem run_index_5 (a b c d e : Int) (k : Nat) (hk : k < 5) (w : World) : (Instr.index 102 (.agg #[.int .i64 a, .int .i64 b, .int .i64 c, .int .i64 d, .int .i64 e]) (.int .i64 (k : Int))).run Try.prog w = .ok (.int .i64 (List.getD [a, b, c, d, e] k 0)) w := by
  have h5 : k = 0 ∨ k = 1 ∨ k = 2 ∨ k = 3 ∨ k = 4 := by omega
  rcases h5 with rfl | rfl | rfl | rfl | rfl
  all_goals simp [Instr.index, run_underlying Try.underlying102, asIntOf, go_sem]
theorem run_index_3 (a b c : Int) (k : Nat) (hk : k < 3) (w : World) : (Instr.index 71 (.agg #[.int .i64 a, .int .i64 b, .int .i64 c]) (.int .i64 (k : Int))).run Try.prog w = .ok (.int .i64 (List.getD [a, b, c] k 0)) w := by
  have h5 : k = 0 ∨ k = 1 ∨ k = 2 := by omega
  rcases h5 with rfl | rfl | rfl
  all_goals simp [Instr.index, run_underlying Try.underlying71, asIntOf, go_sem]
theorem in5 {a b c d e : Int} {k : Nat} (hk : k < 5) (ha : FIn a) (hb : FIn b) (hc : FIn c) (hd : FIn d) (he : FIn e) : FIn (List.getD [a, b, c, d, e] k 0) := by
  have h5 : k = 0 ∨ k = 1 ∨ k = 2 ∨ k = 3 ∨ k = 4 := by omega
  rcases h5 with rfl | rfl | rfl | rfl | rfl <;> assumption
theorem in3 {a b c : Int} {k : Nat} (hk : k < 3) (ha : FIn a) (hb : FIn b) (hc : FIn c) : FIn (List.getD [a, b, c] k 0) := by
  have h5 : k = 0 ∨ k = 1 ∨ k = 2 := by omega
  rcases h5 with rfl | rfl | rfl <;> assumption
theorem gs_snoc (K : List Gr) (i : Nat) (h : i < K.length) : (K.take (i + 1)).flatMap gB = (K.take i).flatMap gB ++ gB (K.getD i default) := by
  rw [List.take_succ_eq_append_getElem h, List.flatMap_append]
  simp [List.getD, h]
theorem getGr_mem {K : List Gr} {i : Nat} (h : i < K.length) : K.getD i default ∈ K := by
  have : K.getD i default = K[i] := by simp [List.getD, h]
  rw [this]; exact List.getElem_mem h
set_option maxRecDepth 100000 in
set_option maxHeartbeats 8000000 in
theorem wsess_any (w wx : World) (wp : Nat) (l : List Nat) (h : Wr w wp wx l) (si nd num dl : Int) (a : Option Addr) (n c : Nat) (gs : List Gr) (hr : ReadsG w a n gs) (hi : SIn ⟨si, nd, num, dl, gs⟩) (hl : l.length ≤ 10000) :
    Calls Try.prog 27 #[.pointer (some ⟨wp, 0, none⟩), .agg #[.int .i64 si, .int .i64 nd, .int .i64 num, .int .i64 dl, .slice a n c]] wx fun e w' => e = .returned (.tuple #[]) ∧ Wr w wp w' (l ++ sB ⟨si, nd, num, dl, gs⟩) := by
  obtain ⟨g1, g2, g3, g4, hn4, hgs⟩ := hi
  dsimp only at g1 g2 g3 g4 hn4 hgs
  have HGS := Lib.hid hgs
  have HR := Lib.hid hr
  have HN : Hid (gs.length = n) := Lib.hid hr.1
  have hn5 : n ≤ 4 := by rw [← hr.1]; exact hn4
  have HI : Hid (∀ k, k < 5 → FIn (List.getD [si, nd, num, dl, (n : Int)] k 0)) := Lib.hid (fun k hk => in5 hk g1 g2 g3 g4 ⟨by omega, by omega⟩)
  obtain ⟨w1, hw1⟩ : ∃ x, x = wx.alloc (.cells #[.int .i64 si, .int .i64 nd, .int .i64 num, .int .i64 dl, .slice a n c] 25) := ⟨_, rfl⟩
  obtain ⟨g, hg⟩ : ∃ x, x = wx.heap.size := ⟨_, rfl⟩
  have H1 := Lib.hid (h.wb.box hw1 hg)
  obtain ⟨Q1, hQ1⟩ : ∃ x, x = Box (fun _ _ _ => False) g #[.int .i64 si, .int .i64 nd, .int .i64 num, .int .i64 dl, .slice a n c] := ⟨_, rfl⟩
  have HQ1 : Hid (Q1 g 0 (.int .i64 si) ∧ Q1 g 1 (.int .i64 nd) ∧ Q1 g 2 (.int .i64 num) ∧ Q1 g 3 (.int .i64 dl) ∧ Q1 g 4 (.slice a n c)) := Lib.hid (by rw [hQ1]; exact ⟨.inr ⟨rfl, rfl⟩, .inr ⟨rfl, rfl⟩, .inr ⟨rfl, rfl⟩, .inr ⟨rfl, rfl⟩, .inr ⟨rfl, rfl⟩⟩)
  rw [← hQ1] at H1
  have HTB : Hid (l ++ eN [si, nd, num, dl, (n : Int)] ++ gs.flatMap gB = l ++ sB ⟨si, nd, num, dl, gs⟩) := Lib.hid (by unfold sB eN; dsimp only; rw [HN.out]; simp only [List.flatMap_cons, List.flatMap_nil, List.append_assoc, List.append_nil, Int.toNat_natCast])
  have HE : Hid (∀ k, k < 5 → eN ([si, nd, num, dl, (n : Int)].take (k + 1)) = eN ([si, nd, num, dl, (n : Int)].take k) ++ enc (List.getD [si, nd, num, dl, (n : Int)] k 0).toNat) := Lib.hid (fun k hk => eN_snoc _ hk)
  have HEL : Hid (∀ k, (eN ([si, nd, num, dl, (n : Int)].take k)).length ≤ 55) := Lib.hid (fun k => eN_take _ k (by simp))
  have HE5 : Hid (eN ([si, nd, num, dl, (n : Int)].take 5) = eN [si, nd, num, dl, (n : Int)]) := Lib.hid (by rw [List.take_of_length_le (by simp)])
  have HL0 : Hid ((l ++ eN [si, nd, num, dl, (n : Int)]).length ≤ 10055) := Lib.hid (by rw [← HE5.out, List.length_append]; have := HEL.out 5; omega)
  have HIX : Hid (∀ k : Nat, k < 5 → ∀ w, (Instr.index 102 (.agg #[.int .i64 si, .int .i64 nd, .int .i64 num, .int .i64 dl, .int .i64 (n : Int)]) (.int .i64 (k : Int))).run Try.prog w = .ok (.int .i64 (List.getD [si, nd, num, dl, (n : Int)] k 0)) w) := Lib.hid (fun k hk w => run_index_5 si nd num dl n k hk w)
  obtain ⟨V, hV⟩ : ∃ x, x = [si, nd, num, dl, (n : Int)] := ⟨_, rfl⟩
  rw [← hV] at HI HTB HE HEL HE5 HL0 HIX
  clear h hr hn4 hQ1 hgs
  go_enter Try.func27, Try.ntmps27
  go_upto_region 1 with fail
  simp only [← hw1, ← hg]
  clear hw1 hg
  have d0 := H1.out.cell HQ1.out.1
  have d1 := H1.out.cell HQ1.out.2.1
  have d2 := H1.out.cell HQ1.out.2.2.1
  have d3 := H1.out.cell HQ1.out.2.2.2.1
  have d4 := H1.out.cell HQ1.out.2.2.2.2
  go_wp2_with fail
  clear d0 d1 d2 d3 d4
  go_loopw [22] (fun iv wr => ∃ (k : Nat), k ≤ 5 ∧ iv = .int .i64 (k : Int) ∧ Hid (WrB w wp wr (l ++ eN (V.take k)) Q1)) (fun iv _ => 5 - (intOf iv).toNat)
  case atStart => exact ⟨0, by omega, rfl, Lib.hid (by have := H1.out; simpa [eN] using this)⟩
  case round =>
    clear H1
    obtain ⟨k, hk, rfl, HWR⟩ := hrel
    rename World => wr
    by_cases h8 : k < 5
    · have hpos : (0 : Int) ≤ k := by omega
      have h9 : (k : Int) < 5 := by omega
      have hix := HIX.out k h8
      have HST : Hid (l ++ eN (V.take k) ++ enc (V.getD k 0).toNat = l ++ eN (V.take (k + 1))) := Lib.hid (by rw [HE.out k h8, List.append_assoc])
      have hx := HI.out k h8
      have hbl : (l ++ eN (V.take k)).length ≤ 100000000 := by rw [List.length_append]; have := HEL.out k; omega
      generalize V.getD k 0 = x at *
      have HB := Lib.hid (fun w' (h : WrB w wp w' (l ++ eN (V.take k)) Q1) => wb_uint h x hx.1 (by have := hx.2; omega) hbl)
      clear hbl hx
      go_wp2_with fail
      refine (HB.out wr HWR.out).mono ?_
      rintro _ w3 ⟨rfl, hwr⟩
      rw [HST.out] at hwr
      have H3 := Lib.hid hwr
      clear hwr HWR HST HB hix
      go_wp2_with fail
      go_roundw
      case rel => exact ⟨k + 1, by omega, by go_num, H3⟩
      case measure => simp [intOf]; omega
    · have hk5 : (k : Int) = 5 := by omega
      simp only [hk5]
      clear hk5
      obtain rfl : k = 5 := by omega
      rw [HE5.out] at HWR
      have d4 := HWR.out.cell HQ1.out.2.2.2.2
      go_wp2_with fail
      clear d4
      go_loopw [32] (fun iv wr => ∃ (i : Nat), i ≤ n ∧ iv = .int .i64 (i : Int) ∧ Hid (WrB w wp wr (l ++ eN V ++ (gs.take i).flatMap gB) Q1)) (fun iv _ => n - (intOf iv).toNat)
      case atStart => exact ⟨0, by omega, rfl, by simpa using HWR⟩
      case round =>
        clear HWR
        obtain ⟨i, hi, rfl, HWR⟩ := hrel
        rename World => wr
        by_cases h8 : i < n
        · obtain ⟨b, off, rfl, hcell⟩ := HR.out.cells (by omega)
          obtain ⟨c0, c1, c2, c3⟩ := hcell i h8
          replace c0 := HWR.out.only.cell' c0 (fun f => f)
          replace c1 := HWR.out.only.cell' c1 (fun f => f)
          replace c2 := HWR.out.only.cell' c2 (fun f => f)
          replace c3 := HWR.out.only.cell' c3 (fun f => f)
          have hin : (i : Int) < n := by omega
          have hi0 : (0 : Int) ≤ i := by omega
          have hi64 : (i : Int) ≤ 64 := by omega
          have hx : GIn (gs.getD i default) := HGS.out _ (getGr_mem (by rw [HN.out]; exact h8))
          have HSN : Hid (l ++ eN V ++ (gs.take i).flatMap gB ++ gB (gs.getD i default) = l ++ eN V ++ (gs.take (i + 1)).flatMap gB) := Lib.hid (by
            rw [gs_snoc gs i (by rw [HN.out]; exact h8), ← List.append_assoc])
          have HPL : Hid ((l ++ eN V ++ (gs.take i).flatMap gB).length ≤ 11000) := Lib.hid (by
            have h1 := gs_blen (gs.take i)
            have h2 : (gs.take i).length ≤ 4 := by rw [List.length_take]; omega
            have h4 := HL0.out
            rw [List.length_append]
            omega)
          generalize gs.getD i default = x at *
          obtain ⟨xg, xu, xa, xf⟩ := x
          obtain ⟨x1, x2, x3⟩ := hx
          dsimp only at c0 c1 c2 c3 x1 x2 x3
          obtain ⟨H, hH⟩ : ∃ x, x = l ++ eN V ++ (gs.take i).flatMap gB := ⟨_, rfl⟩
          rw [← hH] at HWR HSN HPL
          have HGB : Hid (H ++ eN [xg, xu, xa] ++ flagB xf = l ++ eN V ++ (gs.take (i + 1)).flatMap gB) := Lib.hid (by
            rw [← HSN.out]; unfold gB eN; dsimp only; simp only [List.flatMap_cons, List.flatMap_nil, List.append_assoc, List.append_nil])
          clear hcell hH HSN
          go_upto_region 9 with fail
          obtain ⟨w7, hw7⟩ : ∃ x, x = wr.alloc (.cells #[.int .i64 xg, .int .i64 xu, .int .i64 xa, .bool xf] 80) := ⟨_, rfl⟩
          obtain ⟨g7, hg7⟩ : ∃ x, x = wr.heap.size := ⟨_, rfl⟩
          have H7 := Lib.hid (HWR.out.box hw7 hg7)
          simp only [← hw7, ← hg7]
          clear hw7 hg7 HWR c0 c1 c2 c3
          obtain ⟨Q2, hQ2⟩ : ∃ x, x = Box Q1 g7 #[.int .i64 xg, .int .i64 xu, .int .i64 xa, .bool xf] := ⟨_, rfl⟩
          have HQ2 : Hid (Q2 g7 0 (.int .i64 xg) ∧ Q2 g7 1 (.int .i64 xu) ∧ Q2 g7 2 (.int .i64 xa) ∧ Q2 g7 3 (.bool xf)) := Lib.hid (by rw [hQ2]; exact ⟨.inr ⟨rfl, rfl⟩, .inr ⟨rfl, rfl⟩, .inr ⟨rfl, rfl⟩, .inr ⟨rfl, rfl⟩⟩)
          have HQ21 : Hid (∀ g j u, Q1 g j u → Q2 g j u) := Lib.hid (fun _ _ _ q => by rw [hQ2]; exact .inl q)
          rw [← hQ2] at H7
          clear hQ2
          have d0 := H7.out.cell HQ2.out.1
          have d1 := H7.out.cell HQ2.out.2.1
          have d2 := H7.out.cell HQ2.out.2.2.1
          have HI3 : Hid (∀ k, k < 3 → FIn (List.getD [xg, xu, xa] k 0)) := Lib.hid (fun k hk => in3 hk x1 x2 x3)
          have HE3 : Hid (∀ k, k < 3 → eN ([xg, xu, xa].take (k + 1)) = eN ([xg, xu, xa].take k) ++ enc (List.getD [xg, xu, xa] k 0).toNat) := Lib.hid (fun k hk => eN_snoc _ hk)
          have HEL3 : Hid (∀ k, (eN ([xg, xu, xa].take k)).length ≤ 55) := Lib.hid (fun k => eN_take _ k (by simp))
          have HE33 : Hid (eN ([xg, xu, xa].take 3) = eN [xg, xu, xa]) := Lib.hid (by rw [List.take_of_length_le (by simp)])
          have HIX3 : Hid (∀ k : Nat, k < 3 → ∀ w, (Instr.index 71 (.agg #[.int .i64 xg, .int .i64 xu, .int .i64 xa]) (.int .i64 (k : Int))).run Try.prog w = .ok (.int .i64 (List.getD [xg, xu, xa] k 0)) w) := Lib.hid (fun k hk w => run_index_3 xg xu xa k hk w)
          obtain ⟨V3, hV3⟩ : ∃ x, x = [xg, xu, xa] := ⟨_, rfl⟩
          rw [← hV3] at HI3 HE3 HEL3 HE33 HIX3 HGB
          go_wp2_with fail
          clear d0 d1 d2 hV3
          go_loopw [43] (fun iv wr => ∃ (k : Nat), k ≤ 3 ∧ iv = .int .i64 (k : Int) ∧ Hid (WrB w wp wr (H ++ eN (V3.take k)) Q2)) (fun iv _ => 3 - (intOf iv).toNat)
          case atStart => exact ⟨0, by omega, rfl, Lib.hid (by have := H7.out; simpa [eN] using this)⟩
          case round =>
            clear H7
            obtain ⟨k, hk, rfl, HWR⟩ := hrel
            rename World => wr
            by_cases h8 : k < 3
            · have hpos : (0 : Int) ≤ k := by omega
              have h9 : (k : Int) < 3 := by omega
              have hix := HIX3.out k h8
              have HST : Hid (H ++ eN (V3.take k) ++ enc (V3.getD k 0).toNat = H ++ eN (V3.take (k + 1))) := Lib.hid (by rw [HE3.out k h8, List.append_assoc])
              have hx := HI3.out k h8
              have hbl : (H ++ eN (V3.take k)).length ≤ 100000000 := by rw [List.length_append]; have := HEL3.out k; have := HPL.out; omega
              generalize V3.getD k 0 = x at *
              have HB := Lib.hid (fun w' (h : WrB w wp w' (H ++ eN (V3.take k)) Q2) => wb_uint h x hx.1 (by have := hx.2; omega) hbl)
              clear hbl hx
              go_wp2_with fail
              refine (HB.out wr HWR.out).mono ?_
              rintro _ w3 ⟨rfl, hwr⟩
              rw [HST.out] at hwr
              have H3 := Lib.hid hwr
              clear hwr HWR HST HB hix
              go_wp2_with fail
              go_roundw
              case rel => exact ⟨k + 1, by omega, by go_num, H3⟩
              case measure => simp [intOf]; omega
            · have hk5 : (k : Int) = 3 := by omega
              simp only [hk5]
              clear hk5
              obtain rfl : k = 3 := by omega
              rw [HE33.out] at HWR
              have d3 := HWR.out.cell HQ2.out.2.2.2
              have HB := Lib.hid (wb_flag HWR.out xf (by rw [← HE33.out, List.length_append]; have := HEL3.out 3; have := HPL.out; omega))
              go_wp2_with fail
              refine HB.out.mono ?_
              rintro _ w9 ⟨rfl, hwr⟩
              have H9 : Hid (WrB w wp w9 (l ++ eN V ++ (gs.take (i + 1)).flatMap gB) Q1) := Lib.hid (by rw [← HGB.out]; exact hwr.less HQ21.out)
              clear hwr d3 HWR HB HGB HPL
              go_wp2_with fail
              go_roundw
              case rel => exact ⟨i + 1, by omega, by go_num, H9⟩
              case measure => simp [intOf]; omega
        · obtain rfl : i = n := by omega
          have hnl : ¬ (i : Int) < i := by omega
          have HF : Hid (Wr w wp wr (l ++ sB ⟨si, nd, num, dl, gs⟩)) := Lib.hid (by
            have := HWR.out.wr
            rw [List.take_of_length_le (by rw [HN.out]; omega), HTB.out] at this
            exact this)
          clear HWR
          go_wp2_with fail
          go_end0
          exact ⟨rfl, HF.out⟩
end Go.Proofs.Ythflglejhhebeaa.cs
