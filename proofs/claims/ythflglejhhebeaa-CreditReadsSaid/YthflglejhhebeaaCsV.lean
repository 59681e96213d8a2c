/- What the program's Write of a table answers. -/
import Derived.Test.YthflglejhhebeaaCsU
import Derived.Deep.QuietTactic
import Derived.BigQuiet
namespace Go.Proofs.Ythflglejhhebeaa.cs
open Go.RowKit mem rwg codm codp codw
set_option linter.unusedVariables false

theorem ss_snoc (K : List Sx) (i : Nat) (h : i < K.length) : (K.take (i + 1)).flatMap sB = (K.take i).flatMap sB ++ sB (K.getD i default) := by
  rw [List.take_succ_eq_append_getElem h, List.flatMap_append]
  simp [List.getD, h]
theorem drewN_cs {S : Nat → Prop} {a w : World} (h : Only S a w) (n : Nat) : Only S a (w.drewN n) := ⟨h.os, h.tape, h.output, h.size, h.block⟩
theorem sdt_mem {L : List Sd} {i : Nat} (h : i < L.length) : L.getD i default ∈ L := by
  have : L.getD i default = L[i] := by simp [List.getD, h]
  rw [this]; exact List.getElem_mem h
set_option maxRecDepth 100000 in
set_option maxHeartbeats 8000000 in
theorem ctwrite_any {S : Nat → Prop} (p : Nat) (pl last : Int) (v : Value) (L : List Sd) (w : World) (h : PT S w p pl last v L) (hok : TOk pl last (L.map Sd.sx)) :
    Calls Try.prog 8 #[.pointer (some ⟨p, 0, none⟩)] w (Wrote w (tabB pl last (L.map Sd.sx))) := by
  have HP := Lib.hid h
  have hp1 := hok.p1
  have hla := hok.la
  have hln := hok.ln
  rw [List.length_map] at hln
  obtain ⟨av, cv, hv, hc1, hc2, hc3, hcs, hbl⟩ := own_S h.own
  have HCS := Lib.hid hcs
  obtain ⟨n, hn⟩ : ∃ x, L.length = x := ⟨_, rfl⟩
  have HN := Lib.hid hn
  have HC0 : Hid (∀ w', Only (fun _ => False) w w' → w'.cell? ⟨p, 0, none⟩ = some (.int .i64 pl) ∧ w'.cell? ⟨p, 1, none⟩ = some (.int .i64 last) ∧ w'.cell? ⟨p, 2, none⟩ = some (.slice av n cv)) := Lib.hid (fun w' ho => ⟨(HP.out.quiet ho).c0, (HP.out.quiet ho).c1, by rw [(HP.out.quiet ho).c2, hv, hn]⟩)
  have HKD : Hid (∀ i, i < n → ReadsG w (L.getD i default).a (L.getD i default).n (L.getD i default).gs ∧ SIn (L.getD i default).sx) := Lib.hid (fun i hi => by
    have hm := sdt_mem (L := L) (i := i) (by rw [hn]; exact hi)
    exact ⟨(h.kd _ hm).1, SIn.of (hok.rt _ (List.mem_map_of_mem hm)).1⟩)
  have HSB : Hid (∀ i, ((L.map Sd.sx).take i |>.flatMap sB).length ≤ 3056) := Lib.hid (fun i => by
    have h1 := ss_blen ((L.map Sd.sx).take i) (fun s hs => grsB_len ((rightB_iff s).1 (hok.rt s (List.mem_of_mem_take hs)).1).2.2.2.2.2.2)
    have h2 : ((L.map Sd.sx).take i).length ≤ 16 := by rw [List.length_take, List.length_map]; omega
    omega)
  rw [hn] at hln hc1 HCS
  have HI : Hid (∀ k, k < 3 → FIn (List.getD [pl, last, (n : Int)] k 0)) := Lib.hid (fun k hk => in3 hk ⟨by omega, by omega⟩ hla ⟨by omega, by omega⟩)
  have HE : Hid (∀ k, k < 3 → eN ([pl, last, (n : Int)].take (k + 1)) = eN ([pl, last, (n : Int)].take k) ++ enc (List.getD [pl, last, (n : Int)] k 0).toNat) := Lib.hid (fun k hk => eN_snoc _ hk)
  have HEL : Hid (∀ k, (eN ([pl, last, (n : Int)].take k)).length ≤ 55) := Lib.hid (fun k => eN_take _ k (by simp))
  have HE5 : Hid (eN ([pl, last, (n : Int)].take 3) = eN [pl, last, (n : Int)]) := Lib.hid (by rw [List.take_of_length_le (by simp)])
  have HIX : Hid (∀ k : Nat, k < 3 → ∀ w, (Instr.index 71 (.agg #[.int .i64 pl, .int .i64 last, .int .i64 (n : Int)]) (.int .i64 (k : Int))).run Try.prog w = .ok (.int .i64 (List.getD [pl, last, (n : Int)] k 0)) w) := Lib.hid (fun k hk w => run_index_3 pl last n k hk w)
  have HTB : Hid (eN [pl, last, (n : Int)] ++ (L.map Sd.sx).flatMap sB = tabB pl last (L.map Sd.sx)) := Lib.hid (by unfold tabB eN; rw [List.length_map, hn]; simp only [List.flatMap_cons, List.flatMap_nil, List.append_assoc, List.append_nil, Int.toNat_natCast])
  obtain ⟨V, hV⟩ : ∃ x, x = [pl, last, (n : Int)] := ⟨_, rfl⟩
  rw [← hV] at HI HTB HE HEL HE5 HIX
  clear h hok hv hcs hbl hn hV hc3
  have HW0 := Lib.hid (wr_new w 70)
  obtain ⟨d0, d1, d2⟩ := HC0.out _ HW0.out.only
  obtain ⟨wp, hwp⟩ : ∃ x, x = w.heap.size := ⟨_, rfl⟩
  obtain ⟨w1, hw1⟩ : ∃ x, x = w.alloc (.cells #[.slice none 0 0, .int .i64 0] 70) := ⟨_, rfl⟩
  rw [← hwp, ← hw1] at HW0
  rw [← hw1] at d0 d1 d2
  go_enter Try.func8, Try.ntmps8
  go_upto_region 4 with fail
  simp only [← hwp, ← hw1]
  clear hw1 hwp
  have HWD : Hid (∀ nq, Wr w wp (w1.drewN nq) []) := Lib.hid (fun nq => HW0.out.quiet (drewN_cs (Only.refl _ _) nq))
  go_wp2_with fail
  go_quiet (fail)
  go_wp2_with fail
  clear d0 d1 d2
  go_loopw [27] (fun iv wr => ∃ (k : Nat), k ≤ 3 ∧ iv = .int .i64 (k : Int) ∧ Hid (Wr w wp wr (eN (V.take k)))) (fun iv _ => 3 - (intOf iv).toNat)
  case atStart => exact ⟨0, by omega, rfl, Lib.hid (HWD.out _)⟩
  case round =>
    clear HW0 HWD
    obtain ⟨k, hk, rfl, HWR⟩ := hrel
    rename World => wr
    by_cases h8 : k < 3
    · have hpos : (0 : Int) ≤ k := by omega
      have h9 : (k : Int) < 3 := by omega
      have hix := HIX.out k h8
      have HST : Hid (eN (V.take k) ++ enc (V.getD k 0).toNat = eN (V.take (k + 1))) := Lib.hid (by rw [HE.out k h8])
      have hx := HI.out k h8
      have hbl : (eN (V.take k)).length ≤ 100000000 := by have := HEL.out k; omega
      generalize V.getD k 0 = x at *
      have HB := Lib.hid (fun w' (h : Wr w wp w' (eN (V.take k))) => wr_uint h x hx.1 (by have := hx.2; omega) hbl)
      clear hbl hx
      go_wp2_with fail
      refine (HB.out wr HWR.out).mono ?_
      rintro _ w3 ⟨rfl, hwr⟩
      rw [HST.out] at hwr
      have H3 := Lib.hid hwr
      clear hwr HWR HST HB hix
      go_wp2_with fail
      go_roundw
      case rel => exact ⟨k + 1, by omega, by go_num, H3⟩
      case measure => simp [intOf]; omega
    · have hk5 : (k : Int) = 3 := by omega
      simp only [hk5]
      clear hk5
      obtain rfl : k = 3 := by omega
      rw [HE5.out] at HWR
      have HEV : Hid ((eN V).length ≤ 55) := Lib.hid (by rw [← HE5.out]; exact HEL.out 3)
      obtain ⟨d0, d1, d2⟩ := HC0.out wr HWR.out.only
      go_wp2_with fail
      clear d0 d1 d2
      go_loopw [39] (fun iv wr => ∃ (i : Nat), i ≤ n ∧ iv = .int .i64 (i : Int) ∧ Hid (Wr w wp wr (eN V ++ ((L.map Sd.sx).take i).flatMap sB))) (fun iv _ => n - (intOf iv).toNat)
      case atStart => exact ⟨0, by omega, rfl, by simpa using HWR⟩
      case round =>
        clear HWR
        obtain ⟨i, hi, rfl, HWR⟩ := hrel
        rename World => wr
        by_cases h8 : i < n
        · obtain ⟨b, rfl, hcell⟩ := HCS.out.resolve_left (by omega)
          obtain ⟨c0, c1, c2, c3, c4⟩ := hcell i h8
          replace c0 := HWR.out.only.cell' c0 (fun f => f)
          replace c1 := HWR.out.only.cell' c1 (fun f => f)
          replace c2 := HWR.out.only.cell' c2 (fun f => f)
          replace c3 := HWR.out.only.cell' c3 (fun f => f)
          replace c4 := HWR.out.only.cell' c4 (fun f => f)
          have hin : (i : Int) < n := by omega
          have hi0 : (0 : Int) ≤ i := by omega
          have hi64 : (i : Int) ≤ 64 := by omega
          obtain ⟨hrg, hsi⟩ := HKD.out i h8
          have HSN : Hid (eN V ++ ((L.map Sd.sx).take i).flatMap sB ++ sB (L.getD i default).sx = eN V ++ ((L.map Sd.sx).take (i + 1)).flatMap sB) := Lib.hid (by
            rw [ss_snoc _ i (by rw [List.length_map, HN.out]; exact h8), sx_get L (by rw [HN.out]; exact h8), List.append_assoc])
          have HPL : Hid ((eN V ++ ((L.map Sd.sx).take i).flatMap sB).length ≤ 10000) := Lib.hid (by
            rw [List.length_append]
            have h1 := HSB.out i
            have h2 := HEV.out
            omega)
          generalize L.getD i default = x at *
          obtain ⟨xi, xnd, xnum, xdl, xa, xn, xc, xgs⟩ := x
          rw [show Sd.sx ⟨xi, xnd, xnum, xdl, xa, xn, xc, xgs⟩ = (⟨xi, xnd, xnum, xdl, xgs⟩ : Sx) from rfl] at hsi HSN
          dsimp only at c0 c1 c2 c3 c4 hrg hsi HSN
          have HWS := Lib.hid (fun wx (hw : Wr w wp wx (eN V ++ ((L.map Sd.sx).take i).flatMap sB)) => wsess_any w wx wp _ hw xi xnd xnum xdl xa xn xc xgs hrg hsi HPL.out)
          rw [HSN.out] at HWS
          clear hcell hrg hsi HPL
          go_upto_region 12 with fail
          obtain ⟨w7, hw7⟩ : ∃ x, x = wr.alloc (.cells #[.int .i64 xi, .int .i64 xnd, .int .i64 xnum, .int .i64 xdl, .slice xa xn xc] 25) := ⟨_, rfl⟩
          obtain ⟨g7, hg7⟩ : ∃ x, x = wr.heap.size := ⟨_, rfl⟩
          obtain ⟨q0, q1, q2, q3, q4, ho7⟩ := sbox hw7 hg7
          have H7 := Lib.hid (HWR.out.quiet ho7)
          simp only [← hw7, ← hg7]
          clear hw7 hg7 HWR c0 c1 c2 c3 c4 ho7
          go_wp2_with fail
          refine (HWS.out _ H7.out).mono ?_
          rintro _ w9 ⟨rfl, hwr⟩
          have H9 := Lib.hid hwr
          clear hwr q0 q1 q2 q3 q4 H7 HWS HSN
          go_wp2_with fail
          go_roundw
          case rel => exact ⟨i + 1, by omega, by go_num, H9⟩
          case measure => simp [intOf]; omega
        · obtain rfl : i = n := by omega
          have hnl : ¬ (i : Int) < i := by omega
          have HFB : Hid (eN V ++ ((L.map Sd.sx).take i).flatMap sB = tabB pl last (L.map Sd.sx)) := Lib.hid (by rw [List.take_of_length_le (by rw [List.length_map, HN.out]; omega), HTB.out])
          have hpl : (eN V ++ ((L.map Sd.sx).take i).flatMap sB).length ≤ 100000000 := by
            rw [List.length_append]
            have h1 := HSB.out i
            have h2 := HEV.out
            omega
          rw [HFB.out] at HWR hpl
          have HBY := Lib.hid (wr_bytes HWR.out hpl)
          clear HFB HWR
          go_wp2_with fail
          refine HBY.out.mono ?_
          rintro _ w9 ⟨ra, rc, rfl, hb, hy, ho⟩
          have HFIN : Hid (Wrote w (tabB pl last (L.map Sd.sx)) (.returned (.tuple #[.slice ra (tabB pl last (L.map Sd.sx)).length rc, .int .i64 0])) w9) := Lib.hid ⟨ra, rc, rfl, hb, hy, ho⟩
          clear hb hy ho HBY hpl HTB
          generalize tabB pl last (L.map Sd.sx) = WB at *
          generalize WB.length = wl at *
          go_wp2_with fail
          go_ret2
          exact HFIN.out
end Go.Proofs.Ythflglejhhebeaa.cs
