/- DiskJobs' walk. -/
import Derived.Test.YtodmfljhojdbkaaDdM
namespace Go.Proofs.Ytodmfljhojdbkaa.dskw
open Go.RowKit mem
set_option linter.unusedVariables false

def blkD : Option Addr → Nat
  | some y => y.block
  | none => 0
set_option maxRecDepth 100000 in
set_option maxHeartbeats 16000000 in
theorem djobs_walk (n : Int) (a : Option Addr) (len cap : Nat) (w : World) (hrow : RowK w a len) : Calls Try.prog 3 #[.int .i64 n, .slice a len cap] w fun e w' => e = .returned (.bool true) ∧ Only (fun _ => False) w w' := by
  obtain ⟨N, hN, hN7⟩ := kmod n 7 (by omega) (by omega)
  have hN1 := one_more N (by omega)
  obtain ⟨M, hM⟩ : ∃ M, N + 1 = M := ⟨_, rfl⟩
  rw [hM] at hN1
  have hM1 : 1 ≤ M := by omega
  have hM7 : M ≤ 7 := by omega
  obtain ⟨base, hbase⟩ : ∃ x, x = w.heap.size := ⟨_, rfl⟩
  have HP := Lib.hid hbase
  have HRJ := Lib.hid hrow
  have hlm := hrow.1
  have HNW := Lib.hid (new_any M (by omega) (by omega) w)
  clear hrow hM hN7 hbase
  go_enter Try.func3, Try.ntmps3
  go_wp2_with fail
  refine (HNW.out).mono ?_
  rintro e1 w1 ⟨p, bl, bm, rfl, hd1, ho1, hp, hbl, hbm⟩
  have HRN := Lib.hid (rnew_any M (by omega) (by omega) w1)
  have HD1 := Lib.hid hd1
  have HO1 := Lib.hid ho1
  have HG1 : Hid (∀ k, Dbl p bl bm k → base ≤ k ∧ k < w1.heap.size) := Lib.hid (by
    have hlt := hd1.lt
    have hb := HP.out
    rintro k (rfl | rfl | rfl)
    · omega
    · omega
    · omega)
  clear hd1 ho1 HNW hp hbl hbm
  go_wp2_with fail
  refine (HRN.out).mono ?_
  rintro _ w2 ⟨q, bL, bN, bD, cL, cN, cD, rfl, hd2, hk2, ho2⟩
  have HPP : Hid (PP base p bl bm q bL bN bD) := Lib.hid ⟨fun k h => (HG1.out k h).1, fun k h => by have := hk2 k h; have := HO1.out.size; have := HP.out; omega, fun k h h2 => by have := hk2 k h2; have := (HG1.out k h).2; omega⟩
  have HDD : Hid (DDo p bl bm q bL bN bD M cL cN cD false w2) := Lib.hid ⟨_, _, _, _, _, _, _, HD1.out.only ho2 (fun f => f) (fun f => f) (fun f => f), hd2, Lkd.new M⟩
  have HO2 := Lib.hid (HO1.out.trans ho2)
  clear hd2 hk2 ho2 HRN HG1 HO1 HD1
  go_wp2_with fail
  refine (disks_any _).mono ?_
  rintro _ w3 ⟨rfl, ho3⟩
  have HO3 := Lib.hid ho3
  clear ho3
  have HD3 : Hid (DD p bl bm q bL bN bD M cL cN cD w3) := Lib.hid ⟨_, HDD.out.quiet HO3.out⟩
  have HX3 : Hid (Only (fun x => base ≤ x) w w3) := Lib.hid ((HO2.out.trans HO3.out).mono (fun _ _ f => f.elim))
  clear HO2 HO3 HDD
  go_upto_block 0 with fail
  go_cut [8] from 39 to 185 (fun iv wx => Hid (DD p bl bm q bL bN bD M cL cN cD wx) ∧ Hid (Only (fun x => base ≤ x) w wx))
  case first =>
    go_wp2_with fail
    go_loopw [8] (fun iv wr => ∃ i : Nat, i ≤ 50 ∧ iv = .int .i64 (i : Int) ∧ Hid (DD p bl bm q bL bN bD M cL cN cD wr) ∧ Hid (Only (fun x => base ≤ x) w wr)) (fun iv _ => 50 - (intOf iv).toNat)
    case atStart => exact ⟨0, by omega, rfl, HD3, HX3⟩
    case round =>
      obtain ⟨i, hi, rfl, HDD, HO⟩ := hrel
      rename World => wr
      clear HD3 HX3
      by_cases h8 : i < len
      · by_cases h20 : i < 50
        · have hin : (i : Int) < len := by omega
          have hi20 : (i : Int) < 50 := by omega
          have hi0 : (0 : Int) ≤ i := by omega
          have HBW : Hid (base ≤ wr.heap.size) := Lib.hid (by have := HO.out.size; have := HP.out; omega)
          obtain ⟨b, off, rfl, hcell⟩ := HRJ.out.2.resolve_left (by omega)
          obtain ⟨⟨what, at_, nn, byt, odd, ka, kn, kc, kl⟩, hat, hjin⟩ := hcell i h8
          obtain ⟨hA, hNn, hBy, hKl⟩ := hjin
          have HKL := Lib.hid (Bools.keepK (b := base) hKl (by have := HP.out; omega) HO.out)
          obtain ⟨x0, x1, x2, x3, x4, x5⟩ := hat.keep (b := base) (by have := HP.out; omega) HO.out
          dsimp only at x0 x1 x2 x3 x4 x5 hA hNn hBy HKL
          obtain ⟨Z, hZ, hZ5⟩ : ∃ Z : Int, wrap64 ((IntKind.u64.wrap what).tmod 5) = Z ∧ (Z = 0 ∨ Z = 1 ∨ Z = 2 ∨ Z = 3 ∨ Z = 4) := by
            obtain ⟨Z, h1, h2⟩ := kmod what 5 (by omega) (by omega)
            exact ⟨_, h1, by omega⟩
          obtain ⟨w1, hw1⟩ : ∃ x, x = wr.alloc (.cells #[.int .i64 what, .int .i64 at_, .int .i64 nn, .int .u8 (byt : Int), .bool odd, .slice ka kn kc] 33) := ⟨_, rfl⟩
          obtain ⟨g, hg⟩ : ∃ x, x = wr.heap.size := ⟨_, rfl⟩
          have ho1 : Only (fun _ => False) wr w1 := by rw [hw1]; exact (Only.refl _ _).alloc _
          have HBX : Hid (∀ w' : World, (∀ c, c < 6 → w'.cell? ⟨g, c, none⟩ = w1.cell? ⟨g, c, none⟩) → w'.cell? ⟨g, 0, none⟩ = some (.int .i64 what) ∧ w'.cell? ⟨g, 1, none⟩ = some (.int .i64 at_) ∧ w'.cell? ⟨g, 2, none⟩ = some (.int .i64 nn) ∧ w'.cell? ⟨g, 3, none⟩ = some (.int .u8 (byt : Int)) ∧ w'.cell? ⟨g, 4, none⟩ = some (.bool odd) ∧ w'.cell? ⟨g, 5, none⟩ = some (.slice ka kn kc)) := Lib.hid (fun w' h =>
            ⟨(h 0 (by omega)).trans (by rw [hw1]; exact boxed _ _ _ _ _ _ hg rfl), (h 1 (by omega)).trans (by rw [hw1]; exact boxed _ _ _ _ _ _ hg rfl), (h 2 (by omega)).trans (by rw [hw1]; exact boxed _ _ _ _ _ _ hg rfl), (h 3 (by omega)).trans (by rw [hw1]; exact boxed _ _ _ _ _ _ hg rfl), (h 4 (by omega)).trans (by rw [hw1]; exact boxed _ _ _ _ _ _ hg rfl), (h 5 (by omega)).trans (by rw [hw1]; exact boxed _ _ _ _ _ _ hg rfl)⟩)
          have hgl : g < w1.heap.size := by rw [hw1, hg]; simp
          have HGN : Hid (∀ k, Bth p bl bm q bL bN bD k → k ≠ g) := Lib.hid (fun k hk e => by
            obtain ⟨off, L, C, cut, La, No, Di, armed, h1, h2, -⟩ := HDD.out
            have hlt := h1.lt
            have e0 := World.block_lt_of_cell? wr _ h2.c0
            have eL := World.block_lt_of_cell? wr _ (h2.rL 0 (by have := h2.h1; omega)).1
            have eN := World.block_lt_of_cell? wr _ (h2.rN 0 (by have := h2.h1; omega)).1
            have eD := World.block_lt_of_cell? wr _ (h2.rD 0 (by have := h2.h1; omega)).1
            simp only at e0 eL eN eD
            rcases hk with (h | h | h) | (h | h | h | h) <;> omega)
          have HBQ : Hid (∀ (S : Nat → Prop) w', Only S w1 w' → ¬ S g → w'.cell? ⟨g, 0, none⟩ = some (.int .i64 what) ∧ w'.cell? ⟨g, 1, none⟩ = some (.int .i64 at_) ∧ w'.cell? ⟨g, 2, none⟩ = some (.int .i64 nn) ∧ w'.cell? ⟨g, 3, none⟩ = some (.int .u8 (byt : Int)) ∧ w'.cell? ⟨g, 4, none⟩ = some (.bool odd) ∧ w'.cell? ⟨g, 5, none⟩ = some (.slice ka kn kc)) := Lib.hid (fun S w' ho hs => HBX.out w' (fun c _ => ho.cell (p := ⟨g, c, none⟩) hgl hs))
          have HD1 : Hid (DD p bl bm q bL bN bD M cL cN cD w1) := Lib.hid (HDD.out.quiet ho1)
          have HX1 : Hid (Only (fun x => base ≤ x) w w1) := Lib.hid (HO.out.trans (ho1.mono (fun _ _ f => f.elim)))
          have HGL := Lib.hid hgl
          have HGB : Hid (base ≤ g) := Lib.hid (by have := HBW.out; omega)
          have HK1 : Hid (Bools w1 ka kn kl ∧ (0 < kn → ∀ x, ka = some x → x.block < base)) := Lib.hid ⟨(Bools.keepK (b := w1.heap.size) HKL.out.1 ho1.size (ho1.mono (fun _ _ f => f.elim))).1, HKL.out.2⟩
          clear hcell hat hKl HBX HDD HO HKL hgl ho1 HBW
          go_upto_region 10 with fail
          try simp only [← hw1, ← hg]
          clear hw1 hg x0 x1 x2 x3 x4 x5
          obtain ⟨y0, y1, y2, y3, y4, y5⟩ := HBQ.out _ _ (Only.refl (fun _ => False) w1) (fun f => f)
          go_upto_block 2 with fail
          try rw [hZ]
          clear hZ
          go_cut [8] from 53 to 170 (fun iv wx => iv = .int .i64 (i : Int) ∧ Hid (DD p bl bm q bL bN bD M cL cN cD wx) ∧ Hid (Only (fun x => base ≤ x) w wx))
          case first =>
            rcases hZ5 with rfl | rfl | rfl | rfl | rfl
            · obtain ⟨off, hdo⟩ := HD1.out
              have HRB := Lib.hid (read_both hdo at_ nn hA)
              generalize chk M off at_ nn = er at *
              clear hdo
              go_wp2_with fail
              refine HRB.out.mono ?_
              rintro _ w2 ⟨ra, rn, rc, bs, rfl, hrd, ho2, hdr⟩
              have HO2 := Lib.hid ho2
              have HDR := Lib.hid hdr
              have HR2 := Lib.hid hrd
              clear hrd ho2 hdr HRB y0 y1 y2 y3 y4 y5
              obtain ⟨y0, y1, y2, y3, y4, y5⟩ := HBQ.out _ _ HO2.out (fun f => f)
              go_wp2_with fail
              refine HDR.out.mono ?_
              rintro _ w3 ⟨rfl, rfl⟩
              have hcv := conv_reads HR2.out rc
              have hss : ((strN bs).toList == (strN bs).toList) = true := by simp
              have hee : (er != er) = false := by simp
              have HD2 : Hid (DD p bl bm q bL bN bD M cL cN cD w2) := Lib.hid (HD1.out.quiet HO2.out)
              have HX2 : Hid (Only (fun x => base ≤ x) w w2) := Lib.hid (HX1.out.trans (HO2.out.mono (fun _ _ f => f.elim)))
              obtain ⟨sb, hsb⟩ : ∃ x, strN bs = x := ⟨_, rfl⟩
              rw [hsb] at hcv hss
              try rw [hsb]

              clear hsb HDR HR2 HD1 HX1
              go_wp2_with fail
              go_meet
              exact ⟨rfl, HD2, HX2⟩
            · obtain ⟨i0, hi0', hz0, hz1, hz2⟩ := info_parts info_u8
              obtain ⟨K, hK, hK4⟩ := kmod nn 4 (by omega) (by omega)
              have hK3 : K < 4 := by omega
              clear hK4
              clear y0 y1 y2 y3 y4 y5
              go_wp2_with fail
              go_loopw [14, 15] (fun bv iv wx => ∃ (j : Nat) (l : List Nat), j ≤ K ∧ iv = .int .i64 (j : Int) ∧ Hid (l.length = 64 * j) ∧ Hid (OwnB wx bv l) ∧ Hid (∀ k, bv.ownBlock = some k → w1.heap.size ≤ k) ∧ Hid (Only (fun _ => False) w1 wx)) (fun _ iv _ => K - (intOf iv).toNat)
              case atStart => exact ⟨0, [], by omega, rfl, Lib.hid rfl, Lib.hid (OwnB.nil _), Lib.hid (fun k e => by cases e), Lib.hid (Only.refl _ _)⟩
              case round =>
                obtain ⟨j, l, hj, rfl, HLL, HB, HBK, HX⟩ := hrel
                rename World => wx
                obtain ⟨y0, y1, y2, y3, y4, y5⟩ := HBQ.out _ _ HX.out (fun f => f)
                by_cases h9 : j < K
                · have hjk : (j : Int) < (K : Int) := by omega
                  obtain ⟨yb, hyb, hyw⟩ := byte_add byt j
                  obtain ⟨rb, hrb⟩ : ∃ r, List.replicate 64 yb = r := ⟨_, rfl⟩
                  have HSC := Lib.hid (sector_any yb hyb wx)
                  rw [hrb] at HSC
                  have HRL : Hid (rb.length = 64) := Lib.hid (by rw [← hrb, List.length_replicate])
                  clear hrb
                  go_wp2_with fail
                  refine (HSC.out).mono ?_
                  rintro e4 w4 ⟨g4, cap4, rfl, hb4, ho4, hg4⟩
                  rw [HRL.out] at hb4 ⊢
                  have HB4 := Lib.hid hb4
                  have HO4 := Lib.hid (HX.out.then ho4 (fun _ _ f => f))
                  have HPB := Lib.hid (HB.out.only ho4 (fun _ _ f => f))
                  clear hb4 ho4 HSC y0 y1 y2 y3 y4 y5
                  go_wp2_with (at_builtin; refine append_mine rfl _ _ 34 rfl 5 i0 (.int .u8 0) 1 1 Try.underlying34 hi0' hz0 hz1 hz2 rfl (by decide) u14 l.length _ rfl HPB.out.1 ⟨g4, 0, none⟩ 64 cap4 (bv rb) rfl ?d1 ?d2 ?d3 ?d4 ?d5 ?_)
                  case d1 => rw [bv_length, HRL.out]
                  case d2 => exact OwnB.cells HB4.out HRL.out.symm
                  case d3 => exact bv_one _
                  case d4 => have := HLL.out; unfold maxLen; omega
                  case d5 => have := HLL.out; omega
                  intro v5 w5 hown hgrow hkk
                  have HLN : Hid ((l ++ rb).length = 64 * (j + 1)) := Lib.hid (by have := HLL.out; have := HRL.out; rw [List.length_append]; omega)
                  have HB5 : Hid (OwnB w5 v5 (l ++ rb)) := Lib.hid (app_gen HPB.out HB4.out.2.1 (by rw [HRL.out]; exact hown) (by have := HLN.out; unfold maxLen; omega))
                  have HO5 := Lib.hid (cells_any HPB.out hgrow HO4.out HBK.out)
                  have hs4 := HO4.out.size
                  have HK5 : Hid (∀ k, v5.ownBlock = some k → w1.heap.size ≤ k) := Lib.hid (fun k e => by
                    rcases hkk k e with h | h
                    · exact HBK.out k h
                    · omega)
                  clear hown hgrow hkk HB4 HPB HB HO4 hs4 HRL HLL
                  go_wp2_with fail
                  go_roundw
                  case rel => exact ⟨j + 1, _, by omega, by go_num, HLN, HB5, HK5, HO5⟩
                  case measure => simp [intOf]; omega
                · have hjk : ¬ (j : Int) < (K : Int) := by omega
                  obtain rfl : j = K := by omega
                  go_upto_if 107 with fail
                  try rw [hK]
                  clear hK
                  go_cut [14] from 107 to 110 (fun bv wx => ∃ (a : Option Addr) (n c : Nat) (l : List Nat), bv = .slice a n c ∧ n ≤ 300 ∧ Hid (l.length = n) ∧ Hid (OwnB wx (.slice a n c) l) ∧ Hid (∀ k, (Value.slice a n c).ownBlock = some k → w1.heap.size ≤ k) ∧ Hid (Only (fun _ => False) w1 wx))
                  case first =>
                    cases odd
                    · obtain ⟨a, c, rfl⟩ : ∃ a c, u14 = .slice a (64 * j) c := by
                        rcases HB.out.1.2 with ⟨hv, hn⟩ | ⟨g, cap, cur, hv, _⟩
                        · exact ⟨none, 0, by rw [hv, ← HLL.out, hn]⟩
                        · exact ⟨_, cap, by rw [← HLL.out]; exact hv⟩
                      obtain ⟨HB', HBK', HX'⟩ := (⟨HB, HBK, HX⟩ : _ ∧ _ ∧ _)
                      have hl3 : 64 * j ≤ 300 := by omega
                      go_wp2_with fail
                      go_meet
                      exact ⟨a, _, c, l, rfl, hl3, HLL, HB', HBK', HX'⟩
                    · have HPB : Hid (∀ o, OwnB (wx.alloc o) u14 l) := Lib.hid (fun o => HB.out.only (S := fun _ => False) ((Only.refl _ _).alloc _) (fun _ _ f => f))
                      clear y0 y1 y2 y3 y4 y5
                      go_wp2_with (at_builtin; refine append_mine rfl _ _ 34 rfl 5 i0 (.int .u8 0) 1 1 Try.underlying34 hi0' hz0 hz1 hz2 rfl (by decide) u14 l.length _ rfl (HPB.out _).1 ⟨wx.heap.size, 0, none⟩ 1 1 (bv [1]) rfl ?c1 ?c2 ?c3 ?c4 ?c5 ?_)
                      case c1 => rfl
                      case c2 =>
                        intro j u hu
                        simpa [mem.bv] using hu
                      case c3 => exact bv_one _
                      case c4 => have := HLL.out; unfold maxLen; omega
                      case c5 => have := HLL.out; omega
                      intro v5 w5 hown hgrow hkk
                      have HB5 : Hid (OwnB w5 v5 (l ++ [1])) := Lib.hid (app_gen (HPB.out (.cells #[.int .u8 1] 5)) (fun c hc => by rw [List.mem_singleton] at hc; omega) hown (by have := HLL.out; rw [List.length_append]; unfold maxLen; simp; omega))
                      have HLN : Hid ((l ++ [1]).length ≤ 300) := Lib.hid (by have := HLL.out; rw [List.length_append]; simp; omega)
                      have HO5 : Hid (Only (fun _ => False) w1 w5) := Lib.hid (cells_any (HPB.out _) hgrow (HX.out.alloc _) HBK.out)
                      have hs4 := HX.out.size
                      have HK5 : Hid (∀ k, v5.ownBlock = some k → w1.heap.size ≤ k) := Lib.hid (fun k e => by
                        rcases hkk k e with h | h
                        · exact HBK.out k h
                        · omega)
                      obtain ⟨g5, c5, rfl, -⟩ := owns_form hown (by omega)
                      clear hown hgrow hkk HPB HB hs4 HLL
                      go_wp2_with fail
                      go_meet
                      exact ⟨_, _, c5, l ++ [1], rfl, by have := HLN.out; rw [List.length_append] at this; exact this, Lib.hid (List.length_append), HB5, HK5, HO5⟩
                  clear HB HBK HX HLL
                  obtain ⟨a9, n9, c9, l9, rfl, hl9, HN9, HB, HBK, HX⟩ := hcut
                  rename World => w7
                  clear y0 y1 y2 y3 y4 y5
                  have HR7 : Hid (Reads w7 a9 n9 l9) := Lib.hid (by
                    rcases HB.out.1.2 with ⟨hv, hn⟩ | ⟨g5, cap, cur, hv, _⟩
                    · exact ⟨HN9.out, by unfold maxLen; omega, HB.out.2.1, .inl (by have := HN9.out; omega)⟩
                    · injection hv with hv1
                      rw [hv1]
                      have h := HB.out
                      rw [hv1] at h
                      exact h.reads HN9.out.symm)
                  have hcv := conv_reads HR7.out c9
                  have HNB : Hid (∀ x, a9 = some x → ¬ Bth p bl bm q bL bN bD x.block) := Lib.hid (fun x e s => by
                    have h1 := HBK.out x.block (by
                      rcases HB.out.1.2 with ⟨hv, hn⟩ | ⟨g5, cap, cur, hv, _⟩
                      · injection hv with hv; rw [e] at hv; cases hv
                      · injection hv with hv; rw [e] at hv; injection hv with hv; rw [hv, e, hv]; rfl)
                    obtain ⟨off, L, C, cut, La, No, Di, armed, h2, h3, -⟩ := HD1.out
                    have hlt := h2.lt
                    have e0 := World.block_lt_of_cell? w1 _ h3.c0
                    have eL := World.block_lt_of_cell? w1 _ (h3.rL 0 (by have := h3.h1; omega)).1
                    have eN := World.block_lt_of_cell? w1 _ (h3.rN 0 (by have := h3.h1; omega)).1
                    have eD := World.block_lt_of_cell? w1 _ (h3.rD 0 (by have := h3.h1; omega)).1
                    simp only at e0 eL eN eD
                    rcases s with (h | h | h) | (h | h | h | h) <;> omega)
                  have HBY : Hid (Bytes w7 a9 n9 c9 l9) := Lib.hid (by
                    refine ⟨HR7.out, ?_⟩
                    rcases HB.out.1.2 with ⟨hv, hn⟩ | ⟨g5, cap, cur, hv, hg5, hh, hc, hm, _⟩
                    · injection hv with hv1 hv2 hv3
                      exact ⟨by omega, by unfold maxLen; omega, fun _ => hv3⟩
                    · injection hv with hv1 hv2 hv3
                      exact ⟨by have := HN9.out; omega, by omega, fun e => by rw [e] at hv1; cases hv1⟩)
                  obtain ⟨sb, hsb⟩ : ∃ x, strN l9 = x := ⟨_, rfl⟩
                  have HSB := Lib.hid hsb
                  have HWB : Hid (∀ w', Only (fun _ => False) w7 w' → Calls Try.prog 10 #[.pointer (some ⟨p, 0, none⟩), .int .i64 at_, .slice a9 n9 c9] w' fun e w1 => ∃ er : Int, e = .returned (.int .i64 er) ∧ Only (Dbl p bl bm) w' w1 ∧
                        Calls Try.prog 11 #[.pointer (some ⟨q, 0, none⟩), .int .i64 at_, .string sb] w1 fun e w2 => e = .returned (.int .i64 er) ∧ Only (Dd4 q bL bN bD) w1 w2 ∧ DD p bl bm q bL bN bD M cL cN cD w2) := Lib.hid (fun w' ho => by
                    rw [← HSB.out]
                    exact write_both HPP.out (HD1.out.quiet (HX.out.trans ho)) at_ hA a9 n9 c9 l9 (HBY.out.only ho (fun _ _ f => f)) (fun x e s => HNB.out x e (.inl s)) (by omega))
                  have HRZ : Hid (∀ w', Only (Bth p bl bm q bL bN bD) w7 w' → Reads w' a9 n9 l9) := Lib.hid (fun w' ho => HR7.out.only ho HNB.out)
                  have HBZ : Hid (∀ w', Only (Bth p bl bm q bL bN bD) w7 w' → w'.cell? ⟨g, 1, none⟩ = some (.int .i64 at_)) := Lib.hid (fun w' ho => ho.cell' (HBQ.out _ _ HX.out (fun f => f)).2.1 (fun h => HGN.out g h rfl))
                  have hss : (sb.toList == sb.toList) = true := by simp
                  rw [hsb] at hcv
                  clear hsb
                  go_upto_region 25 with fail
                  clear hcv
                  refine wp_region_noPanic ?_
                  refine late.region (fun w' => w'.cell? ⟨g, 1, none⟩ = some (.int .i64 at_)) (fun j => [].contains j) (by kernel_rfl) ((HBZ.out _ ((Only.refl _ _).drew))) (fun hHeld => ?_)
                  obtain ⟨z0, hz0'⟩ : ∃ x, x = w7.drew := ⟨_, rfl⟩
                  rw [← hz0'] at hHeld ⊢
                  have hot : Hid (Only (fun _ => False) w7 z0) := Lib.hid (by rw [hz0']; exact (Only.refl _ _).drew)
                  clear hz0'
                  refine late.take (i := 0) [4, 9, 10, 11, 12, 13, 14, 15, 16] (v := ?_) rfl (by kernel_rfl) (by kernel_rfl) (by kernel_rfl) (by kernel_rfl) (fun _ _ _ h => h) (Or.inl ⟨by rfl, ?_⟩) (by assumption) ?_
                  rotate_left 1
                  · intro w' hSw
                    try dsimp only at hSw
                    go_simp
                    try with_reducible rfl
                  try simp only [List.getElem_toArray, List.getElem_cons_zero, Act.put, List.setIfInBounds_toArray, List.set_cons_zero, List.set_cons_succ]
                  refine late.take (i := 1) [2, 4, 9, 10, 11, 12, 13, 14, 15, 16] (v := ?_) rfl (by kernel_rfl) (by kernel_rfl) (by kernel_rfl) (by kernel_rfl) (fun _ _ _ h => h) (Or.inl ⟨by rfl, ?_⟩) (by assumption) ?_
                  rotate_left 1
                  · intro w' hSw
                    try dsimp only at hSw
                    go_simp
                    try with_reducible rfl
                  try simp only [List.getElem_toArray, List.getElem_cons_zero, List.getElem_cons_succ, Act.put, List.setIfInBounds_toArray, List.set_cons_zero, List.set_cons_succ]
                  refine late.take (i := 2) [4, 9, 10, 11, 12, 13, 14, 15, 16] (v := ?_) rfl (by kernel_rfl) (by kernel_rfl) (by kernel_rfl) (by kernel_rfl) (fun _ _ _ h => h) (Or.inl ⟨by rfl, ?_⟩) (by assumption) ?_
                  rotate_left 1
                  · intro w' hSw
                    try dsimp only at hSw
                    go_simp
                    try with_reducible rfl
                  try simp only [List.getElem_toArray, List.getElem_cons_zero, List.getElem_cons_succ, Act.put, List.setIfInBounds_toArray, List.set_cons_zero, List.set_cons_succ]
                  refine late.take (i := 3) [4, 9, 10, 11, 12, 13, 14, 15, 16] (v := ?_) rfl (by kernel_rfl) (by kernel_rfl) (by kernel_rfl) (by kernel_rfl) (fun _ _ _ h => h) (Or.inl ⟨by rfl, ?_⟩) (by assumption) ?_
                  rotate_left 1
                  · intro w' hSw
                    try dsimp only at hSw
                    go_simp
                    try with_reducible rfl
                  try simp only [List.getElem_toArray, List.getElem_cons_zero, List.getElem_cons_succ, Act.put, List.setIfInBounds_toArray, List.set_cons_zero, List.set_cons_succ]
                  refine late.take (i := 5) [9, 10, 11, 12, 13, 14, 15, 16] (v := ?_) rfl (by kernel_rfl) (by kernel_rfl) (by kernel_rfl) (by kernel_rfl) (fun _ _ _ h => h) (Or.inl ⟨by rfl, ?_⟩) (by assumption) ?_
                  rotate_left 1
                  · intro w' hSw
                    try dsimp only at hSw
                    go_simp
                    try with_reducible rfl
                  try simp only [List.getElem_toArray, List.getElem_cons_zero, List.getElem_cons_succ, Act.put, List.setIfInBounds_toArray, List.set_cons_zero, List.set_cons_succ]
                  refine late.take (i := 6) [7, 9, 10, 11, 12, 13, 14, 15, 16] (v := ?_) rfl (by kernel_rfl) (by kernel_rfl) (by kernel_rfl) (by kernel_rfl) (fun _ _ _ h => h) (Or.inl ⟨by rfl, ?_⟩) (by assumption) ?_
                  rotate_left 1
                  · intro w' hSw
                    try dsimp only at hSw
                    go_simp
                    try with_reducible rfl
                  try simp only [List.getElem_toArray, List.getElem_cons_zero, List.getElem_cons_succ, Act.put, List.setIfInBounds_toArray, List.set_cons_zero, List.set_cons_succ]
                  refine late.take (i := 7) [9, 10, 11, 12, 13, 14, 15, 16] (v := ?_) rfl (by kernel_rfl) (by kernel_rfl) (by kernel_rfl) (by kernel_rfl) (fun _ _ _ h => h) (Or.inl ⟨by rfl, ?_⟩) (by assumption) ?_
                  rotate_left 1
                  · intro w' hSw
                    try dsimp only at hSw
                    go_simp
                    try with_reducible rfl
                  try simp only [List.getElem_toArray, List.getElem_cons_zero, List.getElem_cons_succ, Act.put, List.setIfInBounds_toArray, List.set_cons_zero, List.set_cons_succ]
                  refine late.take (i := 8) [9, 10, 11, 12, 13, 14, 15, 16] (v := ?_) rfl (by kernel_rfl) (by kernel_rfl) (by kernel_rfl) (by kernel_rfl) (fun _ _ _ h => h) (Or.inl ⟨by rfl, ?_⟩) (by assumption) ?_
                  rotate_left 1
                  · intro w' hSw
                    try dsimp only at hSw
                    go_simp
                    try with_reducible rfl
                  try simp only [List.getElem_toArray, List.getElem_cons_zero, List.getElem_cons_succ, Act.put, List.setIfInBounds_toArray, List.set_cons_zero, List.set_cons_succ]
                  refine late.ready (rs := [4]) (by kernel_rfl) (by simp) ?_
                  refine late.Each.cons rfl (fun K hK => ?_) late.Each.nil
                  try simp only [List.getElem_toArray, List.getElem_cons_zero, List.getElem_cons_succ]
                  go_simp
                  go_at_call 10
                  with_reducible refine (HWB.out _ hot.out).mono ?_
                  rintro _ z1 ⟨er, rfl, hoA, hdw⟩
                  have HOA : Hid (Only (Bth p bl bm q bL bN bD) w7 z1) := Lib.hid ((hot.out.mono (fun _ _ f => f.elim)).trans (hoA.mono (fun _ _ h => .inl h)))
                  have HDW := Lib.hid hdw
                  clear hoA hdw hot
                  try dsimp only
                  refine hK.out _ _ (fun _ => (HBZ.out _ HOA.out)) (fun hHeld1 => ?_)
                  replace hHeld1 := hHeld1 rfl
                  clear hK K
                  clear HWB
                  try simp only [List.getElem_toArray, List.getElem_cons_zero, List.getElem_cons_succ, Act.put, List.setIfInBounds_toArray, List.set_cons_zero, List.set_cons_succ]
                  refine late.ready (rs := [9]) (by kernel_rfl) (by simp) ?_
                  refine late.Each.cons rfl (fun K hK => ?_) late.Each.nil
                  try simp only [List.getElem_toArray, List.getElem_cons_zero, List.getElem_cons_succ]
                  go_simp
                  go_at_call 11
                  with_reducible refine HDW.out.mono ?_
                  rintro _ z2 ⟨rfl, hoB, hdd⟩
                  have HOB : Hid (Only (Bth p bl bm q bL bN bD) w7 z2) := Lib.hid (HOA.out.trans (hoB.mono (fun _ _ h => .inr h)))
                  have HDZ := Lib.hid hdd
                  have hcv := conv_reads (HRZ.out _ HOB.out) c9
                  have hee : (er != er) = false := by simp
                  rw [HSB.out] at hcv
                  clear hoB hdd HDW HOA
                  try dsimp only
                  refine hK.out _ _ (fun _ => (HBZ.out _ HOB.out)) (fun hHeld2 => ?_)
                  replace hHeld2 := hHeld2 rfl
                  clear hK K
                  try simp only [List.getElem_toArray, List.getElem_cons_zero, List.getElem_cons_succ, Act.put, List.setIfInBounds_toArray, List.set_cons_zero, List.set_cons_succ]
                  refine late.take (i := 10) [11, 12, 13, 14, 15, 16] (v := ?_) rfl (by kernel_rfl) (by kernel_rfl) (by kernel_rfl) (by kernel_rfl) (fun _ _ _ h => h) (Or.inl ⟨by rfl, ?_⟩) (by assumption) ?_
                  rotate_left 1
                  · intro w' hSw
                    try dsimp only at hSw
                    go_simp
                    try with_reducible rfl
                  try simp only [List.getElem_toArray, List.getElem_cons_zero, List.getElem_cons_succ, Act.put, List.setIfInBounds_toArray, List.set_cons_zero, List.set_cons_succ]
                  refine late.take (i := 11) [12, 13, 14, 15, 16] (v := ?_) rfl (by kernel_rfl) (by kernel_rfl) (by kernel_rfl) (by kernel_rfl) (fun _ _ _ h => h) (Or.inl ⟨by rfl, ?_⟩) (by assumption) ?_
                  rotate_left 1
                  · intro w' hSw
                    try dsimp only at hSw
                    go_simp
                    try with_reducible rfl
                  try simp only [List.getElem_toArray, List.getElem_cons_zero, List.getElem_cons_succ, Act.put, List.setIfInBounds_toArray, List.set_cons_zero, List.set_cons_succ]
                  refine late.take (i := 12) [13, 15, 16] (v := ?_) rfl (by kernel_rfl) (by kernel_rfl) (by kernel_rfl) (by kernel_rfl) (fun _ _ _ h => h) (Or.inl ⟨by rfl, ?_⟩) (by assumption) ?_
                  rotate_left 1
                  · intro w' hSw
                    try dsimp only at hSw
                    go_simp
                    try with_reducible rfl
                  try simp only [List.getElem_toArray, List.getElem_cons_zero, List.getElem_cons_succ, Act.put, List.setIfInBounds_toArray, List.set_cons_zero, List.set_cons_succ]
                  refine late.take (i := 14) [15, 16] (v := ?_) rfl (by kernel_rfl) (by kernel_rfl) (by kernel_rfl) (by kernel_rfl) (fun _ _ _ h => h) (Or.inl ⟨by rfl, ?_⟩) (by assumption) ?_
                  rotate_left 1
                  · intro w' hSw
                    try dsimp only at hSw
                    go_simp
                    try with_reducible rfl
                  try simp only [List.getElem_toArray, List.getElem_cons_zero, List.getElem_cons_succ, Act.put, List.setIfInBounds_toArray, List.set_cons_zero, List.set_cons_succ]
                  refine late.ready (rs := [13]) (by kernel_rfl) (by simp) ?_
                  refine late.Each.cons rfl (fun K hK => ?_) late.Each.nil
                  try simp only [List.getElem_toArray, List.getElem_cons_zero, List.getElem_cons_succ]
                  go_simp
                  refine hK.out _ _ (fun _ => (HBZ.out _ HOB.out)) (fun hHeld3 => ?_)
                  replace hHeld3 := hHeld3 rfl
                  clear hK K
                  try simp only [List.getElem_toArray, List.getElem_cons_zero, List.getElem_cons_succ, Act.put, List.setIfInBounds_toArray, List.set_cons_zero, List.set_cons_succ]
                  refine late.take (i := 15) [16] (v := ?_) rfl (by kernel_rfl) (by kernel_rfl) (by kernel_rfl) (by kernel_rfl) (fun _ _ _ h => h) (Or.inl ⟨by rfl, ?_⟩) (by assumption) ?_
                  rotate_left 1
                  · intro w' hSw
                    try dsimp only at hSw
                    go_simp
                    try with_reducible rfl
                  try simp only [List.getElem_toArray, List.getElem_cons_zero, List.getElem_cons_succ, Act.put, List.setIfInBounds_toArray, List.set_cons_zero, List.set_cons_succ]
                  refine late.take (i := 16) [] (v := ?_) rfl (by kernel_rfl) (by kernel_rfl) (by kernel_rfl) (by kernel_rfl) (fun _ _ _ h => h) (Or.inl ⟨by rfl, ?_⟩) (by assumption) ?_
                  rotate_left 1
                  · intro w' hSw
                    try dsimp only at hSw
                    go_simp
                    try with_reducible rfl
                  try simp only [List.getElem_toArray, List.getElem_cons_zero, List.getElem_cons_succ, Act.put, List.setIfInBounds_toArray, List.set_cons_zero, List.set_cons_succ]
                  refine late.done (by kernel_rfl) ?_ _
                  refine NoPanic.normal ?_
                  clear hHeld
                  have HOW : Hid (OwnB z2 (.slice a9 n9 c9) l9) := Lib.hid (HB.out.only HOB.out (fun k hk s => by
                    cases a9 with
                    | none => cases hk
                    | some x => exact HNB.out x rfl (by injection hk with hk; rw [hk]; exact s)))
                  have HXZ : Hid (Only (fun x => base ≤ x) w z2) := Lib.hid ((HX1.out.trans (HX.out.mono (fun _ _ f => f.elim))).trans (HOB.out.mono (fun k _ h => by
                    rcases h with h | h
                    · exact HPP.out.g1 k h
                    · exact HPP.out.g2 k h)))
                  have HXC : Hid (∀ t, t < n9 → ∃ z : Int, z2.cell? ⟨blkD a9, t, none⟩ = some (.int .u8 z) ∧ z2.frozen? ⟨blkD a9, t, none⟩ = false) := Lib.hid (fun t ht => by
                    rcases HOW.out.1.2 with ⟨hv, hn⟩ | ⟨g5, cap, cur, hv, hg5, hh, hc, hm, _⟩
                    · have := HN9.out; omega
                    · have h1 : z2.ownsRow 0 5 1 (.slice (some ⟨g5, 0, none⟩) l9.length cap) l9.length (bv l9) := by rw [← hv]; exact HOW.out.1
                      injection hv with hv1 hv2 hv3
                      subst hv1
                      exact ⟨((l9.getD t 0 : Nat) : Int), by show z2.cell? ⟨g5, t, none⟩ = _; rw [h1.cellAt t (by have := HN9.out; omega), bv_get l9 t (by have := HN9.out; omega)], h1.frozenAt t⟩)
                  have HBL : Hid (∀ y, a9 = some y → ∀ k, y.block = k → base ≤ k) := Lib.hid (fun y e k e2 => by
                    rcases HB.out.1.2 with ⟨hv, hn⟩ | ⟨g5, cap, cur, hv, _⟩
                    · injection hv with hv1; rw [e] at hv1; cases hv1
                    · injection hv with hv1 hv2 hv3
                      rw [e] at hv1
                      injection hv1 with hv1
                      subst hv1
                      have h1 := HBK.out g5 (by rw [e]; rfl)
                      have e2 : g5 = k := e2
                      have := HGL.out; have := HGB.out; omega)
                  have HG9 : Hid (0 < n9 → ∃ g, a9 = some ⟨g, 0, none⟩ ∧ base ≤ g) := Lib.hid (fun h0 => by
                    rcases HB.out.1.2 with ⟨hv, hn⟩ | ⟨g5, cap, cur, hv, _⟩
                    · have := HN9.out; omega
                    · injection hv with hv1 hv2 hv3
                      subst hv1
                      exact ⟨g5, rfl, by have := HBK.out g5 rfl; have := HGL.out; have := HGB.out; omega⟩)
                  clear HOW HBZ HRZ HR7 HBY HB HBK HX HX1 HD1 HOB hcv hss hee HSB
                  go_wp2_with fail
                  go_loopw [17] (fun iv wx => ∃ t : Nat, t ≤ n9 ∧ iv = .int .i64 (t : Int) ∧ Hid (∀ t, t < n9 → ∃ z : Int, wx.cell? ⟨blkD a9, t, none⟩ = some (.int .u8 z) ∧ wx.frozen? ⟨blkD a9, t, none⟩ = false) ∧ Hid (Only (fun x => ∃ y, a9 = some y ∧ y.block = x) z2 wx)) (fun iv _ => n9 - (intOf iv).toNat)
                  case atStart => exact ⟨0, by omega, rfl, HXC, Lib.hid (Only.refl _ _)⟩
                  case round =>
                    clear HXC
                    obtain ⟨t, ht, rfl, HXC, HXX⟩ := hrel
                    rename World => wx
                    by_cases ht8 : t < n9
                    · have hti : (t : Int) < (n9 : Int) := by omega
                      have ht0 : (0 : Int) ≤ (t : Int) := by omega
                      obtain ⟨g8, rfl, -⟩ := HG9.out (by omega)
                      obtain ⟨z, hz, hzf⟩ := HXC.out t ht8
                      have hz : wx.cell? ⟨g8, t, none⟩ = some (.int .u8 z) := hz
                      have hzf : wx.frozen? ⟨g8, t, none⟩ = false := hzf
                      have HNX : Hid (∀ u : Int, ∀ t' : Nat, t' < n9 → ∃ z : Int, (wx.setCell ⟨g8, t, none⟩ (.int .u8 u)).cell? ⟨g8, t', none⟩ = some (.int .u8 z) ∧ (wx.setCell ⟨g8, t, none⟩ (.int .u8 u)).frozen? ⟨g8, t', none⟩ = false) := Lib.hid (fun u t' ht' => by
                        obtain ⟨z', h1, h2⟩ := HXC.out t' ht'
                        by_cases e : t' = t
                        · rw [e]
                          exact ⟨u, cell_same hz, by rw [frozen_set]; exact hzf⟩
                        · exact ⟨z', by rw [cell_other (fun e2 => by injection e2 with _ e2; omega)]; exact h1, by rw [frozen_set]; exact h2⟩)
                      have HOX : Hid (∀ u : Value, Only (fun x => ∃ y, (some ⟨g8, 0, none⟩ : Option Addr) = some y ∧ y.block = x) z2 (wx.setCell ⟨g8, t, none⟩ u)) := Lib.hid (fun u => HXX.out.trans ((Only.refl _ wx).setCell (p := ⟨g8, t, none⟩) (.inl ⟨_, rfl, rfl⟩) u))
                      clear HXC HXX
                      go_wp2_with fail
                      go_roundw
                      case rel => exact ⟨t + 1, by omega, by go_num, Lib.hid (fun t' h => HNX.out _ t' h), Lib.hid (HOX.out _)⟩
                      case measure => (simp [intOf]; omega)
                    · have hti : ¬ (t : Int) < (n9 : Int) := by omega
                      have HD9 : Hid (DD p bl bm q bL bN bD M cL cN cD wx) := Lib.hid (HDZ.out.only HXX.out (fun k hk ⟨y, e1, e2⟩ => HNB.out y e1 (by rw [e2]; exact hk)))
                      have HX9 : Hid (Only (fun x => base ≤ x) w wx) := Lib.hid (HXZ.out.trans (HXX.out.mono (fun k _ ⟨y, e1, e2⟩ => HBL.out y e1 k e2)))
                      clear HXC HXX HDZ HXZ HG9
                      go_wp2_with fail
                      go_meet
                      exact ⟨rfl, HD9, HX9⟩
            · have HSB := Lib.hid (sync_both HPP.out HD1.out)
              clear HD1
              go_wp2_with fail
              refine HSB.out.mono ?_
              rintro _ w2 ⟨er, rfl, ho2, hds⟩
              have HO2 := Lib.hid ho2
              have HDS := Lib.hid hds
              clear ho2 hds HSB
              go_wp2_with fail
              refine HDS.out.mono ?_
              rintro _ w3 ⟨rfl, ho3, hd3⟩
              have HD2 := Lib.hid hd3
              have hee : (er != er) = false := by simp
              have HX2 : Hid (Only (fun x => base ≤ x) w w3) := Lib.hid ((HX1.out.trans (HO2.out.mono (fun k _ h => HPP.out.g1 k h))).trans (ho3.mono (fun k _ h => HPP.out.g2 k h)))
              clear ho3 hd3 HDS HO2 HX1 y0 y1 y2 y3 y4 y5
              go_wp2_with fail
              go_meet
              exact ⟨rfl, HD2, HX2⟩
            · have HCB := Lib.hid (cut_both HPP.out HD1.out nn hNn)
              clear HD1
              go_wp2_with fail
              refine HCB.out.mono ?_
              rintro _ w2 ⟨rfl, ho2, ⟨z3, c3⟩, f3, hd2⟩
              have HD2 := Lib.hid hd2
              have HX2 : Hid (Only (fun x => base ≤ x) w (w2.setCell ⟨q, 3, none⟩ (.int .i64 (max nn 0)))) := Lib.hid ((HX1.out.trans (ho2.mono (fun k _ h => HPP.out.g1 k h))).setCell (p := ⟨q, 3, none⟩) (.inl (HPP.out.g2 q (.inl rfl))) _)
              clear y0 y1 y2 y3 y4 y5
              obtain ⟨y0, y1, y2, y3, y4, y5⟩ := HBQ.out _ _ ho2 (fun h => HGN.out g (.inl h) rfl)
              clear hd2 ho2 HCB HX1
              obtain ⟨mx, hmx⟩ : ∃ x, max nn 0 = x := ⟨_, rfl⟩
              rw [hmx] at HD2 HX2
              go_wp2_with fail
              go_meet
              exact ⟨rfl, HD2, HX2⟩
            · have HCB := Lib.hid (crash_both HPP.out HD1.out ka kn kc kl HK1.out.1 (fun h0 x e s => by
                have h1 := HK1.out.2 h0 x e
                rcases s with s | s
                · have := HPP.out.g1 _ s; omega
                · have := HPP.out.g2 _ s; omega))
              clear HD1
              go_wp2_with fail
              refine HCB.out.mono ?_
              rintro _ w2 ⟨rfl, ho2, hdc⟩
              have HDC := Lib.hid hdc
              have HO2 := Lib.hid ho2
              clear ho2 hdc HCB y0 y1 y2 y3 y4 y5
              obtain ⟨y0, y1, y2, y3, y4, y5⟩ := HBQ.out _ _ HO2.out (fun h => HGN.out g (.inl h) rfl)
              go_wp2_with fail
              refine HDC.out.mono ?_
              rintro _ w3 ⟨rfl, ho3, hd3⟩
              have HD2 : Hid (DD p bl bm q bL bN bD M cL cN cD w3) := Lib.hid ⟨_, hd3⟩
              have HX2 : Hid (Only (fun x => base ≤ x) w w3) := Lib.hid ((HX1.out.trans (HO2.out.mono (fun k _ h => HPP.out.g1 k h))).trans (ho3.mono (fun k _ h => HPP.out.g2 k h)))
              clear ho3 hd3 HDC HO2 HX1 y0 y1 y2 y3 y4 y5
              go_wp2_with fail
              go_meet
              exact ⟨rfl, HD2, HX2⟩
          obtain ⟨rfl, HDC, HXC⟩ := hcut
          rename World => wc
          obtain ⟨off, hdo⟩ := HDC.out
          obtain ⟨lq, hlq, hlr, hask⟩ := ask_both hdo
          have HASK := Lib.hid hask
          have hoo : (off != off) = false := by cases off <;> rfl
          clear hdo hask HD1 HX1 HK1 HBQ y0 y1 y2 y3 y4 y5
          go_upto_region 40 with fail
          refine wp_region_noPanic ?_
          refine late.region (fun w' => w'.cell? ⟨q, 4, none⟩ = some (.bool off)) (fun j => [].contains j) (by kernel_rfl) (((HASK.out _ ((Only.refl _ _).drew)).1)) (fun hHeld => ?_)
          obtain ⟨z0, hz0'⟩ : ∃ x, x = wc.drew := ⟨_, rfl⟩
          rw [← hz0'] at hHeld ⊢
          have hot : Hid (Only (fun _ => False) wc z0) := Lib.hid (by rw [hz0']; exact (Only.refl _ _).drew)
          clear hz0'
          refine late.take (i := 0) [1, 6, 7, 8, 9, 10, 11, 12, 13, 14] (v := ?_) rfl (by kernel_rfl) (by kernel_rfl) (by kernel_rfl) (by kernel_rfl) (fun _ _ _ h => h) (Or.inl ⟨by rfl, ?_⟩) (by assumption) ?_
          rotate_left 1
          · intro w' hSw
            try dsimp only at hSw
            go_simp
            try with_reducible rfl
          try simp only [List.getElem_toArray, List.getElem_cons_zero, Act.put, List.setIfInBounds_toArray, List.set_cons_zero, List.set_cons_succ]
          refine late.take (i := 2) [3, 4, 5, 6, 7, 8, 9, 10, 11, 12, 13, 14] (v := ?_) rfl (by kernel_rfl) (by kernel_rfl) (by kernel_rfl) (by kernel_rfl) (fun _ _ _ h => h) (Or.inl ⟨by rfl, ?_⟩) (by assumption) ?_
          rotate_left 1
          · intro w' hSw
            try dsimp only at hSw
            go_simp
            try with_reducible rfl
          try simp only [List.getElem_toArray, List.getElem_cons_zero, List.getElem_cons_succ, Act.put, List.setIfInBounds_toArray, List.set_cons_zero, List.set_cons_succ]
          refine late.take (i := 3) [4, 5, 6, 7, 8, 9, 10, 11, 12, 13, 14] (v := ?_) rfl (by kernel_rfl) (by kernel_rfl) (by kernel_rfl) (by kernel_rfl) (fun _ _ _ h => h) (Or.inl ⟨by rfl, ?_⟩) (by assumption) ?_
          rotate_left 1
          · intro w' hSw
            try dsimp only at hSw
            go_simp
            try with_reducible rfl
          try simp only [List.getElem_toArray, List.getElem_cons_zero, List.getElem_cons_succ, Act.put, List.setIfInBounds_toArray, List.set_cons_zero, List.set_cons_succ]
          refine late.take (i := 4) [5, 6, 7, 8, 9, 10, 11, 12, 13, 14] (v := ?_) rfl (by kernel_rfl) (by kernel_rfl) (by kernel_rfl) (by kernel_rfl) (fun _ _ _ h => h) (Or.inl ⟨by rfl, ?_⟩) (by assumption) ?_
          rotate_left 1
          · intro w' hSw
            try dsimp only at hSw
            go_simp
            try with_reducible rfl
          try simp only [List.getElem_toArray, List.getElem_cons_zero, List.getElem_cons_succ, Act.put, List.setIfInBounds_toArray, List.set_cons_zero, List.set_cons_succ]
          refine late.take (i := 5) [6, 7, 8, 9, 10, 11, 12, 13, 14] (v := ?_) rfl (by kernel_rfl) (by kernel_rfl) (by kernel_rfl) (by kernel_rfl) (fun _ _ _ h => h) (Or.inl ⟨by rfl, ?_⟩) (by assumption) ?_
          rotate_left 1
          · intro w' hSw
            try dsimp only at hSw
            go_simp
            try with_reducible rfl
          try simp only [List.getElem_toArray, List.getElem_cons_zero, List.getElem_cons_succ, Act.put, List.setIfInBounds_toArray, List.set_cons_zero, List.set_cons_succ]
          refine late.ready (rs := [1]) (by kernel_rfl) (by simp) ?_
          refine late.Each.cons rfl (fun K hK => ?_) late.Each.nil
          try simp only [List.getElem_toArray, List.getElem_cons_zero, List.getElem_cons_succ]
          go_simp
          go_at_call 17
          with_reducible refine ((HASK.out _ hot.out).2.1).mono ?_
          rintro _ z1 ⟨rfl, rfl⟩
          try dsimp only
          refine hK.out _ _ (fun _ => ((HASK.out _ hot.out).1)) (fun hHeld1 => ?_)
          replace hHeld1 := hHeld1 rfl
          clear hK K
          try simp only [List.getElem_toArray, List.getElem_cons_zero, List.getElem_cons_succ, Act.put, List.setIfInBounds_toArray, List.set_cons_zero, List.set_cons_succ]
          refine late.take (i := 6) [7, 8, 9, 10, 11, 12, 13, 14] (v := ?_) rfl (by kernel_rfl) (by kernel_rfl) (by kernel_rfl) (by kernel_rfl) (fun _ _ _ h => h) (Or.inl ⟨by rfl, ?_⟩) (by assumption) ?_
          rotate_left 1
          · intro w' hSw
            try dsimp only at hSw
            go_simp
            try with_reducible rfl
          try simp only [List.getElem_toArray, List.getElem_cons_zero, List.getElem_cons_succ, Act.put, List.setIfInBounds_toArray, List.set_cons_zero, List.set_cons_succ]
          refine late.take (i := 7) [8, 9, 10, 11, 12, 13, 14] (v := ?_) rfl (by kernel_rfl) (by kernel_rfl) (by kernel_rfl) (by kernel_rfl) (fun _ _ _ h => h) (Or.inl ⟨by rfl, ?_⟩) (by assumption) ?_
          rotate_left 1
          · intro w' hSw
            try dsimp only at hSw
            go_simp
            try with_reducible rfl
          try simp only [List.getElem_toArray, List.getElem_cons_zero, List.getElem_cons_succ, Act.put, List.setIfInBounds_toArray, List.set_cons_zero, List.set_cons_succ]
          refine late.take (i := 8) [9, 11, 12, 13, 14] (v := ?_) rfl (by kernel_rfl) (by kernel_rfl) (by kernel_rfl) (by kernel_rfl) (fun _ _ _ h => h) (Or.inl ⟨by rfl, ?_⟩) (by assumption) ?_
          rotate_left 1
          · intro w' hSw
            try dsimp only at hSw
            go_simp
            try with_reducible rfl
          try simp only [List.getElem_toArray, List.getElem_cons_zero, List.getElem_cons_succ, Act.put, List.setIfInBounds_toArray, List.set_cons_zero, List.set_cons_succ]
          refine late.take (i := 10) [11, 12, 13, 14] (v := ?_) rfl (by kernel_rfl) (by kernel_rfl) (by kernel_rfl) (by kernel_rfl) (fun _ _ _ h => h) (Or.inl ⟨by rfl, ?_⟩) (by assumption) ?_
          rotate_left 1
          · intro w' hSw
            try dsimp only at hSw
            go_simp
            try with_reducible rfl
          try simp only [List.getElem_toArray, List.getElem_cons_zero, List.getElem_cons_succ, Act.put, List.setIfInBounds_toArray, List.set_cons_zero, List.set_cons_succ]
          refine late.ready (rs := [9]) (by kernel_rfl) (by simp) ?_
          refine late.Each.cons rfl (fun K hK => ?_) late.Each.nil
          try simp only [List.getElem_toArray, List.getElem_cons_zero, List.getElem_cons_succ]
          go_simp
          go_at_call 19
          with_reducible refine ((HASK.out _ hot.out).2.2.1).mono ?_
          rintro _ z2 ⟨a2, c2, rfl, hr2, ho2⟩
          have HR2 := Lib.hid hr2
          replace hot := Lib.hid (hot.out.trans ho2)
          clear hr2 ho2
          try dsimp only
          refine hK.out _ _ (fun _ => ((HASK.out _ hot.out).1)) (fun hHeld2 => ?_)
          replace hHeld2 := hHeld2 rfl
          clear hK K
          try simp only [List.getElem_toArray, List.getElem_cons_zero, List.getElem_cons_succ, Act.put, List.setIfInBounds_toArray, List.set_cons_zero, List.set_cons_succ]
          refine late.ready (rs := [11]) (by kernel_rfl) (by simp) ?_
          refine late.Each.cons rfl (fun K hK => ?_) late.Each.nil
          try simp only [List.getElem_toArray, List.getElem_cons_zero, List.getElem_cons_succ]
          go_simp
          go_at_call 20
          with_reducible refine ((HASK.out _ hot.out).2.2.2).mono ?_
          rintro _ z3 ⟨a3, c3, rfl, hr3, ho3⟩
          have HR3 := Lib.hid hr3
          replace HR2 := Lib.hid (HR2.out.only ho3 (fun _ _ f => f))
          replace hot := Lib.hid (hot.out.trans ho3)
          clear hr3 ho3
          try dsimp only
          refine hK.out _ _ (fun _ => ((HASK.out _ hot.out).1)) (fun hHeld3 => ?_)
          replace hHeld3 := hHeld3 rfl
          clear hK K
          try simp only [List.getElem_toArray, List.getElem_cons_zero, List.getElem_cons_succ, Act.put, List.setIfInBounds_toArray, List.set_cons_zero, List.set_cons_succ]
          refine late.ready (rs := [12]) (by kernel_rfl) (by simp) ?_
          refine late.Each.cons rfl (fun K hK => ?_) late.Each.nil
          try simp only [List.getElem_toArray, List.getElem_cons_zero, List.getElem_cons_succ]
          go_simp
          go_at_call 18
          with_reducible refine (owi.same_any a2 a3 _ c2 c3 lq _ HR2.out HR3.out).mono ?_
          rintro _ z4 ⟨rfl, ho4⟩
          replace hot := Lib.hid (hot.out.trans ho4)
          clear ho4
          try dsimp only
          refine hK.out _ _ (fun _ => ((HASK.out _ hot.out).1)) (fun hHeld4 => ?_)
          replace hHeld4 := hHeld4 rfl
          clear hK K
          try simp only [List.getElem_toArray, List.getElem_cons_zero, List.getElem_cons_succ, Act.put, List.setIfInBounds_toArray, List.set_cons_zero, List.set_cons_succ]
          refine late.take (i := 13) [14] (v := ?_) rfl (by kernel_rfl) (by kernel_rfl) (by kernel_rfl) (by kernel_rfl) (fun _ _ _ h => h) (Or.inl ⟨by rfl, ?_⟩) (by assumption) ?_
          rotate_left 1
          · intro w' hSw
            try dsimp only at hSw
            go_simp
            try with_reducible rfl
          try simp only [List.getElem_toArray, List.getElem_cons_zero, List.getElem_cons_succ, Act.put, List.setIfInBounds_toArray, List.set_cons_zero, List.set_cons_succ]
          refine late.take (i := 14) [] (v := ?_) rfl (by kernel_rfl) (by kernel_rfl) (by kernel_rfl) (by kernel_rfl) (fun _ _ _ h => h) (Or.inl ⟨by rfl, ?_⟩) (by assumption) ?_
          rotate_left 1
          · intro w' hSw
            try dsimp only at hSw
            go_simp
            try with_reducible rfl
          try simp only [List.getElem_toArray, List.getElem_cons_zero, List.getElem_cons_succ, Act.put, List.setIfInBounds_toArray, List.set_cons_zero, List.set_cons_succ]
          refine late.done (by kernel_rfl) ?_ _
          refine NoPanic.normal ?_
          clear hHeld
          have HDN : Hid (DD p bl bm q bL bN bD M cL cN cD z4) := Lib.hid (HDC.out.quiet hot.out)
          have HXN : Hid (Only (fun x => base ≤ x) w z4) := Lib.hid (HXC.out.trans (hot.out.mono (fun _ _ f => f.elim)))
          clear hot HASK HDC HXC HR2 HR3
          go_wp2_with fail
          go_roundw
          case rel => exact ⟨i + 1, by omega, by go_num, HDN, HXN⟩
          case measure => (simp [intOf]; omega)
        · have hi20 : ¬ (i : Int) < 50 := by omega
          have hin : (i : Int) < len := by omega
          go_wp2_with fail
          go_meet
          exact ⟨HDD, HO⟩
      · have hin : ¬ (i : Int) < len := by omega
        go_wp2_with fail
        go_meet
        exact ⟨HDD, HO⟩
  have HDC := hcut.1
  have HXC := hcut.2
  rename World => wc
  clear hcut HD3 HX3 HRJ
  have HCB := Lib.hid (crash_both HPP.out HDC.out none 0 0 [] ⟨rfl, by omega, .inl rfl⟩ (fun h => absurd h (by omega)))
  clear HDC
  go_wp2_with fail
  refine HCB.out.mono ?_
  rintro _ w2 ⟨rfl, ho2, hdc⟩
  have HDC := Lib.hid hdc
  have HO2 := Lib.hid ho2
  clear ho2 hdc HCB
  go_wp2_with fail
  refine HDC.out.mono ?_
  rintro _ w3 ⟨rfl, ho3, hd3⟩
  have HRB := Lib.hid (read_both hd3 0 (M : Int) (by omega))
  have hck : chk M false 0 (M : Int) = 0 := by unfold chk; rw [if_neg (by decide), if_pos (by omega)]
  rw [hck] at HRB
  have HX2 : Hid (Only (fun x => base ≤ x) w w3) := Lib.hid ((HXC.out.trans (HO2.out.mono (fun k _ h => HPP.out.g1 k h))).trans (ho3.mono (fun k _ h => HPP.out.g2 k h)))
  clear ho3 hd3 HDC HO2 HXC hck
  go_wp2_with fail
  refine HRB.out.mono ?_
  rintro _ w4 ⟨ra, rn, rc, bs, rfl, hrd, ho4, hdr⟩
  have HX4 : Hid (Only (fun _ => False) w w4) := Lib.hid ((Only.refl (fun _ => False) w).then (HX2.out.trans (ho4.mono (fun _ _ f => f.elim))) (fun k hk s => by have := HP.out; omega))
  have HDR := Lib.hid hdr
  have HR2 := Lib.hid hrd
  clear hrd ho4 hdr HRB HX2
  go_wp2_with fail
  refine HDR.out.mono ?_
  rintro _ w5 ⟨rfl, rfl⟩
  have hcv := conv_reads HR2.out rc
  have hss : ((strN bs).toList == (strN bs).toList) = true := by simp
  obtain ⟨sb, hsb⟩ : ∃ x, strN bs = x := ⟨_, rfl⟩
  rw [hsb] at hcv hss
  try rw [hsb]

  clear hsb HDR HR2
  go_wp2_with fail
  go_ret
  exact ⟨rfl, HX4.out⟩
theorem djobs_below (n : Int) (a : Option Addr) (len cap : Nat) (w : World) (hrow : RowK w a len) : Calls Try.prog 3 #[.int .i64 n, .slice a len cap] w fun e w' => e = .returned (.bool true) ∧ Below w.heap.size w w' := (djobs_walk n a len cap w hrow).mono (fun e w' h => ⟨h.1, h.2.none⟩)
end Go.Proofs.Ytodmfljhojdbkaa.dskw
