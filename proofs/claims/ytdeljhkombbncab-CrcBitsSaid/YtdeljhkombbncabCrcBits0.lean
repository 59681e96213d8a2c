/- CrcBits's walk. -/
import Derived.Test.YtdeljhkombbncabCrcGoes0
import Derived.Test.YtdeljhkombbncabCrcLin
import Derived.Laws.AppendOwnNone
import Derived.Laws.OwnMore
namespace Go.Proofs.Ytdeljhkombbncab.crcw
open Go.RowKit
open crcm
set_option linter.unusedVariables false

theorem info_u8 : (Try.prog.info? 5).map (fun i => (i.zero, i.size, i.bytes)) = some (some (.int .u8 0), 1, 1) := by kernel_rfl

/-- bytes as values -/
def bv (l : List Nat) : List Value := l.map fun c => Value.int .u8 ((c : Nat) : Int)

theorem bv_length (l : List Nat) : (bv l).length = l.length := by simp [bv]
theorem bv_get (l : List Nat) (i : Nat) (h : i < l.length) : (bv l)[i]? = some (.int .u8 ((l.getD i 0 : Nat) : Int)) := by
  simp [bv, List.getD, h]
theorem bv_one (l : List Nat) : ∀ u ∈ bv l, u.oneCell' = true := by
  intro u hu; simp only [bv, List.mem_map] at hu; obtain ⟨c, _, rfl⟩ := hu; rfl
theorem bv_set (l : List Nat) (i c : Nat) : (bv l).set i (.int .u8 ((c : Nat) : Int)) = bv (l.set i c) := by
  simp [bv, List.map_set]

/-- a row of bytes of the call's own, from its cells -/
theorem Reads.of_owns {w : World} {base n cap g : Nat} {l : List Nat} (h : w.ownsRow base 5 1 (.slice (some ⟨g, 0, none⟩) n cap) n (bv l)) (hm : n ≤ maxLen) (hb : ∀ c ∈ l, c < 256) : Reads w (some ⟨g, 0, none⟩) n l := by
  have hl : l.length = n := by have := h.1; rw [bv_length] at this; omega
  refine ⟨hl, hm, hb, .inr ⟨g, 0, rfl, fun i hi => ?_⟩⟩
  rw [Nat.zero_add, h.cellAt i (by omega), bv_get l i (by omega)]

/-- the cells that an append reads -/
theorem news_of_reads {w : World} {x : Addr} {n : Nat} {l : List Nat} (h : Reads w (some x) n l) : ∀ j u, (bv l)[j]? = some u → w.cell? (x.add j) = some u := by
  intro j u hu
  obtain ⟨hl, _, _, hc⟩ := h
  have hj : j < l.length := by
    rcases Nat.lt_or_ge j l.length with h' | h'
    · exact h'
    · rw [List.getElem?_eq_none (by rw [bv_length]; exact h')] at hu; cases hu
  rcases hc with h0 | ⟨b, off, hx, hcell⟩
  · omega
  · obtain rfl : x = ⟨b, off, none⟩ := by simpa using hx
    rw [add_none, hcell j (by omega), ← bv_get l j hj, hu]

theorem _root_.Go.World.ownsRow.form {w : World} {base n size : Nat} {e : TypeId} {v : Value} {xs : List Value} (h : w.ownsRow base e size v n xs) (hne : v ≠ .slice none 0 0) : ∃ g cap, v = .slice (some ⟨g, 0, none⟩) n cap ∧ base ≤ g := by
  rcases h.2 with ⟨h0, _⟩ | ⟨g, cap, _, hv, hg, _⟩
  · exact absurd h0 hne
  · exact ⟨g, cap, hv, hg⟩

theorem xor_dif (b j : Nat) {c : Nat} (hc : c < 256) : bits .xor .u8 (c : Int) ((b : Int) / 2 ^ (8 * j) % 256) = ((c ^^^ dif b j : Nat) : Int) := by
  have h := u8_xor_nat c (dif b j) hc (dif_lt b j)
  rw [← h]
  unfold dif
  rw [show (256 : Nat) ^ j = 2 ^ (8 * j) by rw [Nat.pow_mul]]
  rw [Int.natCast_emod, Int.natCast_ediv, Int.natCast_pow]
  rfl

theorem Reads.belowB {w w' : World} {g off len B : Nat} {l : List Nat} (h : Reads w (some ⟨g, off, none⟩) len l) (hg : g < B) (hb : Below B w w') : Reads w' (some ⟨g, off, none⟩) len l := by
  obtain ⟨hl, hm, hb', hc⟩ := h
  refine ⟨hl, hm, hb', ?_⟩
  rcases hc with h0 | ⟨b, off, ha, hcell⟩
  · exact .inl h0
  · refine .inr ⟨b, off, ha, fun i hi => ?_⟩
    obtain ⟨rfl, rfl⟩ : g = b ∧ _ = off := by simpa using ha
    exact (hb.cell (p := ⟨g, _ + i, none⟩) hg).trans (hcell i hi)

theorem kmod (a m : Int) (h1 : 1 ≤ m) (h2 : m ≤ 297) : ∃ K : Nat, wrap64 ((IntKind.u64.wrap a).tmod m) = K ∧ (K : Int) < m := by
  have h0 := wrap_u64_nonneg a
  rw [Int.tmod_eq_emod_of_nonneg h0]
  have h3 := Int.emod_nonneg (IntKind.u64.wrap a) (by omega : m ≠ 0)
  have h4 := Int.emod_lt_of_pos (IntKind.u64.wrap a) (by omega : 0 < m)
  refine ⟨(IntKind.u64.wrap a % m).toNat, ?_, by omega⟩
  rw [IntWalk.wrap64_in _ (by omega)]
  omega

set_option maxRecDepth 100000 in
set_option maxHeartbeats 2000000 in
theorem bits_walk (a : Option Addr) (len cap : Nat) (l : List Nat) (at' : Int) (by' : Nat) (hb4 : by' < 4294967296) (hat : (Lit.int .i64 at').wf = true) (w : World) (h : Bytes w a len cap l) :
    Calls Try.prog 4 #[.slice a len cap, .int .i64 at', .int .u32 (by' : Int)] w fun e w' => e = .returned (.bool true) ∧ Below w.heap.size w w' := by
  obtain ⟨hr, hlc, hcm, hnone⟩ := h
  obtain ⟨i0, hi, hz0, hz1, hz2⟩ := info_parts info_u8
  unfold maxLen at hcm
  rcases a with _ | x
  · have := hnone rfl
    obtain rfl : cap = 0 := this
    obtain rfl : len = 0 := by omega
    go_enter Try.func4, Try.ntmps4
    go_wp2_with fail
    refine (sums_any _).mono ?_
    rintro e w1 ⟨rfl, hb1⟩
    have hb2 : Below w.heap.size w w1 := ((Below.refl _ _).alloc (Nat.le_refl _) _).trans (hb1.mono (by simp))
    clear hb1
    go_wp2_with fail
    refine (sums_any _).mono ?_
    rintro e w2 ⟨rfl, hb3⟩
    have hb4 : Below w.heap.size w w2 := hb2.trans (hb3.mono hb2.size)
    clear hb3 hb2
    go_wp2_with fail
    go_ret
    exact ⟨rfl, hb4⟩
  · rcases Nat.lt_or_ge 300 len with hlen | hlen
    all_goals
      obtain ⟨n, hn, hn3, hnl⟩ : ∃ n, n = min len 300 ∧ n ≤ 300 ∧ n ≤ len := ⟨_, rfl, by omega, by omega⟩
      have HR : Hid (Reads w (some x) n (l.take n)) := Lib.hid (hr.take n hnl)
      generalize l.take n = l' at HR
      clear hr hnone
      first | (rw [Nat.min_eq_right (by omega : 300 ≤ len)] at hn; subst hn) | (rw [Nat.min_eq_left (by omega : len ≤ 300)] at hn; subst hn)
      go_enter Try.func4, Try.ntmps4
      go_wp2_with (first | (at_builtin; refine wpList_append_own _ rfl _ _ 22 rfl w.heap.size 5 i0 (.int .u8 0) 1 1 Try.underlying22 hi hz0 hz1 hz2 rfl (by decide) _ _ _ rfl (World.ownsRow_lit w #[] 0 (Nat.le_refl _) (by decide) rfl) x _ _ (bv l') rfl ?c1 ?c2 ?c3 ?c4 ?c5 ?c6 ?_))
      case c1 => rw [bv_length, HR.out.1, Nat.mul_one]
      case c2 => exact news_of_reads (HR.out.alloc _)
      case c3 => exact bv_one l'
      case c4 => unfold maxLen; omega
      case c5 => omega
      case c6 => simp
      intro v' w1 hown hgrow hne
      have hform := hown.form (by simpa using hne)
      obtain ⟨g, c1, hv, hg⟩ := hform
      rw [hv] at hown ⊢
      clear hv hne
      have R1 := Lib.hid (Reads.of_owns hown (by unfold maxLen; omega) HR.out.2.2.1)
      have hb1 : Below w.heap.size w w1 := ((Below.refl _ _).alloc (Nat.le_refl _) _).grown hgrow (by simp) (by intro k hk; simp [Value.ownBlock] at hk; omega)
      have hlb := HR.out.2.2.1
      have hll := HR.out.1
      have HLB := Lib.hid hlb
      have HLL := Lib.hid hll
      clear hown hgrow HR hlb hll
      go_wp2_with fail
      refine (sums_any _).mono ?_
      rintro e w2 ⟨rfl, hb2⟩
      have R2 := Lib.hid (R1.out.below hb2)
      replace hb2 : Below w.heap.size w w2 := hb1.trans (hb2.mono hb1.size)
      clear R1 hb1
      have done : ∀ (P' : Ending → World → Prop), True := fun _ => trivial
      clear done
      by_cases h4 : l'.length < 4
      · rw [HLL.out] at h4
        first
          | (exfalso; omega)
          | (go_wp2_with fail
             refine (sums_any _).mono ?_
             rintro e w3 ⟨rfl, hb3⟩
             replace hb3 : Below w.heap.size w w3 := hb2.trans (hb3.mono hb2.size)
             clear hb2
             go_wp2_with fail
             go_ret
             exact ⟨rfl, hb3⟩)
      · by_cases h0 : by' = 0
        · have hby : ((by' : Int) == 0) = true := by rw [h0]; rfl
          rw [HLL.out] at h4
          clear h0
          go_wp2_with fail
          refine (sums_any _).mono ?_
          rintro e w3 ⟨rfl, hb3⟩
          replace hb3 : Below w.heap.size w w3 := hb2.trans (hb3.mono hb2.size)
          clear hb2
          go_wp2_with fail
          go_ret
          exact ⟨rfl, hb3⟩
        · have hby : ((by' : Int) == 0) = false := by rw [beq_eq_false_iff_ne]; omega
          have H4 := Lib.hid h4
          have H0 := Lib.hid h0
          rw [HLL.out] at h4
          clear h0
          have hsz2 := hb2.size
          go_wp2_with (first | (at_builtin; refine wpList_append_own _ rfl _ _ 22 rfl w2.heap.size 5 i0 (.int .u8 0) 1 1 Try.underlying22 hi hz0 hz1 hz2 rfl (by decide) _ _ _ rfl (World.ownsRow_lit w2 #[] 0 (Nat.le_refl _) (by decide) rfl) ⟨g, 0, none⟩ _ _ (bv l') rfl ?d1 ?d2 ?d3 ?d4 ?d5 ?d6 ?_))
          case d1 => rw [bv_length, HLL.out, Nat.mul_one]
          case d2 => exact news_of_reads (R2.out.alloc _)
          case d3 => exact bv_one l'
          case d4 => unfold maxLen; omega
          case d5 => omega
          case d6 => simp
          intro v2 w3 hown hgrow hne
          obtain ⟨g2, c2, hv, hg2⟩ := hown.form (by simpa using hne)
          rw [hv] at hown ⊢
          clear hv hne hby
          have hgl : g < w2.heap.size := by
            obtain ⟨_, _, _, hc⟩ := R2.out
            obtain ⟨b, off, hbo, hcell⟩ := hc.resolve_left (by omega)
            have h1 := hcell 0 (by omega)
            obtain ⟨rfl, rfl⟩ : g = b ∧ 0 = off := by simpa using hbo
            exact World.block_lt_of_cell? _ _ h1
          have hb23 : Below w2.heap.size w2 w3 := ((Below.refl _ _).alloc (Nat.le_refl _) _).grown hgrow (by simp) (by intro k hk; simp [Value.ownBlock] at hk; omega)
          have R3 := Lib.hid (R2.out.below hb23)
          have hb3 : Below w.heap.size w w3 := hb2.trans (hb23.mono hb2.size)
          clear hgrow hb2 hb23 R2
          have HOWN : Hid (w3.ownsRow w2.heap.size 5 1 (.slice (some ⟨g2, 0, none⟩) l'.length c2) l'.length (bv l')) := Lib.hid (by rw [HLL.out]; exact hown)
          obtain ⟨m, hm, K, hK, hKl⟩ : ∃ m : Int, m = (l'.length : Int) - 3 ∧ ∃ K : Nat, wrap64 ((IntKind.u64.wrap at').tmod m) = K ∧ (K : Int) < m := ⟨_, rfl, kmod at' _ (by rw [HLL.out]; omega) (by rw [HLL.out]; omega)⟩
          have HKL : Hid (K + 4 ≤ l'.length) := Lib.hid (by omega)
          rw [HLL.out] at hm
          subst hm
          first | rw [show ((300 : Nat) : Int) - 3 = 297 from rfl] at hK | skip
          clear hown
          go_wp2_with fail
          rw [hK]
          clear hK
          go_loopw [9] (fun i wr => ∃ j : Nat, j ≤ 4 ∧ i = .int .i64 j ∧ Hid (wr.ownsRow w2.heap.size 5 1 (.slice (some ⟨g2, 0, none⟩) l'.length c2) l'.length (bv (upd l' K by' j))) ∧ Below w.heap.size w wr ∧ Hid (Reads wr (some ⟨g, 0, none⟩) l'.length l')) (fun i _ => 4 - (intOf i).toNat)
          case atStart => exact ⟨0, by omega, rfl, HOWN, hb3, Lib.hid (by rw [HLL.out]; exact R3.out)⟩
          case round =>
            clear HOWN hb3 R3
            obtain ⟨j, hj, rfl, HO, hbr, RR⟩ := hrel
            by_cases hj4 : j < 4
            · have hul := upd_length l' K by' j
              have hcell := (HO.out.cellAt (K + j) (by have := HKL.out; omega)).trans (bv_get _ _ (by have := HKL.out; omega))
              have hfr := HO.out.frozenAt (K + j)
              have hclt := getD_lt _ (upd_lt l' K by' HLB.out j) (K + j)
              obtain ⟨c, Hc⟩ : ∃ c, Hid ((upd l' K by' j).getD (K + j) 0 = c) := ⟨_, Lib.hid rfl⟩
              rw [Hc.out] at hcell hclt
              have hx := xor_dif by' j hclt
              clear hul
              have hbr2 := hbr.setCell (p := ⟨g2, K + j, none⟩) (by show w.heap.size ≤ g2; omega) (.int .u8 ((c ^^^ dif by' j : Nat) : Int))
              have RR2 := Lib.hid (RR.out.belowB hgl ((Below.refl w2.heap.size wr).setCell (p := ⟨g2, K + j, none⟩) hg2 (.int .u8 ((c ^^^ dif by' j : Nat) : Int))))
              have HO2 := Lib.hid (HO.out.stored (K + j) (.int .u8 ((c ^^^ dif by' j : Nat) : Int))).1
              rw [bv_set, ← Hc.out] at HO2
              rw [Hc.out] at HO2
              have HU : Hid (upd l' K by' (j + 1) = (upd l' K by' j).set (K + j) (c ^^^ dif by' j)) := Lib.hid (by rw [← Hc.out]; rfl)
              clear HO RR hbr
              go_wp2_with fail
              go_region
              clear hx hcell hfr
              go_wp2_with fail
              go_roundw
              case rel => exact ⟨j + 1, by omega, by go_num, Lib.hid (by rw [HU.out]; exact HO2.out.drew), hbr2.drew, Lib.hid (RR2.out.below ((Below.refl _ _).drew))⟩
              case measure => simp [intOf]; omega
            · obtain rfl : j = 4 := by omega
              obtain ⟨X, HX⟩ : ∃ X, Hid (more 0 l' = X) := ⟨_, Lib.hid rfl⟩
              obtain ⟨Y, HY⟩ : ∃ Y, Hid (more 0 (upd l' K by' 4) = Y) := ⟨_, Lib.hid rfl⟩
              have hXY : X ≠ Y := by rw [← HX.out, ← HY.out]; exact upd_unlike HLB.out HKL.out hb4 H0.out
              have hxy : ((X : Int) != (Y : Int)) = true := by rw [bne_iff_ne]; omega
              have S1 : Hid (sumP [l'] = X) := HX
              have S2 : Hid (sumP [upd l' K by' 4] = Y) := HY
              rw [HLL.out] at RR HO
              have R4 := Lib.hid (Reads.of_owns HO.out (by unfold maxLen; omega) (upd_lt l' K by' HLB.out 4))
              have hsr := hbr.size
              clear HO
              go_wp2_with fail
              refine (sum_any _ _ _ _ _ (parts1 RR.out _ _)).mono ?_
              rintro e w5 ⟨rfl, rfl⟩
              rw [S1.out]
              go_wp2_with fail
              refine (sum_any _ _ _ _ _ (parts1' (R4.out.alloc _) _ _ (by simp))).mono ?_
              rintro e w5 ⟨rfl, rfl⟩
              rw [S2.out]
              go_wp2_with fail
              go_ret
              exact ⟨rfl, (hbr.alloc hsr _).alloc (by simp; omega) _⟩
end Go.Proofs.Ytdeljhkombbncab.crcw
