/- FundsBack's walk. -/
import Derived.Test.YtfpeimihlihphaaFuT
import Derived.Test.YtfpeimihlihphaaFuL
import Derived.Test.YtfpeimihlihphaaFuVm
import Derived.Test.YtfpeimihlihphaaOpF
import Derived.Deep.CutRange
import Derived.Deep.CutBlock
namespace Go.Proofs.Ytfpeimihlihphaa.fnd
open Go.RowKit mem tre
set_option linter.unusedVariables false

theorem RowF.only3 {w w' : World} {a : Option Addr} {len : Nat} (h : RowF w a len) (ho : Only (fun _ => False) w w') : RowF w' a len := by
  refine ⟨h.1, h.2.imp (fun x => x) fun ⟨b, off, e, hc⟩ => ⟨b, off, e, fun i hi => ?_⟩⟩
  obtain ⟨d, hd, hin⟩ := hc i hi
  have ho' : Only (fun q => w.heap.size ≤ q) w w' := ho.mono (fun _ _ f => f.elim)
  exact ⟨d, hd.keep (Nat.le_refl _) ho', hin.keep (Nat.le_refl _) ho'⟩
theorem part_rest (x part : Int) (h1 : 1 ≤ x) (h2 : x ≤ 9007199254740992) : ∃ N P Q : Int, wrap64 (x + 1) = N ∧ IntKind.u64.wrap N = N ∧ (N == 0) = false ∧ ¬ N = 0 ∧ wrap64 ((IntKind.u64.wrap part).tmod N) = P ∧ wrap64 (x - P) = Q ∧ 0 ≤ P ∧ 0 ≤ Q ∧ P + Q = x := by
  have e : IntKind.u64.wrap part = part % 18446744073709551616 := by rw [IntKind.wrap_u64]
  have h0 : 0 ≤ part % 18446744073709551616 := Int.emod_nonneg _ (by omega)
  rw [e]
  generalize part % 18446744073709551616 = y at *
  have hm : y.tmod (x + 1) = y % (x + 1) := Int.tmod_eq_emod_of_nonneg h0
  have hp0 : 0 ≤ y % (x + 1) := Int.emod_nonneg _ (by omega)
  have hp1 : y % (x + 1) < x + 1 := Int.emod_lt_of_pos _ (by omega)
  refine ⟨x + 1, y % (x + 1), x - y % (x + 1), ?_, ?_, ?_, by omega, ?_, ?_, hp0, ?_, ?_⟩
  · rw [wrap64_eq]; omega
  · rw [IntKind.wrap_u64]; omega
  · simp; omega
  · rw [hm]
    generalize y % (x + 1) = z at *
    rw [wrap64_eq]; omega
  · generalize y % (x + 1) = z at *
    rw [wrap64_eq]; omega
  · generalize y % (x + 1) = z at *
    omega
  · generalize y % (x + 1) = z at *
    omega
theorem run_field3 (t c e u h : Int) (w : World) : (Instr.field 63 (.agg #[.int .i64 t, .int .i64 c, .int .i64 e, .int .i64 u, .int .i64 h]) 3).run Try.prog w = .ok (.int .i64 u) w := by
  simp [Instr.field, run_underlying Try.underlying63, run_underlying Try.underlying3, part, asAgg, isAgg, go_sem]
theorem run_field4 (t c e u h : Int) (w : World) : (Instr.field 63 (.agg #[.int .i64 t, .int .i64 c, .int .i64 e, .int .i64 u, .int .i64 h]) 4).run Try.prog w = .ok (.int .i64 h) w := by
  simp [Instr.field, run_underlying Try.underlying63, run_underlying Try.underlying3, part, asAgg, isAgg, go_sem]
set_option maxRecDepth 100000 in
set_option maxHeartbeats 8000000 in
theorem back_any (a1 : Option Addr) (l1 c1 : Nat) (d : ActD) (part : Int) (w0 : World) (h0 : RowF w0 a1 l1) (hd0 : ActIn w0 d) :
    Calls Try.prog 9 #[.slice a1 l1 c1, d.v, .int .i64 part] w0 fun e w' => e = .returned (.bool true) ∧ Only (fun _ => False) w0 w' := by
  have hm1 := h0.1
  unfold maxLen at hm1
  obtain ⟨y0, y1, y2, y3, y4, y5, y6, y7, y8, y9, ym, yc, ⟨ya, yb, ye, yu, yh⟩⟩ := d
  unfold ActD.v aggAct
  dsimp only
  obtain ⟨w, hw1⟩ : ∃ zz, zz = w0.alloc (.cells #[.int .i64 y0, .int .i64 y1, .slice y2 y3 y4, .slice y6 y7 y8, .int .i64 ym, .bool yc, .int .i64 ya, .int .i64 yb, .int .i64 ye, .int .i64 yu, .int .i64 yh] 74) := ⟨_, rfl⟩
  obtain ⟨g, hg⟩ : ∃ zz, zz = w0.heap.size := ⟨_, rfl⟩
  have b0 : w.cell? ⟨g, 0, none⟩ = some (.int .i64 y0) := by rw [hw1]; exact alloc_cell hg rfl
  have b1 : w.cell? ⟨g, 1, none⟩ = some (.int .i64 y1) := by rw [hw1]; exact alloc_cell hg rfl
  have b2 : w.cell? ⟨g, 2, none⟩ = some (.slice y2 y3 y4) := by rw [hw1]; exact alloc_cell hg rfl
  have b3 : w.cell? ⟨g, 3, none⟩ = some (.slice y6 y7 y8) := by rw [hw1]; exact alloc_cell hg rfl
  have b4 : w.cell? ⟨g, 4, none⟩ = some (.int .i64 ym) := by rw [hw1]; exact alloc_cell hg rfl
  have b5 : w.cell? ⟨g, 5, none⟩ = some (.bool yc) := by rw [hw1]; exact alloc_cell hg rfl
  have b6 : w.cell? ⟨g, 6, none⟩ = some (.int .i64 ya) := by rw [hw1]; exact alloc_cell hg rfl
  have b7 : w.cell? ⟨g, 7, none⟩ = some (.int .i64 yb) := by rw [hw1]; exact alloc_cell hg rfl
  have b8 : w.cell? ⟨g, 8, none⟩ = some (.int .i64 ye) := by rw [hw1]; exact alloc_cell hg rfl
  have b9 : w.cell? ⟨g, 9, none⟩ = some (.int .i64 yu) := by rw [hw1]; exact alloc_cell hg rfl
  have b10 : w.cell? ⟨g, 10, none⟩ = some (.int .i64 yh) := by rw [hw1]; exact alloc_cell hg rfl
  have hng : ¬ w.heap.size ≤ g := by rw [hw1, hg]; simp
  have hk1 : Only (fun _ => False) w0 w := by rw [hw1]; exact (Only.refl _ _).alloc _
  have K1 := Lib.hid hk1
  have H1 := Lib.hid (h0.only3 hk1)
  have HIN := Lib.hid (hd0.keep (Nat.le_refl _) (hk1.mono (fun _ _ f => f.elim)))
  have HBX : Hid (∀ w', Only (fun q => w.heap.size ≤ q) w w' → w'.cell? ⟨g, 0, none⟩ = some (.int .i64 y0) ∧ w'.cell? ⟨g, 1, none⟩ = some (.int .i64 y1) ∧ w'.cell? ⟨g, 2, none⟩ = some (.slice y2 y3 y4) ∧ w'.cell? ⟨g, 3, none⟩ = some (.slice y6 y7 y8) ∧ w'.cell? ⟨g, 4, none⟩ = some (.int .i64 ym) ∧ w'.cell? ⟨g, 5, none⟩ = some (.bool yc) ∧ w'.cell? ⟨g, 6, none⟩ = some (.int .i64 ya) ∧ w'.cell? ⟨g, 7, none⟩ = some (.int .i64 yb) ∧ w'.cell? ⟨g, 8, none⟩ = some (.int .i64 ye) ∧ w'.cell? ⟨g, 9, none⟩ = some (.int .i64 yu) ∧ w'.cell? ⟨g, 10, none⟩ = some (.int .i64 yh)) := Lib.hid (fun w' ho => ⟨ho.cell' b0 hng, ho.cell' b1 hng, ho.cell' b2 hng, ho.cell' b3 hng, ho.cell' b4 hng, ho.cell' b5 hng, ho.cell' b6 hng, ho.cell' b7 hng, ho.cell' b8 hng, ho.cell' b9 hng, ho.cell' b10 hng⟩)
  clear h0 hd0 hk1 hng b0 b1 b2 b3 b4 b5 b6 b7 b8 b9 b10
  go_enter Try.func9, Try.ntmps9
  go_upto_region 1 with fail
  simp only [← hw1, ← hg]
  clear hw1 hg
  go_wp2_with fail
  refine (bnew_any w).mono ?_
  rintro _ w1 ⟨rfl, ht, ho⟩
  have hp0 : w.heap.size < w1.heap.size := ht.lt
  have HB0 : Hid (FB w.heap.size (w1.alloc (.cells Try.zeroCells72 72)) w.heap.size w1.heap.size A0) := Lib.hid ⟨ht.only ((Only.refl (fun _ => False) _).alloc _) (fun f => f), BkAt.fresh rbzero w1 _, Nat.le_refl _, by omega, by omega, Bok.new⟩
  have HO0 : Hid (Only (fun x => w.heap.size ≤ x) w (w1.alloc (.cells Try.zeroCells72 72))) := Lib.hid ((ho.mono (fun _ _ f => f.elim)).alloc _)
  clear ht ho
  obtain ⟨p, hp⟩ : ∃ p, p = w.heap.size := ⟨_, rfl⟩
  obtain ⟨q, hq⟩ : ∃ q, q = w1.heap.size := ⟨_, rfl⟩
  obtain ⟨w2, hw2⟩ : ∃ x, x = w1.alloc (.cells Try.zeroCells72 72) := ⟨_, rfl⟩
  have HP := Lib.hid hp
  go_upto_block 0 with fail
  simp only [← hp, ← hq, ← hw2] at HB0 HO0 hp0 ⊢
  clear hp hq hw2 hp0
  go_cut [9] from 18 to 35 (fun iv wx => ∃ (k : Int) (A : List Ac), iv = .int .i64 k ∧ Hid (FB p wx p q A) ∧ Hid (Only (fun x => p ≤ x) w wx))
  case first =>
    go_wp2_with fail
    go_loopw [9] (fun iv wr => ∃ (k : Nat) (A : List Ac), k ≤ 50 ∧ iv = .int .i64 (k : Int) ∧ Hid (FB p wr p q A) ∧ Hid (Only (fun x => p ≤ x) w wr)) (fun iv _ => 50 - (intOf iv).toNat)
    case atStart => exact ⟨0, A0, by omega, rfl, HB0, HO0⟩
    case round =>
      obtain ⟨k, A, hk, rfl, HB, HO⟩ := hrel
      by_cases h8 : k < l1
      · by_cases h20 : k < 50
        · obtain ⟨b, off, rfl, hcell⟩ := H1.out.2.resolve_left (by omega)
          obtain ⟨d, hd, hin⟩ := hcell k h8
          replace hd := hd.keep (Nat.le_of_eq HP.out.symm) HO.out
          replace hin := hin.keep (Nat.le_of_eq HP.out.symm) HO.out
          obtain ⟨z0, z1, z2, z3, z4, z5, z6, z7, z8, z9, z10, z11, z12⟩ := d
          obtain ⟨d0, d1, d2, d3, d4, d5, d6, d7, d8, d9, d10⟩ := hd
          obtain ⟨i0, i1, i2, i3⟩ := hin
          dsimp only at *
          have HDO := Lib.hid (do_any p p q A z0 z1 z2 z3 z4 z5 z6 z7 z8 z9 z10 z11 z12 wr HB.out i0 i1 i2 i3)
          clear hcell i0 i1 i2 i3
          have hk1 : (k : Int) < l1 := by omega
          have hk2 : (k : Int) < 50 := by omega
          have hk0 : (0 : Int) ≤ k := by omega
          go_wp2_with fail
          refine HDO.out.mono ?_
          rintro _ w5 ⟨rfl, ⟨A', hb⟩, ho⟩
          have HB5 := Lib.hid hb
          have HO5 : Hid (Only (fun x => p ≤ x) w w5) := Lib.hid (HO.out.trans (ho.mono (fun k _ e => e.elim (fun e => by omega) (fun e => by have := HB.out.2.2.2.1; omega))))
          clear hb ho d0 d1 d2 d3 d4 d5 d6 d7 d8 d9 d10 HDO
          go_wp2_with fail
          go_roundw
          case rel => exact ⟨k + 1, A', by omega, by go_num, HB5, HO5⟩
          case measure => simp [intOf]; omega
        · have hk2 : ¬ (k : Int) < 50 := by omega
          go_wp2_with fail
          go_meet
          exact ⟨_, A, rfl, HB, HO⟩
      · go_wp2_with fail
        go_meet
        exact ⟨_, A, rfl, HB, HO⟩
  case rest =>
    obtain ⟨k, A, rfl, HB, HO⟩ := hcut
    rename World => wr
    clear HB0 HO0 H1
    rw [← HP.out] at HBX
    obtain ⟨b0, b1, b2, b3, b4, b5, b6, b7, b8, b9, b10⟩ := HBX.out wr HO.out
    obtain ⟨n0, n1, n2, n3⟩ := HIN.out.keep (Nat.le_of_eq HP.out.symm) HO.out
    dsimp only at n0 n1 n2 n3
    have HLS := Lib.hid (lists_any y0 y1 y2 y3 y4 y5 y6 y7 y8 y9 ym yc ⟨ya, yb, ye, yu, yh⟩ wr n0 n1 n2 n3)
    unfold aggAct at HLS
    dsimp only at HLS
    clear n0 n1 n2 n3
    go_wp2_with fail
    refine HLS.out.mono ?_
    rintro _ w3 ⟨x1, f1, x2, f2, rfl, hr1, hc1, hr2, hc2, hb1, hb2, ho⟩
    have HB3 := Lib.hid (HB.out.only ho)
    have HO3 : Hid (Only (fun x => p ≤ x) w w3) := Lib.hid (HO.out.trans (ho.mono (fun _ _ f => f.elim)))
    have HX : Hid (∀ y, x1 = some y → y.block ≠ p) := Lib.hid (fun y e => by have := hb1 y e; have := HB.out.1.lt; omega)
    have HR1 := Lib.hid hr1
    have HR2 := Lib.hid hr2
    have HC1 := Lib.hid hc1
    have HOK := Lib.hid HB.out.2.2.2.2.2
    have HPQ := Lib.hid HB.out.2.2.2.2.1
    clear hr1 hr2 hc1 hc2 hb1 hb2 ho HLS HB HO b0 b1 b2 b3 b4 b5 b6 b7 b8 b9 b10
    generalize y5.take 5 = l at *
    generalize y9.take 5 = ls at *
    generalize hln : l.length = n at *
    generalize hlm : ls.length = m at *
    have HLN := Lib.hid hln
    have hnm := HR1.out.2.1
    unfold maxLen at hnm
    have HHV : Hid (∀ w', Only (fun x => p ≤ x) w w' → Only (fun _ => False) w0 w') := Lib.hid (fun w' ho => K1.out.then ho (fun q hq e => by have := HP.out; have := K1.out.size; omega))
    clear hln hlm
    go_wp2_with fail
    refine (haves_any _).mono ?_
    rintro _ w5 ⟨rfl, ho⟩
    have HB5 := Lib.hid (HB3.out.only ho)
    have HO5 : Hid (Only (fun x => p ≤ x) w w5) := Lib.hid (HO3.out.trans (ho.mono (fun _ _ f => f.elim)))
    have HR15 := Lib.hid (HR1.out.only ho (fun _ _ f => f))
    have HR25 := Lib.hid (HR2.out.only ho (fun _ _ f => f))
    have HH := Lib.hid (hold_any p A x1 n f1 l x2 m f2 ls ym w5 HB5.out.1 HOK.out HR15.out HC1.out HR25.out HX.out)
    obtain ⟨b0, b1, b2, b3, b4, b5, b6, b7, b8, b9, b10⟩ := HBX.out w5 HO5.out
    clear ho HR1 HR2 HB3 HO3 b0 b1 b2 b3 b5 b6 b7 b8 b9 b10
    by_cases hE : holdE A l ls ym = 0
    · rw [hE] at HH
      obtain ⟨hpk, ⟨hx1, hx2⟩, hT, -⟩ := back_ok (P := 0) (Q := ym) HOK.out hE (by omega) (by
        apply Classical.byContradiction
        intro hh
        unfold holdE at hE
        rw [if_neg (fun q => hh (by have := q.2.1; omega))] at hE
        simp at hE) (by omega)
      rw [hT] at HH
      obtain ⟨N, P, Q, hN, hU, hN0, hN1, hP, hQ, hp1, hq1, hpq⟩ := part_rest ym part hx1 hx2
      obtain ⟨-, -, -, hbk⟩ := back_ok (P := P) (Q := Q) HOK.out hE hp1 hq1 hpq
      have HBA := Lib.hid hbk
      have HPP : Hid (0 ≤ P ∧ P ≤ 9007199254740992) := Lib.hid ⟨hp1, by omega⟩
      have HPQS : Hid (1 ≤ ym ∧ 0 ≤ P ∧ 0 ≤ Q ∧ P + Q = ym) := Lib.hid ⟨hx1, hp1, hq1, hpq⟩
      have HPK : Hid (∀ i, i < n → ∃ k : Nat, l.getD i 0 = k ∧ 1 ≤ k ∧ k < 33) := Lib.hid (fun i hi => by obtain ⟨k, q1, q2, q3, _⟩ := path_toNat hpk i (by rw [HLN.out]; exact hi); exact ⟨k, q1, q2, q3⟩)
      clear hE hpk hx1 hx2 hT hp1 hq1 hpq hbk
      go_wp2_with fail
      refine HH.out.mono ?_
      rintro _ w6 ⟨rfl, ht, ho⟩
      replace b4 := (HBX.out w6 (HO5.out.trans (ho.mono (fun x _ e => by omega)))).2.2.2.2.1
      have HB6 := Lib.hid ht
      have HQ6 := Lib.hid (HB5.out.2.1.only ho (fun e => HPQ.out e.symm))
      have HO6 : Hid (Only (fun x => p ≤ x) w w6) := Lib.hid (HO5.out.trans (ho.mono (fun x _ e => by omega)))
      have HR16 := Lib.hid (HR15.out.only ho (fun y e => HX.out y e))
      clear ht ho HH HB5 HO5 HR15 HR25
      go_upto_region 12 with fail
      simp only [hP, hQ]
      clear hN hU hN0 hN1 hP hQ b4
      go_cut [84] from 65 to 84 (fun uv wx => uv = .bool false ∧ Hid (BkAt wx p (shT A l 0 P)) ∧ Hid (Only (fun x => x = p) w6 wx))
      case first =>
        obtain ⟨hx1, hp1, hq1, hpq⟩ := HPQS.out
        by_cases hp0 : P = 0
        · obtain ⟨re, ra⟩ := HBA.out.c2 (by omega)
          have hb := HB6.out
          rw [HBA.out.z1 hp0] at hb
          have HRL := Lib.hid (release_any p (shT A l Q P) x1 n f1 l Q w6 hb HBA.out.b2 HR16.out HC1.out HX.out)
          rw [re, ra] at HRL
          have hP0 : ¬ 0 < P := by omega
          have hQ0 : 0 < Q := by omega
          clear re ra hb hp0 hpq
          go_wp2_with fail
          refine HRL.out.mono ?_
          rintro _ w7 ⟨rfl, ht, ho⟩
          have HB7 := Lib.hid ht
          have HO7 := Lib.hid ho
          clear ht ho HRL
          go_wp2_with fail
          go_meet
          exact ⟨rfl, HB7, HO7⟩
        · by_cases hq0 : Q = 0
          · have ce := HBA.out.c1 (by omega)
            obtain ⟨ce, ca⟩ := ce
            have HCM := Lib.hid (commit_any p (shT A l ym 0) x1 n f1 l P w6 HB6.out HBA.out.b1 HR16.out HC1.out HX.out)
            rw [ce, ca, HBA.out.z2 hq0] at HCM
            have hP0 : 0 < P := by omega
            have hQ0 : ¬ 0 < Q := by omega
            clear ce ca hq0 hp0 hpq
            go_wp2_with fail
            refine HCM.out.mono ?_
            rintro _ w7 ⟨rfl, ht, ho⟩
            have HB7 := Lib.hid ht
            have HO7 := Lib.hid ho
            clear ht ho HCM
            go_wp2_with fail
            go_meet
            exact ⟨rfl, HB7, HO7⟩
          · obtain ⟨ce, ca⟩ := HBA.out.c1 (by omega)
            obtain ⟨re, ra⟩ := HBA.out.c2 (by omega)
            have HCM := Lib.hid (commit_any p (shT A l ym 0) x1 n f1 l P w6 HB6.out HBA.out.b1 HR16.out HC1.out HX.out)
            rw [ce, ca] at HCM
            have HRL : Hid (∀ w', Only (fun x => x = p) w6 w' → BkAt w' p (shT A l Q P) → _) := Lib.hid (fun w' (ho : Only (fun x => x = p) w6 w') hbk => release_any p (shT A l Q P) x1 n f1 l Q w' hbk HBA.out.b2 (HR16.out.only ho (fun y e => HX.out y e)) HC1.out HX.out)
            rw [re, ra] at HRL
            have hP0 : 0 < P := by omega
            have hQ0 : 0 < Q := by omega
            clear ce ca re ra hp0 hq0 hpq
            go_wp2_with fail
            refine HCM.out.mono ?_
            rintro _ w7 ⟨rfl, ht, ho⟩
            have HR := Lib.hid (HRL.out w7 ho ht)
            have HO7 := Lib.hid ho
            clear ht ho HCM HRL
            go_wp2_with fail
            refine HR.out.mono ?_
            rintro _ w8 ⟨rfl, ht, ho⟩
            have HB8 := Lib.hid ht
            have HO8 := Lib.hid (HO7.out.trans ho)
            clear ht ho HR HO7
            go_wp2_with fail
            go_meet
            exact ⟨rfl, HB8, HO8⟩
      case rest =>
        obtain ⟨rfl, HB8, HO68⟩ := hcut
        rename World => w8
        have HQ8 := Lib.hid (HQ6.out.only HO68.out (fun e => HPQ.out e.symm))
        have HR8 := Lib.hid (HR16.out.only HO68.out (fun y e => HX.out y e))
        have HO8 : Hid (Only (fun x => p ≤ x) w w8) := Lib.hid (HO6.out.trans (HO68.out.mono (fun x _ e => by omega)))
        clear HO68 HQ6 HR16 HO6 HB6
        go_wp2_with fail
        go_loopw [13] (fun iv wr => ∃ i : Nat, i ≤ n ∧ iv = .int .i64 (i : Int) ∧ Hid (Only (fun _ => False) w8 wr)) (fun iv _ => n - (intOf iv).toNat)
        case atStart => exact ⟨0, by omega, rfl, Lib.hid (Only.refl _ _)⟩
        case round =>
          obtain ⟨i, hi, rfl, HO⟩ := hrel
          rename World => wr
          by_cases h8 : i < n
          · obtain ⟨b, off, rfl, hcell⟩ := HR8.out.2.2.2.resolve_left (by omega)
            have cx := HO.out.cell' (hcell i h8) (fun f => f)
            have hi0 : (0 : Int) ≤ i := by omega
            have hi1 : (i : Int) < n := by omega
            obtain ⟨k, hk, k1, k2⟩ := HPK.out i h8
            rw [hk] at cx
            have hk2 : (k : Int) < 33 := by omega
            have hk0 : (0 : Int) ≤ k := by omega
            have hg8 := HBA.out.g i (by rw [HLN.out]; exact h8)
            rw [hk, nd_nat, nd_nat] at hg8
            have hac : acG (shT A l 0 P) (k : Int) = shB (A.getD k zA) 0 P := by rw [acG_nat k1 k2]; exact hg8
            have HG : Hid (∀ w', Only (fun _ => False) wr w' → _) := Lib.hid (fun w' (ho : Only (fun _ => False) wr w') => get_any p (shT A l 0 P) (k : Int) w' (HB8.out.only (HO.out.trans ho) (fun f => f)))
            have HV : Hid (∀ w', Only (fun _ => False) wr w' → _) := Lib.hid (fun w' (ho : Only (fun _ => False) wr w') => available_any p (shT A l 0 P) (k : Int) w' (HB8.out.only (HO.out.trans ho) (fun f => f)) HBA.out.b3)
            rw [hac] at HG HV
            have hrk := HOK.out.ok k
            have HLF : Hid (∀ w', _) := Lib.hid (fun w' => left_any (A.getD k zA) w' hrk.1)
            obtain ⟨c0, c1, c2, c3, c4⟩ := (HQ8.out.only HO.out (fun f => f)).1 k k2
            generalize A.getD k zA = ac at *
            obtain ⟨at_, ac, ae, au, ah⟩ := ac
            have hlb : left (shB ⟨at_, ac, ae, au, ah⟩ 0 P) = left ⟨at_, ac, ae, au, ah⟩ - P := by unfold left shB; dsimp only; omega
            have hl0 : 0 ≤ left ⟨at_, ac, ae, au, ah⟩ := hrk.2.2
            have hlM := hrk.left_M
            rw [hlb] at HV
            generalize left ⟨at_, ac, ae, au, ah⟩ = X at *
            unfold shB aggA at HG
            unfold aggA at HLF
            dsimp only at HG HLF c0 c1 c2 c3 c4
            rw [Int.add_zero] at HG
            have hu : 0 ≤ au ∧ au ≤ 9007199254740992 := hrk.1.2.2.2.1
            obtain ⟨hu1, hu2⟩ := hu
            have hP9 := HPP.out
            have q1 : IntKind.i64.wrap (X - P) = X - P := w64 _ (by omega) (by omega)
            have q2 : IntKind.i64.wrap (au + P) = au + P := w64 _ (by omega) (by omega)
            clear hcell hk hg8 hac hrk hlb hl0 hlM hu1 hu2 hP9
            have HSL : Hid (∀ w', Only (fun _ => False) wr w' → w'.cell? ⟨b, off + i, none⟩ = some (.int .i64 (k : Int)) ∧ w'.cell? ⟨q, k * 5, none⟩ = some (.int .i64 at_) ∧ w'.cell? ⟨q, k * 5 + 1, none⟩ = some (.int .i64 ac) ∧ w'.cell? ⟨q, k * 5 + 2, none⟩ = some (.int .i64 ae) ∧ w'.cell? ⟨q, k * 5 + 3, none⟩ = some (.int .i64 au) ∧ w'.cell? ⟨q, k * 5 + 4, none⟩ = some (.int .i64 ah)) := Lib.hid (fun w' ho => ⟨ho.cell' cx (fun f => f), ho.cell' c0 (fun f => f), ho.cell' c1 (fun f => f), ho.cell' c2 (fun f => f), ho.cell' c3 (fun f => f), ho.cell' c4 (fun f => f)⟩)
            clear c0 c1 c2 c3 c4
            have hf3 := fun w => run_field3 at_ ac ae (au + P) ah w
            have hf4 := fun w => run_field4 at_ ac ae (au + P) ah w
            go_upto_region 17 with fail
            refine wp_region_noPanic ?_
            refine late.region (fun w' => w'.cell? ⟨b, off + i, none⟩ = some (.int .i64 (k : Int)) ∧ w'.cell? ⟨q, k * 5, none⟩ = some (.int .i64 at_) ∧ w'.cell? ⟨q, k * 5 + 1, none⟩ = some (.int .i64 ac) ∧ w'.cell? ⟨q, k * 5 + 2, none⟩ = some (.int .i64 ae) ∧ w'.cell? ⟨q, k * 5 + 3, none⟩ = some (.int .i64 au) ∧ w'.cell? ⟨q, k * 5 + 4, none⟩ = some (.int .i64 ah)) (fun j => [].contains j) (by kernel_rfl) (HSL.out _ (Only.refl _ _).drew) (fun hHeld => ?_)
            obtain ⟨z0, hz0⟩ : ∃ x, x = wr.drew := ⟨_, rfl⟩
            rw [← hz0] at hHeld ⊢
            have hou : Only (fun _ => False) wr z0 := by rw [hz0]; exact (Only.refl _ _).drew
            clear hz0
            refine late.take (i := 0) [5, 6, 7, 8, 10] (v := ?_) rfl (by kernel_rfl) (by kernel_rfl) (by kernel_rfl) (by kernel_rfl) (fun _ _ _ h => h) (Or.inl ⟨by rfl, ?_⟩) (by assumption) ?_
            rotate_left 1
            · intro w' hSw
              try dsimp only at hSw
              go_simp
              try with_reducible rfl
            try simp only [List.getElem_toArray, List.getElem_cons_zero, Act.put, List.setIfInBounds_toArray, List.set_cons_zero, List.set_cons_succ]
            refine late.take (i := 1) [3, 4, 7, 8, 10] (v := ?_) rfl (by kernel_rfl) (by kernel_rfl) (by kernel_rfl) (by kernel_rfl) (fun _ _ _ h => h) (Or.inl ⟨by rfl, ?_⟩) (by assumption) ?_
            rotate_left 1
            · intro w' hSw
              try dsimp only at hSw
              go_simp
              try with_reducible rfl
            try simp only [List.getElem_toArray, List.getElem_cons_zero, List.getElem_cons_succ, Act.put, List.setIfInBounds_toArray, List.set_cons_zero, List.set_cons_succ]
            refine late.take (i := 2) [3, 4, 7, 8, 10] (v := ?_) rfl (by kernel_rfl) (by kernel_rfl) (by kernel_rfl) (by kernel_rfl) (fun _ _ _ h => h) (Or.inl ⟨by rfl, ?_⟩) (by assumption) ?_
            rotate_left 1
            · intro w' hSw
              try dsimp only at hSw
              go_simp
              try with_reducible rfl
            try simp only [List.getElem_toArray, List.getElem_cons_zero, List.getElem_cons_succ, Act.put, List.setIfInBounds_toArray, List.set_cons_zero, List.set_cons_succ]
            refine late.take (i := 3) [4, 7, 8, 10] (v := ?_) rfl (by kernel_rfl) (by kernel_rfl) (by kernel_rfl) (by kernel_rfl) (fun _ _ _ h => h) (Or.inl ⟨by rfl, ?_⟩) (by assumption) ?_
            rotate_left 1
            · intro w' hSw
              try dsimp only at hSw
              go_simp
              try with_reducible rfl
            try simp only [List.getElem_toArray, List.getElem_cons_zero, List.getElem_cons_succ, Act.put, List.setIfInBounds_toArray, List.set_cons_zero, List.set_cons_succ]
            refine late.take (i := 4) [7, 8, 10] (v := ?_) rfl (by kernel_rfl) (by kernel_rfl) (by kernel_rfl) (by kernel_rfl) (fun _ _ _ h => h) (Or.inl ⟨by rfl, ?_⟩) (by assumption) ?_
            rotate_left 1
            · intro w' hSw
              try dsimp only at hSw
              go_simp
              try with_reducible rfl
            try simp only [List.getElem_toArray, List.getElem_cons_zero, List.getElem_cons_succ, Act.put, List.setIfInBounds_toArray, List.set_cons_zero, List.set_cons_succ]
            refine late.take (i := 5) [6, 7, 8, 10] (v := ?_) rfl (by kernel_rfl) (by kernel_rfl) (by kernel_rfl) (by kernel_rfl) (fun _ _ _ h => h) (Or.inl ⟨by rfl, ?_⟩) (by assumption) ?_
            rotate_left 1
            · intro w' hSw
              try dsimp only at hSw
              go_simp
              try with_reducible rfl
            try simp only [List.getElem_toArray, List.getElem_cons_zero, List.getElem_cons_succ, Act.put, List.setIfInBounds_toArray, List.set_cons_zero, List.set_cons_succ]
            refine late.take (i := 6) [7, 8, 10] (v := ?_) rfl (by kernel_rfl) (by kernel_rfl) (by kernel_rfl) (by kernel_rfl) (fun _ _ _ h => h) (Or.inl ⟨by rfl, ?_⟩) (by assumption) ?_
            rotate_left 1
            · intro w' hSw
              try dsimp only at hSw
              go_simp
              try with_reducible rfl
            try simp only [List.getElem_toArray, List.getElem_cons_zero, List.getElem_cons_succ, Act.put, List.setIfInBounds_toArray, List.set_cons_zero, List.set_cons_succ]
            refine late.take (i := 7) [8, 10] (v := ?_) rfl (by kernel_rfl) (by kernel_rfl) (by kernel_rfl) (by kernel_rfl) (fun _ _ _ h => h) (Or.inl ⟨by rfl, ?_⟩) (by assumption) ?_
            rotate_left 1
            · intro w' hSw
              try dsimp only at hSw
              go_simp
              try with_reducible rfl
            try simp only [List.getElem_toArray, List.getElem_cons_zero, List.getElem_cons_succ, Act.put, List.setIfInBounds_toArray, List.set_cons_zero, List.set_cons_succ]
            refine late.take (i := 8) [10] (v := ?_) rfl (by kernel_rfl) (by kernel_rfl) (by kernel_rfl) (by kernel_rfl) (fun _ _ _ h => h) (Or.inl ⟨by rfl, ?_⟩) (by assumption) ?_
            rotate_left 1
            · intro w' hSw
              try dsimp only at hSw
              go_simp
              try with_reducible rfl
            try simp only [List.getElem_toArray, List.getElem_cons_zero, List.getElem_cons_succ, Act.put, List.setIfInBounds_toArray, List.set_cons_zero, List.set_cons_succ]
            refine late.ready (rs := [9]) (by kernel_rfl) (by simp) ?_
            refine late.Each.cons rfl (fun K hK => ?_) late.Each.nil
            try simp only [List.getElem_toArray, List.getElem_cons_zero, List.getElem_cons_succ]
            go_simp
            obtain ⟨z1, hz1⟩ : ∃ x, x = z0.alloc (.cells #[.int .i64 0, .int .i64 0, .int .i64 0, .int .i64 0, .int .i64 0] 69) := ⟨_, rfl⟩
            obtain ⟨g, hg⟩ : ∃ x, x = z0.heap.size := ⟨_, rfl⟩
            rw [← hz1, ← hg]
            have ho1 : Only (fun _ => False) wr z1 := by rw [hz1]; exact hou.alloc _
            have hgs : wr.heap.size ≤ g := by rw [hg]; exact hou.size
            have hfive : Five z1 g := by rw [hz1]; exact Five.new hg
            have HFV := Lib.hid hfive
            obtain ⟨⟨y0, hy0'⟩, ⟨y1, hy1'⟩, ⟨y2, hy2'⟩, ⟨y3, hy3'⟩, ⟨y4, hy4'⟩, f0, f1, f2, f3, f4⟩ := hfive
            clear hz1 hg hou
            refine hK.out _ _ (fun _ => HSL.out _ ho1) (fun hHeld1 => ?_)
            replace hHeld1 := hHeld1 rfl
            clear hK K
            try simp only [List.getElem_toArray, List.getElem_cons_zero, List.getElem_cons_succ, Act.put, List.setIfInBounds_toArray, List.set_cons_zero, List.set_cons_succ]
            refine late.ready (rs := [10]) (by kernel_rfl) (by simp) ?_
            refine late.Each.cons rfl (fun K hK => ?_) late.Each.nil
            try simp only [List.getElem_toArray, List.getElem_cons_zero, List.getElem_cons_succ]
            go_simp
            obtain ⟨z2, hz2⟩ : ∃ x, x = put50 z1 g (.int .i64 at_) (.int .i64 ac) (.int .i64 ae) (.int .i64 au) (.int .i64 ah) := ⟨_, rfl⟩
            have HZ2 := Lib.hid hz2
            unfold put50 at hz2
            rw [← hz2]
            have ho2 : Only (fun _ => False) wr z2 := ho1.then (by rw [HZ2.out, put50_eq]; exact put5_only _ _ _ _ _ _ _ _) (fun i hi e => by omega)
            have hbx : (z2.cell? ⟨g, 0, none⟩ = some (.int .i64 at_) ∧ z2.cell? ⟨g, 1, none⟩ = some (.int .i64 ac) ∧ z2.cell? ⟨g, 2, none⟩ = some (.int .i64 ae) ∧ z2.cell? ⟨g, 3, none⟩ = some (.int .i64 au) ∧ z2.cell? ⟨g, 4, none⟩ = some (.int .i64 ah)) := by rw [HZ2.out]; exact HFV.out.put _ _ _ _ _
            obtain ⟨e0, e1, e2, e3, e4⟩ := hbx
            replace f3 : z2.frozen? ⟨g, 3, none⟩ = false := by rw [HZ2.out, put50_eq, put5_froz]; exact f3
            replace f4 : z2.frozen? ⟨g, 4, none⟩ = false := by rw [HZ2.out, put50_eq, put5_froz]; exact f4
            clear hz2 HZ2 HFV hy0' hy1' hy2' hy3' hy4' f0 f1 f2 ho1
            refine hK.out _ _ (fun _ => HSL.out _ ho2) (fun hHeld2 => ?_)
            replace hHeld2 := hHeld2 rfl
            clear hK K
            try simp only [List.getElem_toArray, List.getElem_cons_zero, List.getElem_cons_succ, Act.put, List.setIfInBounds_toArray, List.set_cons_zero, List.set_cons_succ]
            refine late.done (by kernel_rfl) ?_ _
            refine NoPanic.normal ?_
            have HSM : Hid (∀ w', Only (fun _ => False) z2 w' → w'.cell? ⟨b, off + i, none⟩ = some (.int .i64 (k : Int)) ∧ w'.cell? ⟨g, 0, none⟩ = some (.int .i64 at_) ∧ w'.cell? ⟨g, 1, none⟩ = some (.int .i64 ac) ∧ w'.cell? ⟨g, 2, none⟩ = some (.int .i64 ae) ∧ w'.cell? ⟨g, 3, none⟩ = some (.int .i64 au) ∧ w'.cell? ⟨g, 4, none⟩ = some (.int .i64 ah)) := Lib.hid (fun w' ho => ⟨(ho2.trans ho).cell' cx (fun f => f), ho.cell' e0 (fun f => f), ho.cell' e1 (fun f => f), ho.cell' e2 (fun f => f), ho.cell' e3 (fun f => f), ho.cell' e4 (fun f => f)⟩)
            replace HG : Hid (∀ w', Only (fun _ => False) z2 w' → _) := Lib.hid (fun w' (ho : Only (fun _ => False) z2 w') => HG.out w' (ho2.trans ho))
            replace HV : Hid (∀ w', Only (fun _ => False) z2 w' → _) := Lib.hid (fun w' (ho : Only (fun _ => False) z2 w') => HV.out w' (ho2.trans ho))
            clear cx e0 e1 e2 e3 e4
            have HO2 := Lib.hid ho2
            clear ho2 HSL f3 f4
            go_upto_region 18 with fail
            refine wp_region_noPanic ?_
            refine wp_region_held_drew (S := (fun w' => w'.cell? ⟨b, off + i, none⟩ = some (.int .i64 (k : Int)) ∧ w'.cell? ⟨g, 0, none⟩ = some (.int .i64 at_) ∧ w'.cell? ⟨g, 1, none⟩ = some (.int .i64 ac) ∧ w'.cell? ⟨g, 2, none⟩ = some (.int .i64 ae) ∧ w'.cell? ⟨g, 3, none⟩ = some (.int .i64 au) ∧ w'.cell? ⟨g, 4, none⟩ = some (.int .i64 ah))) (by kernel_rfl) (HSM.out _ (Only.refl _ _).drew) (fun hHeld => ?_)
            obtain ⟨y0, hy0⟩ : ∃ x, x = z2.drew := ⟨_, rfl⟩
            rw [← hy0] at hHeld ⊢
            have hot : Hid (Only (fun _ => False) z2 y0) := Lib.hid (by rw [hy0]; exact (Only.refl _ _).drew)
            clear hy0
            refine wpAnyH_take (i := 0) (v := ?_) rfl (by kernel_rfl) (by kernel_rfl) (by kernel_rfl) (fun _ _ _ h => h) (Or.inl ⟨by rfl, ?_⟩) (by assumption) ?_
            rotate_left 1
            · intro w' hSw
              try dsimp only at hSw
              go_simp
              try with_reducible rfl
            try simp only [List.getElem_toArray, List.getElem_cons_zero, Act.put, List.setIfInBounds_toArray, List.set_cons_zero, List.set_cons_succ]
            refine wpAnyH_take (i := 1) (v := ?_) rfl (by kernel_rfl) (by kernel_rfl) (by kernel_rfl) (fun _ _ _ h => h) (Or.inl ⟨by rfl, ?_⟩) (by assumption) ?_
            rotate_left 1
            · intro w' hSw
              try dsimp only at hSw
              go_simp
              try with_reducible rfl
            try simp only [List.getElem_toArray, List.getElem_cons_zero, List.getElem_cons_succ, Act.put, List.setIfInBounds_toArray, List.set_cons_zero, List.set_cons_succ]
            refine wpAnyH_take (i := 2) (v := ?_) rfl (by kernel_rfl) (by kernel_rfl) (by kernel_rfl) (fun _ _ _ h => h) (Or.inl ⟨by rfl, ?_⟩) (by assumption) ?_
            rotate_left 1
            · intro w' hSw
              try dsimp only at hSw
              go_simp
              try with_reducible rfl
            try simp only [List.getElem_toArray, List.getElem_cons_zero, List.getElem_cons_succ, Act.put, List.setIfInBounds_toArray, List.set_cons_zero, List.set_cons_succ]
            refine wpAnyH_take (i := 3) (v := ?_) rfl (by kernel_rfl) (by kernel_rfl) (by kernel_rfl) (fun _ _ _ h => h) (Or.inl ⟨by rfl, ?_⟩) (by assumption) ?_
            rotate_left 1
            · intro w' hSw
              try dsimp only at hSw
              go_simp
              try with_reducible rfl
            try simp only [List.getElem_toArray, List.getElem_cons_zero, List.getElem_cons_succ, Act.put, List.setIfInBounds_toArray, List.set_cons_zero, List.set_cons_succ]
            refine wpAnyH_take (i := 4) (v := ?_) rfl (by kernel_rfl) (by kernel_rfl) (by kernel_rfl) (fun _ _ _ h => h) (Or.inl ⟨by rfl, ?_⟩) (by assumption) ?_
            rotate_left 1
            · intro w' hSw
              try dsimp only at hSw
              go_simp
              try with_reducible rfl
            try simp only [List.getElem_toArray, List.getElem_cons_zero, List.getElem_cons_succ, Act.put, List.setIfInBounds_toArray, List.set_cons_zero, List.set_cons_succ]
            refine wpAnyH_take (i := 6) (v := ?_) rfl (by kernel_rfl) (by kernel_rfl) (by kernel_rfl) (fun _ _ _ h => h) (Or.inl ⟨by rfl, ?_⟩) (by assumption) ?_
            rotate_left 1
            · intro w' hSw
              try dsimp only at hSw
              go_simp
              try with_reducible rfl
            try simp only [List.getElem_toArray, List.getElem_cons_zero, List.getElem_cons_succ, Act.put, List.setIfInBounds_toArray, List.set_cons_zero, List.set_cons_succ]
            refine wpAnyH_take (i := 8) (v := ?_) rfl (by kernel_rfl) (by kernel_rfl) (by kernel_rfl) (fun _ _ _ h => h) (Or.inl ⟨by rfl, ?_⟩) (by assumption) ?_
            rotate_left 1
            · intro w' hSw
              try dsimp only at hSw
              go_simp
              try with_reducible rfl
            try simp only [List.getElem_toArray, List.getElem_cons_zero, List.getElem_cons_succ, Act.put, List.setIfInBounds_toArray, List.set_cons_zero, List.set_cons_succ]
            refine wpAnyH_ready (rs := [5]) (by kernel_rfl) (by simp) ?_
            refine AllReadyH.cons rfl (fun K hK => ?_) AllReadyH.nil
            try simp only [List.getElem_toArray, List.getElem_cons_zero, List.getElem_cons_succ]
            go_simp
            go_at_call 32
            with_reducible refine (HV.out _ hot.out).mono ?_
            rintro _ W1 ⟨rfl, ho⟩
            replace hot := Lib.hid (hot.out.trans ho)
            clear ho
            try dsimp only
            refine hK.out _ _ (HSM.out _ hot.out) (fun hHeld1 => ?_)
            clear hK K
            try simp only [List.getElem_toArray, List.getElem_cons_zero, List.getElem_cons_succ, Act.put, List.setIfInBounds_toArray, List.set_cons_zero, List.set_cons_succ]
            refine wpAnyH_ready (rs := [7]) (by kernel_rfl) (by simp) ?_
            refine AllReadyH.cons rfl (fun K hK => ?_) AllReadyH.nil
            try simp only [List.getElem_toArray, List.getElem_cons_zero, List.getElem_cons_succ]
            go_simp
            go_at_call 47
            with_reducible refine (HLF.out _).mono ?_
            rintro _ W2 ⟨rfl, ho⟩
            replace hot := Lib.hid (hot.out.trans ho)
            clear ho
            try dsimp only
            refine hK.out _ _ (HSM.out _ hot.out) (fun hHeld2 => ?_)
            clear hK K
            try simp only [List.getElem_toArray, List.getElem_cons_zero, List.getElem_cons_succ, Act.put, List.setIfInBounds_toArray, List.set_cons_zero, List.set_cons_succ]
            refine wpAnyH_take (i := 9) (v := ?_) rfl (by kernel_rfl) (by kernel_rfl) (by kernel_rfl) (fun _ _ _ h => h) (Or.inl ⟨by rfl, ?_⟩) (by assumption) ?_
            rotate_left 1
            · intro w' hSw
              try dsimp only at hSw
              go_simp
              try with_reducible rfl
            try simp only [List.getElem_toArray, List.getElem_cons_zero, List.getElem_cons_succ, Act.put, List.setIfInBounds_toArray, List.set_cons_zero, List.set_cons_succ]
            refine wpAnyH_take (i := 10) (v := ?_) rfl (by kernel_rfl) (by kernel_rfl) (by kernel_rfl) (fun _ _ _ h => h) (Or.inl ⟨by rfl, ?_⟩) (by assumption) ?_
            rotate_left 1
            · intro w' hSw
              try dsimp only at hSw
              go_simp
              try with_reducible rfl
            try simp only [List.getElem_toArray, List.getElem_cons_zero, List.getElem_cons_succ, Act.put, List.setIfInBounds_toArray, List.set_cons_zero, List.set_cons_succ]
            refine wpAnyH_take (i := 11) (v := ?_) rfl (by kernel_rfl) (by kernel_rfl) (by kernel_rfl) (fun _ _ _ h => h) (Or.inl ⟨by rfl, ?_⟩) (by assumption) ?_
            rotate_left 1
            · intro w' hSw
              try dsimp only at hSw
              go_simp
              try with_reducible rfl
            try simp only [List.getElem_toArray, List.getElem_cons_zero, List.getElem_cons_succ, Act.put, List.setIfInBounds_toArray, List.set_cons_zero, List.set_cons_succ]
            refine wpAnyH_take (i := 12) (v := ?_) rfl (by kernel_rfl) (by kernel_rfl) (by kernel_rfl) (fun _ _ _ h => h) (Or.inl ⟨by rfl, ?_⟩) (by assumption) ?_
            rotate_left 1
            · intro w' hSw
              try dsimp only at hSw
              go_simp
              try with_reducible rfl
            try simp only [List.getElem_toArray, List.getElem_cons_zero, List.getElem_cons_succ, Act.put, List.setIfInBounds_toArray, List.set_cons_zero, List.set_cons_succ]
            refine wpAnyH_take (i := 13) (v := ?_) rfl (by kernel_rfl) (by kernel_rfl) (by kernel_rfl) (fun _ _ _ h => h) (Or.inl ⟨by rfl, ?_⟩) (by assumption) ?_
            rotate_left 1
            · intro w' hSw
              try dsimp only at hSw
              go_simp
              try with_reducible rfl
            try simp only [List.getElem_toArray, List.getElem_cons_zero, List.getElem_cons_succ, Act.put, List.setIfInBounds_toArray, List.set_cons_zero, List.set_cons_succ]
            refine wpAnyH_take (i := 14) (v := ?_) rfl (by kernel_rfl) (by kernel_rfl) (by kernel_rfl) (fun _ _ _ h => h) (Or.inl ⟨by rfl, ?_⟩) (by assumption) ?_
            rotate_left 1
            · intro w' hSw
              try dsimp only at hSw
              go_simp
              try with_reducible rfl
            try simp only [List.getElem_toArray, List.getElem_cons_zero, List.getElem_cons_succ, Act.put, List.setIfInBounds_toArray, List.set_cons_zero, List.set_cons_succ]
            refine wpAnyH_take (i := 15) (v := ?_) rfl (by kernel_rfl) (by kernel_rfl) (by kernel_rfl) (fun _ _ _ h => h) (Or.inl ⟨by rfl, ?_⟩) (by assumption) ?_
            rotate_left 1
            · intro w' hSw
              try dsimp only at hSw
              go_simp
              try with_reducible rfl
            try simp only [List.getElem_toArray, List.getElem_cons_zero, List.getElem_cons_succ, Act.put, List.setIfInBounds_toArray, List.set_cons_zero, List.set_cons_succ]
            refine wpAnyH_take (i := 16) (v := ?_) rfl (by kernel_rfl) (by kernel_rfl) (by kernel_rfl) (fun _ _ _ h => h) (Or.inl ⟨by rfl, ?_⟩) (by assumption) ?_
            rotate_left 1
            · intro w' hSw
              try dsimp only at hSw
              go_simp
              try with_reducible rfl
            try simp only [List.getElem_toArray, List.getElem_cons_zero, List.getElem_cons_succ, Act.put, List.setIfInBounds_toArray, List.set_cons_zero, List.set_cons_succ]
            refine wpAnyH_take (i := 19) (v := ?_) rfl (by kernel_rfl) (by kernel_rfl) (by kernel_rfl) (fun _ _ _ h => h) (Or.inl ⟨by rfl, ?_⟩) (by assumption) ?_
            rotate_left 1
            · intro w' hSw
              try dsimp only at hSw
              go_simp
              try with_reducible rfl
            try simp only [List.getElem_toArray, List.getElem_cons_zero, List.getElem_cons_succ, Act.put, List.setIfInBounds_toArray, List.set_cons_zero, List.set_cons_succ]
            refine wpAnyH_take (i := 20) (v := ?_) rfl (by kernel_rfl) (by kernel_rfl) (by kernel_rfl) (fun _ _ _ h => h) (Or.inl ⟨by rfl, ?_⟩) (by assumption) ?_
            rotate_left 1
            · intro w' hSw
              try dsimp only at hSw
              go_simp
              try with_reducible rfl
            try simp only [List.getElem_toArray, List.getElem_cons_zero, List.getElem_cons_succ, Act.put, List.setIfInBounds_toArray, List.set_cons_zero, List.set_cons_succ]
            refine wpAnyH_take (i := 21) (v := ?_) rfl (by kernel_rfl) (by kernel_rfl) (by kernel_rfl) (fun _ _ _ h => h) (Or.inl ⟨by rfl, ?_⟩) (by assumption) ?_
            rotate_left 1
            · intro w' hSw
              try dsimp only at hSw
              go_simp
              try with_reducible rfl
            try simp only [List.getElem_toArray, List.getElem_cons_zero, List.getElem_cons_succ, Act.put, List.setIfInBounds_toArray, List.set_cons_zero, List.set_cons_succ]
            refine wpAnyH_take (i := 22) (v := ?_) rfl (by kernel_rfl) (by kernel_rfl) (by kernel_rfl) (fun _ _ _ h => h) (Or.inl ⟨by rfl, ?_⟩) (by assumption) ?_
            rotate_left 1
            · intro w' hSw
              try dsimp only at hSw
              go_simp
              try with_reducible rfl
            try simp only [List.getElem_toArray, List.getElem_cons_zero, List.getElem_cons_succ, Act.put, List.setIfInBounds_toArray, List.set_cons_zero, List.set_cons_succ]
            refine wpAnyH_ready (rs := [17]) (by kernel_rfl) (by simp) ?_
            refine AllReadyH.cons rfl (fun K hK => ?_) AllReadyH.nil
            try simp only [List.getElem_toArray, List.getElem_cons_zero, List.getElem_cons_succ]
            go_simp
            go_at_call 33
            with_reducible refine (HG.out _ hot.out).mono ?_
            rintro _ W3 ⟨rfl, ho⟩
            replace hot := Lib.hid (hot.out.trans ho)
            clear ho
            try dsimp only
            refine hK.out _ _ (HSM.out _ hot.out) (fun hHeld3 => ?_)
            clear hK K
            try simp only [List.getElem_toArray, List.getElem_cons_zero, List.getElem_cons_succ, Act.put, List.setIfInBounds_toArray, List.set_cons_zero, List.set_cons_succ]
            refine wpAnyH_take (i := 18) (v := ?_) rfl (by kernel_rfl) (by kernel_rfl) (by kernel_rfl) (fun _ _ _ h => h) (Or.inl ⟨by rfl, ?_⟩) (by assumption) ?_
            rotate_left 1
            · intro w' hSw
              try dsimp only at hSw
              go_simp
              try with_reducible rfl
            try simp only [List.getElem_toArray, List.getElem_cons_zero, List.getElem_cons_succ, Act.put, List.setIfInBounds_toArray, List.set_cons_zero, List.set_cons_succ]
            refine wpAnyH_take (i := 23) (v := ?_) rfl (by kernel_rfl) (by kernel_rfl) (by kernel_rfl) (fun _ _ _ h => h) (Or.inl ⟨by rfl, ?_⟩) (by assumption) ?_
            rotate_left 1
            · intro w' hSw
              try dsimp only at hSw
              go_simp
              try with_reducible rfl
            try simp only [List.getElem_toArray, List.getElem_cons_zero, List.getElem_cons_succ, Act.put, List.setIfInBounds_toArray, List.set_cons_zero, List.set_cons_succ]
            refine wpAnyH_take (i := 24) (v := ?_) rfl (by kernel_rfl) (by kernel_rfl) (by kernel_rfl) (fun _ _ _ h => h) (Or.inl ⟨by rfl, ?_⟩) (by assumption) ?_
            rotate_left 1
            · intro w' hSw
              try dsimp only at hSw
              go_simp
              try with_reducible rfl
            try simp only [List.getElem_toArray, List.getElem_cons_zero, List.getElem_cons_succ, Act.put, List.setIfInBounds_toArray, List.set_cons_zero, List.set_cons_succ]
            refine wpAnyH_take (i := 25) (v := ?_) rfl (by kernel_rfl) (by kernel_rfl) (by kernel_rfl) (fun _ _ _ h => h) (Or.inl ⟨by rfl, ?_⟩) (by assumption) ?_
            rotate_left 1
            · intro w' hSw
              try dsimp only at hSw
              go_simp
              try with_reducible rfl
            try simp only [List.getElem_toArray, List.getElem_cons_zero, List.getElem_cons_succ, Act.put, List.setIfInBounds_toArray, List.set_cons_zero, List.set_cons_succ]
            refine wpAnyH_take (i := 26) (v := ?_) rfl (by kernel_rfl) (by kernel_rfl) (by kernel_rfl) (fun _ _ _ h => h) (Or.inl ⟨by rfl, ?_⟩) (by assumption) ?_
            rotate_left 1
            · intro w' hSw
              try dsimp only at hSw
              go_simp
              try with_reducible rfl
            try simp only [List.getElem_toArray, List.getElem_cons_zero, List.getElem_cons_succ, Act.put, List.setIfInBounds_toArray, List.set_cons_zero, List.set_cons_succ]
            refine wpAnyH_take (i := 27) (v := ?_) rfl (by kernel_rfl) (by kernel_rfl) (by kernel_rfl) (fun _ _ _ h => h) (Or.inl ⟨by rfl, ?_⟩) (by assumption) ?_
            rotate_left 1
            · intro w' hSw
              try dsimp only at hSw
              go_simp
              try with_reducible rfl
            try simp only [List.getElem_toArray, List.getElem_cons_zero, List.getElem_cons_succ, Act.put, List.setIfInBounds_toArray, List.set_cons_zero, List.set_cons_succ]
            refine wpAnyH_take (i := 28) (v := ?_) rfl (by kernel_rfl) (by kernel_rfl) (by kernel_rfl) (fun _ _ _ h => h) (Or.inl ⟨by rfl, ?_⟩) (by assumption) ?_
            rotate_left 1
            · intro w' hSw
              try dsimp only at hSw
              go_simp
              try with_reducible rfl
            try simp only [List.getElem_toArray, List.getElem_cons_zero, List.getElem_cons_succ, Act.put, List.setIfInBounds_toArray, List.set_cons_zero, List.set_cons_succ]
            refine wpAnyH_take (i := 29) (v := ?_) rfl (by kernel_rfl) (by kernel_rfl) (by kernel_rfl) (fun _ _ _ h => h) (Or.inl ⟨by rfl, ?_⟩) (by assumption) ?_
            rotate_left 1
            · intro w' hSw
              try dsimp only at hSw
              go_simp
              try with_reducible rfl
            try simp only [List.getElem_toArray, List.getElem_cons_zero, List.getElem_cons_succ, Act.put, List.setIfInBounds_toArray, List.set_cons_zero, List.set_cons_succ]
            refine wpAnyH_take (i := 30) (v := ?_) rfl (by kernel_rfl) (by kernel_rfl) (by kernel_rfl) (fun _ _ _ h => h) (Or.inl ⟨by rfl, ?_⟩) (by assumption) ?_
            rotate_left 1
            · intro w' hSw
              try dsimp only at hSw
              go_simp
              try with_reducible rfl
            try simp only [List.getElem_toArray, List.getElem_cons_zero, List.getElem_cons_succ, Act.put, List.setIfInBounds_toArray, List.set_cons_zero, List.set_cons_succ]
            refine wpAnyH_take (i := 33) (v := ?_) rfl (by kernel_rfl) (by kernel_rfl) (by kernel_rfl) (fun _ _ _ h => h) (Or.inl ⟨by rfl, ?_⟩) (by assumption) ?_
            rotate_left 1
            · intro w' hSw
              try dsimp only at hSw
              go_simp
              try with_reducible rfl
            try simp only [List.getElem_toArray, List.getElem_cons_zero, List.getElem_cons_succ, Act.put, List.setIfInBounds_toArray, List.set_cons_zero, List.set_cons_succ]
            refine wpAnyH_take (i := 34) (v := ?_) rfl (by kernel_rfl) (by kernel_rfl) (by kernel_rfl) (fun _ _ _ h => h) (Or.inl ⟨by rfl, ?_⟩) (by assumption) ?_
            rotate_left 1
            · intro w' hSw
              try dsimp only at hSw
              go_simp
              try with_reducible rfl
            try simp only [List.getElem_toArray, List.getElem_cons_zero, List.getElem_cons_succ, Act.put, List.setIfInBounds_toArray, List.set_cons_zero, List.set_cons_succ]
            refine wpAnyH_ready (rs := [31]) (by kernel_rfl) (by simp) ?_
            refine AllReadyH.cons rfl (fun K hK => ?_) AllReadyH.nil
            try simp only [List.getElem_toArray, List.getElem_cons_zero, List.getElem_cons_succ]
            go_simp
            go_at_call 33
            with_reducible refine (HG.out _ hot.out).mono ?_
            rintro _ W4 ⟨rfl, ho⟩
            replace hot := Lib.hid (hot.out.trans ho)
            clear ho
            try dsimp only
            refine hK.out _ _ (HSM.out _ hot.out) (fun hHeld4 => ?_)
            clear hK K
            try simp only [List.getElem_toArray, List.getElem_cons_zero, List.getElem_cons_succ, Act.put, List.setIfInBounds_toArray, List.set_cons_zero, List.set_cons_succ]
            refine wpAnyH_take (i := 32) (v := ?_) rfl (by kernel_rfl) (by kernel_rfl) (by kernel_rfl) (fun _ _ _ h => h) (Or.inl ⟨by rfl, ?_⟩) (by assumption) ?_
            rotate_left 1
            · intro w' hSw
              try dsimp only at hSw
              go_simp
              try with_reducible rfl
            try simp only [List.getElem_toArray, List.getElem_cons_zero, List.getElem_cons_succ, Act.put, List.setIfInBounds_toArray, List.set_cons_zero, List.set_cons_succ]
            refine wpAnyH_take (i := 35) (v := ?_) rfl (by kernel_rfl) (by kernel_rfl) (by kernel_rfl) (fun _ _ _ h => h) (Or.inl ⟨by rfl, ?_⟩) (by assumption) ?_
            rotate_left 1
            · intro w' hSw
              try dsimp only at hSw
              go_simp
              try with_reducible rfl
            try simp only [List.getElem_toArray, List.getElem_cons_zero, List.getElem_cons_succ, Act.put, List.setIfInBounds_toArray, List.set_cons_zero, List.set_cons_succ]
            refine wpAnyH_take (i := 36) (v := ?_) rfl (by kernel_rfl) (by kernel_rfl) (by kernel_rfl) (fun _ _ _ h => h) (Or.inl ⟨by rfl, ?_⟩) (by assumption) ?_
            rotate_left 1
            · intro w' hSw
              try dsimp only at hSw
              go_simp
              try with_reducible rfl
            try simp only [List.getElem_toArray, List.getElem_cons_zero, List.getElem_cons_succ, Act.put, List.setIfInBounds_toArray, List.set_cons_zero, List.set_cons_succ]
            refine wpAnyH_done (by kernel_rfl) ?_ _
            refine NoPanic.normal ?_
            rename World => wz
            have HOZ := Lib.hid (HO.out.trans (HO2.out.trans hot.out))
            clear hHeld hot HSM HG HV HLF HO2 HO
            go_wp2_with fail
            go_roundw
            case rel => exact ⟨i + 1, by omega, by go_num, HOZ⟩
            case measure => simp [intOf]; omega
          · obtain rfl : i = n := by omega
            have HL9 : Hid (∀ w', BkAt w' p A → BkAt w' q A → _) := Lib.hid (fun w' h1 h2 => like_any p q A w' h1 h2 HOK.out)
            have HQ9 := Lib.hid (HQ8.out.only HO.out (fun f => f))
            have HB9 := Lib.hid (HB8.out.only HO.out (fun f => f))
            have HR9 := Lib.hid (HR8.out.only HO.out (fun _ _ f => f))
            have HO9 : Hid (Only (fun x => p ≤ x) w wr) := Lib.hid (HO8.out.trans (HO.out.mono (fun _ _ f => f.elim)))
            clear HQ8 HB8 HR8 HO8 HO
            by_cases hp0 : P = 0
            · have hb := HB9.out
              rw [HBA.out.z3 hp0] at hb
              have HL := Lib.hid (HL9.out wr hb HQ9.out)
              have hP0 : ¬ 0 < P := by omega
              clear hb HL9 hp0
              go_wp2_with fail
              refine HL.out.mono ?_
              rintro _ w9 ⟨rfl, ho⟩
              have HOE := Lib.hid (HHV.out _ (HO9.out.trans (ho.mono (fun _ _ f => f.elim))))
              clear ho
              go_wp2_with fail
              go_ret
              exact ⟨rfl, HOE.out⟩
            · have hP9 := HPP.out
              obtain ⟨ue, ua⟩ := HBA.out.c3 (by omega)
              have HRF := Lib.hid (refund_any p (shT A l 0 P) x1 i f1 l P wr HB9.out HBA.out.b3 HR9.out HC1.out HX.out)
              rw [ue, ua] at HRF
              have hP0 : 0 < P := by omega
              clear ue ua hP9 hp0
              go_wp2_with fail
              refine HRF.out.mono ?_
              rintro _ w9 ⟨rfl, ht, ho⟩
              have HL := Lib.hid (HL9.out w9 ht (HQ9.out.only ho (fun e => HPQ.out e.symm)))
              have HOX : Hid (Only (fun x => p ≤ x) w w9) := Lib.hid (HO9.out.trans (ho.mono (fun x _ e => by omega)))
              clear ht ho HL9 HRF
              go_wp2_with fail
              refine HL.out.mono ?_
              rintro _ w10 ⟨rfl, ho⟩
              have HOE := Lib.hid (HHV.out _ (HOX.out.trans (ho.mono (fun _ _ f => f.elim))))
              clear ho
              go_wp2_with fail
              go_ret
              exact ⟨rfl, HOE.out⟩
    · have hE2 : (holdE A l ls ym == 0) = false := by simpa using hE
      generalize holdE A l ls ym = E at *
      generalize holdA A l ls ym = A2 at *
      clear hE
      go_wp2_with fail
      refine HH.out.mono ?_
      rintro _ w6 ⟨rfl, ht, ho⟩
      have HO6 : Hid (Only (fun x => p ≤ x) w w6) := Lib.hid (HO5.out.trans (ho.mono (fun x _ e => by omega)))
      clear ht ho HH
      go_wp2_with fail
      refine (haves_any _).mono ?_
      rintro _ w7 ⟨rfl, ho⟩
      have HO7 := Lib.hid (HHV.out _ (HO6.out.trans (ho.mono (fun _ _ f => f.elim))))
      clear ho
      go_wp2_with fail
      go_ret
      exact ⟨rfl, HO7.out⟩
end Go.Proofs.Ytfpeimihlihphaa.fnd
