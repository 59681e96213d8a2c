/- FundsRooms' walk. -/
import Derived.Test.YtfpeimihlihphaaFuL
import Derived.Test.YtfpeimihlihphaaFuRm
import Derived.Test.YtfpeimihlihphaaOpF
import Derived.Deep.CutRange
import Derived.Deep.CutBlock
namespace Go.Proofs.Ytfpeimihlihphaa.fnd
open Go.RowKit mem tre
set_option linter.unusedVariables false

theorem RowF.only {w w' : World} {a : Option Addr} {len : Nat} (h : RowF w a len) (ho : Only (fun _ => False) w w') : RowF w' a len := by
  refine ⟨h.1, h.2.imp (fun x => x) fun ⟨b, off, e, hc⟩ => ⟨b, off, e, fun i hi => ?_⟩⟩
  obtain ⟨d, hd, hin⟩ := hc i hi
  have ho' : Only (fun q => w.heap.size ≤ q) w w' := ho.mono (fun _ _ f => f.elim)
  exact ⟨d, hd.keep (Nat.le_refl _) ho', hin.keep (Nat.le_refl _) ho'⟩
set_option maxRecDepth 100000 in
set_option maxHeartbeats 8000000 in
theorem rooms_any (a1 : Option Addr) (l1 c1 : Nat) (d : ActD) (w0 : World) (h0 : RowF w0 a1 l1) (hd0 : ActIn w0 d) :
    Calls Try.prog 8 #[.slice a1 l1 c1, d.v] w0 fun e w' => e = .returned (.bool true) ∧ Only (fun _ => False) w0 w' := by
  have hm1 := h0.1
  unfold maxLen at hm1
  obtain ⟨y0, y1, y2, y3, y4, y5, y6, y7, y8, y9, ym, yc, ⟨ya, yb, ye, yu, yh⟩⟩ := d
  unfold ActD.v aggAct
  dsimp only
  obtain ⟨w, hw1⟩ : ∃ zz, zz = w0.alloc (.cells #[.int .i64 y0, .int .i64 y1, .slice y2 y3 y4, .slice y6 y7 y8, .int .i64 ym, .bool yc, .int .i64 ya, .int .i64 yb, .int .i64 ye, .int .i64 yu, .int .i64 yh] 74) := ⟨_, rfl⟩
  obtain ⟨g, hg⟩ : ∃ zz, zz = w0.heap.size := ⟨_, rfl⟩
  have b0 : w.cell? ⟨g, 0, none⟩ = some (.int .i64 y0) := by rw [hw1]; exact alloc_cell hg rfl
  have b1 : w.cell? ⟨g, 1, none⟩ = some (.int .i64 y1) := by rw [hw1]; exact alloc_cell hg rfl
  have b2 : w.cell? ⟨g, 2, none⟩ = some (.slice y2 y3 y4) := by rw [hw1]; exact alloc_cell hg rfl
  have b3 : w.cell? ⟨g, 3, none⟩ = some (.slice y6 y7 y8) := by rw [hw1]; exact alloc_cell hg rfl
  have b4 : w.cell? ⟨g, 4, none⟩ = some (.int .i64 ym) := by rw [hw1]; exact alloc_cell hg rfl
  have b5 : w.cell? ⟨g, 5, none⟩ = some (.bool yc) := by rw [hw1]; exact alloc_cell hg rfl
  have b6 : w.cell? ⟨g, 6, none⟩ = some (.int .i64 ya) := by rw [hw1]; exact alloc_cell hg rfl
  have b7 : w.cell? ⟨g, 7, none⟩ = some (.int .i64 yb) := by rw [hw1]; exact alloc_cell hg rfl
  have b8 : w.cell? ⟨g, 8, none⟩ = some (.int .i64 ye) := by rw [hw1]; exact alloc_cell hg rfl
  have b9 : w.cell? ⟨g, 9, none⟩ = some (.int .i64 yu) := by rw [hw1]; exact alloc_cell hg rfl
  have b10 : w.cell? ⟨g, 10, none⟩ = some (.int .i64 yh) := by rw [hw1]; exact alloc_cell hg rfl
  have hng : ¬ w.heap.size ≤ g := by rw [hw1, hg]; simp
  have hk1 : Only (fun _ => False) w0 w := by rw [hw1]; exact (Only.refl _ _).alloc _
  have K1 := Lib.hid hk1
  have H1 := Lib.hid (h0.only hk1)
  have HIN := Lib.hid (hd0.keep (Nat.le_refl _) (hk1.mono (fun _ _ f => f.elim)))
  have HBX : Hid (∀ w', Only (fun q => w.heap.size ≤ q) w w' → w'.cell? ⟨g, 0, none⟩ = some (.int .i64 y0) ∧ w'.cell? ⟨g, 1, none⟩ = some (.int .i64 y1) ∧ w'.cell? ⟨g, 2, none⟩ = some (.slice y2 y3 y4) ∧ w'.cell? ⟨g, 3, none⟩ = some (.slice y6 y7 y8) ∧ w'.cell? ⟨g, 4, none⟩ = some (.int .i64 ym) ∧ w'.cell? ⟨g, 5, none⟩ = some (.bool yc) ∧ w'.cell? ⟨g, 6, none⟩ = some (.int .i64 ya) ∧ w'.cell? ⟨g, 7, none⟩ = some (.int .i64 yb) ∧ w'.cell? ⟨g, 8, none⟩ = some (.int .i64 ye) ∧ w'.cell? ⟨g, 9, none⟩ = some (.int .i64 yu) ∧ w'.cell? ⟨g, 10, none⟩ = some (.int .i64 yh)) := Lib.hid (fun w' ho => ⟨ho.cell' b0 hng, ho.cell' b1 hng, ho.cell' b2 hng, ho.cell' b3 hng, ho.cell' b4 hng, ho.cell' b5 hng, ho.cell' b6 hng, ho.cell' b7 hng, ho.cell' b8 hng, ho.cell' b9 hng, ho.cell' b10 hng⟩)
  clear h0 hd0 hk1 hng b0 b1 b2 b3 b4 b5 b6 b7 b8 b9 b10
  go_enter Try.func8, Try.ntmps8
  go_upto_region 1 with fail
  simp only [← hw1, ← hg]
  clear hw1 hg
  go_wp2_with fail
  refine (bnew_any w).mono ?_
  rintro _ w1 ⟨rfl, ht, ho⟩
  have hp0 : w.heap.size < w1.heap.size := ht.lt
  have HB0 : Hid (FB w.heap.size (w1.alloc (.cells Try.zeroCells72 72)) w.heap.size w1.heap.size A0) := Lib.hid ⟨ht.only ((Only.refl (fun _ => False) _).alloc _) (fun f => f), BkAt.fresh rbzero w1 _, Nat.le_refl _, by omega, by omega, Bok.new⟩
  have HO0 : Hid (Only (fun x => w.heap.size ≤ x) w (w1.alloc (.cells Try.zeroCells72 72))) := Lib.hid ((ho.mono (fun _ _ f => f.elim)).alloc _)
  clear ht ho
  obtain ⟨p, hp⟩ : ∃ p, p = w.heap.size := ⟨_, rfl⟩
  obtain ⟨q, hq⟩ : ∃ q, q = w1.heap.size := ⟨_, rfl⟩
  obtain ⟨w2, hw2⟩ : ∃ x, x = w1.alloc (.cells Try.zeroCells72 72) := ⟨_, rfl⟩
  have HP := Lib.hid hp
  go_upto_block 0 with fail
  simp only [← hp, ← hq, ← hw2] at HB0 HO0 hp0 ⊢
  clear hp hq hw2 hp0
  go_cut [7] from 16 to 33 (fun iv wx => ∃ (k : Int) (A : List Ac), iv = .int .i64 k ∧ Hid (FB p wx p q A) ∧ Hid (Only (fun x => p ≤ x) w wx))
  case first =>
    go_wp2_with fail
    go_loopw [7] (fun iv wr => ∃ (k : Nat) (A : List Ac), k ≤ 50 ∧ iv = .int .i64 (k : Int) ∧ Hid (FB p wr p q A) ∧ Hid (Only (fun x => p ≤ x) w wr)) (fun iv _ => 50 - (intOf iv).toNat)
    case atStart => exact ⟨0, A0, by omega, rfl, HB0, HO0⟩
    case round =>
      obtain ⟨k, A, hk, rfl, HB, HO⟩ := hrel
      by_cases h8 : k < l1
      · by_cases h20 : k < 50
        · obtain ⟨b, off, rfl, hcell⟩ := H1.out.2.resolve_left (by omega)
          obtain ⟨d, hd, hin⟩ := hcell k h8
          replace hd := hd.keep (Nat.le_of_eq HP.out.symm) HO.out
          replace hin := hin.keep (Nat.le_of_eq HP.out.symm) HO.out
          obtain ⟨z0, z1, z2, z3, z4, z5, z6, z7, z8, z9, z10, z11, z12⟩ := d
          obtain ⟨d0, d1, d2, d3, d4, d5, d6, d7, d8, d9, d10⟩ := hd
          obtain ⟨i0, i1, i2, i3⟩ := hin
          dsimp only at *
          have HDO := Lib.hid (do_any p p q A z0 z1 z2 z3 z4 z5 z6 z7 z8 z9 z10 z11 z12 wr HB.out i0 i1 i2 i3)
          clear hcell i0 i1 i2 i3
          have hk1 : (k : Int) < l1 := by omega
          have hk2 : (k : Int) < 50 := by omega
          have hk0 : (0 : Int) ≤ k := by omega
          go_wp2_with fail
          refine HDO.out.mono ?_
          rintro _ w5 ⟨rfl, ⟨A', hb⟩, ho⟩
          have HB5 := Lib.hid hb
          have HO5 : Hid (Only (fun x => p ≤ x) w w5) := Lib.hid (HO.out.trans (ho.mono (fun k _ e => e.elim (fun e => by omega) (fun e => by have := HB.out.2.2.2.1; omega))))
          clear hb ho d0 d1 d2 d3 d4 d5 d6 d7 d8 d9 d10 HDO
          go_wp2_with fail
          go_roundw
          case rel => exact ⟨k + 1, A', by omega, by go_num, HB5, HO5⟩
          case measure => simp [intOf]; omega
        · have hk2 : ¬ (k : Int) < 50 := by omega
          go_wp2_with fail
          go_meet
          exact ⟨_, A, rfl, HB, HO⟩
      · go_wp2_with fail
        go_meet
        exact ⟨_, A, rfl, HB, HO⟩
  case rest =>
    obtain ⟨k, A, rfl, HB, HO⟩ := hcut
    rename World => wr
    clear HB0 HO0
    rw [← HP.out] at HBX
    obtain ⟨b0, b1, b2, b3, b4, b5, b6, b7, b8, b9, b10⟩ := HBX.out wr HO.out
    obtain ⟨n0, n1, n2, n3⟩ := HIN.out.keep (Nat.le_of_eq HP.out.symm) HO.out
    dsimp only at n0 n1 n2 n3
    have HLS := Lib.hid (lists_any y0 y1 y2 y3 y4 y5 y6 y7 y8 y9 ym yc ⟨ya, yb, ye, yu, yh⟩ wr n0 n1 n2 n3)
    unfold aggAct at HLS
    dsimp only at HLS
    clear n0 n1 n2 n3
    go_wp2_with fail
    refine HLS.out.mono ?_
    rintro _ w3 ⟨x1, f1, x2, f2, rfl, hr1, hc1, hr2, hc2, hb1, hb2, ho⟩
    have HB3 := Lib.hid (HB.out.only ho)
    have HO3 : Hid (Only (fun x => p ≤ x) w w3) := Lib.hid (HO.out.trans (ho.mono (fun _ _ f => f.elim)))
    have HX : Hid (∀ y, x1 = some y → y.block ≠ p) := Lib.hid (fun y e => by have := hb1 y e; have := HB.out.1.lt; omega)
    have HX2 : Hid (∀ y, x2 = some y → y.block ≠ p) := Lib.hid (fun y e => by have := hb2 y e; have := HB.out.1.lt; omega)
    have HR1 := Lib.hid hr1
    have HR2 := Lib.hid hr2
    have HC1 := Lib.hid hc1
    clear hr1 hr2 hc1 hc2 hb1 hb2 ho HLS HB HO b0 b1 b2 b3 b4 b5 b6 b7 b8 b9 b10
    generalize y5.take 5 = l at *
    generalize y9.take 5 = ls at *
    generalize hln : l.length = n at *
    generalize hlm : ls.length = m at *
    have HRM := Lib.hid (room_any p A x1 n f1 l x2 m f2 ls w3 HB3.out.1 HB3.out.2.2.2.2.2 HR1.out HC1.out HR2.out)
    have HHV : Hid (∀ w', Only (fun x => p ≤ x) w w' → Only (fun _ => False) w0 w') := Lib.hid (fun w' ho => K1.out.then ho (fun q hq e => by have := HP.out; have := K1.out.size; omega))
    clear hln hlm
    by_cases hok : RoomOk l ls
    · have hE : roomE l ls = 0 := by unfold roomE; rw [if_pos hok]
      obtain ⟨hn0, hn1, he1, he2, he3⟩ := room_end HB3.out.2.2.2.2.2 hok
      rw [hE] at HRM
      have HH : Hid (∀ x w', Only (fun _ => False) w3 w' → _) := Lib.hid (fun x w' (ho : Only (fun _ => False) w3 w') => hold_any p A x1 n f1 l x2 m f2 ls x w' (HB3.out.1.only ho (fun f => f)) HB3.out.2.2.2.2.2 (HR1.out.only ho (fun _ _ f => f)) HC1.out (HR2.out.only ho (fun _ _ f => f)) HX.out)
      have HA1 : Hid (holdA A l ls (roomN A l ls + 1) = A) := Lib.hid (by unfold holdA; rw [if_neg he1])
      have HH1 := Lib.hid (HH.out (roomN A l ls + 1))
      have HH2 : Hid (∀ w', Only (fun x => x = p) w3 w' → BkAt w' p A → _) := Lib.hid (fun w' (ho : Only (fun x => x = p) w3 w') (hbk : BkAt w' p A) => hold_any p A x1 n f1 l x2 m f2 ls (roomN A l ls) w' hbk HB3.out.2.2.2.2.2 (HR1.out.only ho (fun y e => HX.out y e)) HC1.out (HR2.out.only ho (fun y e => HX2.out y e)) HX.out)
      clear hE HH hok
      generalize holdE A l ls (roomN A l ls + 1) = E1 at *
      generalize holdE A l ls (roomN A l ls) = E2 at *
      generalize holdA A l ls (roomN A l ls + 1) = A1 at *
      generalize holdA A l ls (roomN A l ls) = A2 at *
      generalize roomN A l ls = R at *
      go_wp2_with fail
      refine HRM.out.mono ?_
      rintro _ w4 ⟨rfl, ho⟩
      have HO4 := Lib.hid ho
      clear ho HRM
      go_wp2_with fail
      refine (haves_any _).mono ?_
      rintro _ w5 ⟨rfl, ho⟩
      have HO5 := Lib.hid (HO4.out.trans ho)
      clear ho HO4
      go_wp2_with fail
      refine (HH1.out _ HO5.out).mono ?_
      rintro _ w6 ⟨rfl, ht, ho⟩
      have HO6 : Hid (Only (fun x => p ≤ x) w w6) := Lib.hid ((HO3.out.trans (HO5.out.mono (fun _ _ f => f.elim))).trans (ho.mono (fun x _ e => by omega)))
      have HB6 : Hid (BkAt w6 p A) := Lib.hid (by rw [← HA1.out]; exact ht)
      have HH3 := Lib.hid (HH2.out w6 ((HO5.out.mono (fun _ _ f => f.elim)).trans ho) HB6.out)
      clear ht ho HA1 HH1 HH2 HO5 HO3 HB3 HR1 HR2 HX HX2 HC1 HIN HBX H1
      by_cases h1 : E1 = 1
      · subst h1
        obtain rfl := he2 rfl
        obtain rfl := he3 (by omega)
        clear he1 he2 he3 hn0 hn1
        go_wp2_with fail
        refine HH3.out.mono ?_
        rintro _ w7 ⟨rfl, ht, ho⟩
        have HO7 := Lib.hid (HHV.out _ (HO6.out.trans (ho.mono (fun x _ e => by omega))))
        clear ht ho
        go_wp2_with fail
        go_ret
        exact ⟨rfl, HO7.out⟩
      · have g0 : (E1 == 0) = false := by simpa using he1
        have g1 : (E1 == 1) = false := by simpa using h1
        by_cases h0 : R = 0
        · subst h0
          have HO7 := Lib.hid (HHV.out _ HO6.out)
          clear he1 he2 he3 hn0 hn1 h1
          go_wp2_with fail
          go_ret
          exact ⟨rfl, HO7.out⟩
        · have g2 : (R == 0) = false := by simpa using h0
          obtain rfl := he3 (by omega)
          clear he1 he2 he3 hn0 hn1 h1 h0
          go_wp2_with fail
          refine HH3.out.mono ?_
          rintro _ w7 ⟨rfl, ht, ho⟩
          have HO7 := Lib.hid (HHV.out _ (HO6.out.trans (ho.mono (fun x _ e => by omega))))
          clear ht ho
          go_wp2_with fail
          go_ret
          exact ⟨rfl, HO7.out⟩
    · have hE : roomE l ls = 1 := by unfold roomE; rw [if_neg hok]
      rw [hE] at HRM
      clear hE hok
      generalize roomN A l ls = R at *
      go_wp2_with fail
      refine HRM.out.mono ?_
      rintro _ w4 ⟨rfl, ho⟩
      have HO4 : Hid (Only (fun x => p ≤ x) w w4) := Lib.hid (HO3.out.trans (ho.mono (fun _ _ f => f.elim)))
      clear ho HRM
      go_wp2_with fail
      refine (haves_any _).mono ?_
      rintro _ w5 ⟨rfl, ho⟩
      have HO5 : Hid (Only (fun x => p ≤ x) w w5) := Lib.hid (HO4.out.trans (ho.mono (fun _ _ f => f.elim)))
      clear ho HO4
      go_wp2_with fail
      refine (haves_any _).mono ?_
      rintro _ w6 ⟨rfl, ho⟩
      have HO6 := Lib.hid (HHV.out _ (HO5.out.trans (ho.mono (fun _ _ f => f.elim))))
      clear ho HO5
      go_wp2_with fail
      go_ret
      exact ⟨rfl, HO6.out⟩
end Go.Proofs.Ytfpeimihlihphaa.fnd
